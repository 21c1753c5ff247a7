import PyProof.Rows.All
import Wide.All
import OpenK.AllK
import Wide.FinOn
import HandS.ForMost
import HandS.Flow
import HandS.IsInst
import HandS.Wide
import HandS.TupAny
import HandS.TupMul
import HandS.Conv
import HandS.More
import KE.KRevSl
import KE.DataMinMax
import PyProof.FactsAll.dict
import KE.KMinKey
import HandS.SortKw
import HandS.SortRule
import HandS.TupSets
import KE.KDictList
import HandS.Dict
import HandS.Style
import HandS.Zip0
import PyProof.Draws
import KE.GoesNew
import KE.GoesMore
import HandS.ListItems
import HandS.SetFor
import HandS.Strs
import HandS.DictComp
import PySem.Challenge.RW_latestof_k07_times_and_solutions_recogni
set_option Elab.async false
set_option linter.all false
set_option maxRecDepth 100000
/-! Ev: a small value language, and what it says of the model. Part 1: how plain data stand in the abstract heap. -/
namespace Ev
open PySem PySem.Spec PyProof.Rows L2

abbrev D := PyData
abbrev AS := Addr → Prop

mutual
inductive Rp (K : PySem.W.Frag) (H : Hp) (O : AS) : V → D → Prop
  | non : Rp K H O .non .none
  | bl (b : Bool) : Rp K H O (.bl b) (.bool b)
  | int (i : Int) : Rp K H O (.int i) (.int i)
  | str (x : Str) : x.length ≤ sizeLine → Rp K H O (.str x) (.str x)
  | tup {a : Addr} {xs : List V} {ds : List D} : SqT K H a xs → Rps K H O xs ds → Rp K H O (.ref a) (.tuple ds)
  | lst {a : Addr} {xs : List V} {ds : List D} : ¬ O a → Rd H a (.lst xs) → Rps K H O xs ds → Rp K H O (.ref a) (.list ds)
  | dic {a : Addr} {kvs : List (Key × V)} {kds : List (D × D)} : ¬ O a → H a = some (.dK kvs) → RpKs K H O kvs kds → Rp K H O (.ref a) (.dict kds)
inductive Rps (K : PySem.W.Frag) (H : Hp) (O : AS) : List V → List D → Prop
  | nil : Rps K H O [] []
  | cons {v : V} {vs : List V} {d : D} {ds : List D} : Rp K H O v d → Rps K H O vs ds → Rps K H O (v :: vs) (d :: ds)
inductive RpKs (K : PySem.W.Frag) (H : Hp) (O : AS) : List (Key × V) → List (D × D) → Prop
  | nil : RpKs K H O [] []
  | cons {k : Key} {v : V} {r : List (Key × V)} {e d : D} {s : List (D × D)} : Rp K H O (kV k) e → Rp K H O v d → RpKs K H O r s → RpKs K H O ((k, v) :: r) ((e, d) :: s)
end

variable {K : PySem.W.Frag} {H H' H1 H2 : Hp} {O O' : AS}

theorem Rps.len : ∀ {vs : List V} {ds : List D}, Rps K H O vs ds → vs.length = ds.length
  | [], _, h => by cases h; rfl
  | _ :: vs, _, h => by
    cases h with
    | cons _ t => simp only [List.length_cons, Rps.len t]
theorem RpKs.len : ∀ {vs : List (Key × V)} {ds : List (D × D)}, RpKs K H O vs ds → vs.length = ds.length
  | [], _, h => by cases h; rfl
  | _ :: vs, _, h => by
    cases h with
    | cons _ _ t => simp only [List.length_cons, RpKs.len t]

/-- the one rule by which readings go from heap to heap -/
structure Mv (K : PySem.W.Frag) (H : Hp) (O : AS) (H' : Hp) (O' : AS) : Prop where
  tup : ∀ a xs, SqT K H a xs → SqT K H' a xs
  lst : ∀ a xs, ¬ O a → Rd H a (.lst xs) → Rd H' a (.lst xs)
  dic : ∀ a kvs, ¬ O a → H a = some (.dK kvs) → H' a = some (.dK kvs)
  out : ∀ a, ¬ O a → (∃ o, H a = some o) → ¬ O' a

theorem rd_there {a : Addr} {u : HO} (h : Rd H a u) : ∃ o, H a = some o := by
  rcases h with h | ⟨o, h⟩
  · exact ⟨_, h⟩
  · exact ⟨_, h⟩

mutual
theorem Rp.mv (m : Mv K H O H' O') : ∀ (d : D) (v : V), Rp K H O v d → Rp K H' O' v d
  | .none, _, h => by cases h; exact .non
  | .bool b, _, h => by cases h; exact .bl b
  | .int i, _, h => by cases h; exact .int i
  | .str x, _, h => by cases h with | str _ l => exact .str x l
  | .tuple ds, _, h => by
    cases h with
    | tup s r => exact .tup (m.tup _ _ s) (Rps.mv m ds _ r)
  | .list ds, _, h => by
    cases h with
    | lst o s r => exact .lst (m.out _ o (rd_there s)) (m.lst _ _ o s) (Rps.mv m ds _ r)
  | .dict kds, _, h => by
    cases h with
    | dic o s r => exact .dic (m.out _ o ⟨_, s⟩) (m.dic _ _ o s) (RpKs.mv m kds _ r)
theorem Rps.mv (m : Mv K H O H' O') : ∀ (ds : List D) (vs : List V), Rps K H O vs ds → Rps K H' O' vs ds
  | [], _, h => by cases h; exact .nil
  | d :: ds, _, h => by
    cases h with
    | cons a b => exact .cons (Rp.mv m d _ a) (Rps.mv m ds _ b)
theorem RpKs.mv (m : Mv K H O H' O') : ∀ (ds : List (D × D)) (vs : List (Key × V)), RpKs K H O vs ds → RpKs K H' O' vs ds
  | [], _, h => by cases h; exact .nil
  | (e, d) :: ds, _, h => by
    cases h with
    | cons a b c => exact .cons (Rp.mv m e _ a) (Rp.mv m d _ b) (RpKs.mv m ds _ c)
end

theorem rd_same {a : Addr} {u : HO} (e : Same H H') (h : Rd H a u) : Rd H' a u := by
  rcases h with h | ⟨o, h⟩
  · exact .inl (e _ _ h)
  · exact .inr ⟨o, e _ _ h⟩
theorem sqT_same {a : Addr} {xs : List V} (e : Same H H') (h : SqT K H a xs) : SqT K H' a xs := by
  rcases h with h | h
  · exact .inl (rd_same e h)
  · exact .inr h
theorem Mv.same (e : Same H H') : Mv K H O H' O :=
  ⟨fun _ _ h => sqT_same e h, fun _ _ _ h => rd_same e h, fun _ _ _ h => e _ _ h, fun _ o _ => o⟩
theorem Mv.less (e : ∀ a, O' a → O a) : Mv K H O H O' :=
  ⟨fun _ _ h => h, fun _ _ _ h => h, fun _ _ _ h => h, fun a o _ z => o (e a z)⟩

/-- nothing in it that could be changed -/
def froz : D → Bool
  | .none => true
  | .bool _ => true
  | .int _ => true
  | .str _ => true
  | .list _ => false
  | .dict _ => false
  | .tuple ds => frozs ds
where
  frozs : List D → Bool
    | [] => true
    | d :: ds => froz d && frozs ds

/-- what runs may do: write at W, lay new objects; W grows by new objects alone -/
structure Stp (H : Hp) (W : AS) (H' : Hp) (W' : AS) : Prop where
  keep : ∀ a o, H a = some o → ¬ W a → H' a = some o
  tups : ∀ a xs, H a = some (.tup xs) → H' a = some (.tup xs)
  frz : ∀ a o u, H a = some (.frz o u) → H' a = some (.frz o u)
  dom : ∀ a, H' a = none → H a = none
  new : ∀ a, W' a → W a ∨ H a = none
variable {W W' W1 W2 B : AS}
theorem Stp.refl : Stp H W H W := ⟨fun _ _ h _ => h, fun _ _ h => h, fun _ _ _ h => h, fun _ h => h, fun _ h => .inl h⟩
theorem Stp.trans (p : Stp H W H1 W1) (q : Stp H1 W1 H2 W2) : Stp H W H2 W2 where
  keep := fun a o h n => q.keep a o (p.keep a o h n) fun z => (p.new a z).elim n fun e => by rw [e] at h; cases h
  tups := fun a xs h => q.tups a xs (p.tups a xs h)
  frz := fun a o u h => q.frz a o u (p.frz a o u h)
  dom := fun a h => p.dom a (q.dom a h)
  new := fun a h => (q.new a h).elim (fun z => p.new a z) fun e => .inr (p.dom a e)
theorem Stp.drop (e : ∀ a, W' a → W a) : Stp H W H W' := ⟨fun _ _ h _ => h, fun _ _ h => h, fun _ _ _ h => h, fun _ h => h, fun a h => .inl (e a h)⟩
theorem Stp.ofSame (e : Same H H') : Stp H W H' W := ⟨fun _ _ h _ => e _ _ h, fun _ _ h => e _ _ h, fun _ _ _ h => e _ _ h, fun _ h => e.free h, fun _ h => .inl h⟩

/-- the addresses that a plain value does not reach -/
def AV (B W : AS) : AS := fun a => B a ∨ W a
theorem Stp.mv (s : Stp H W H' W') : Mv K H (AV B W) H' (AV B W') where
  tup := fun a xs h => by
    rcases h with (h | ⟨o, h⟩) | h
    · exact .inl (.inl (s.tups _ _ h))
    · exact .inl (.inr ⟨o, s.frz _ _ _ h⟩)
    · exact .inr h
  lst := fun a xs o h => by
    rcases h with h | ⟨ob, h⟩
    · exact .inl (s.keep _ _ h fun z => o (.inr z))
    · exact .inr ⟨ob, s.frz _ _ _ h⟩
  dic := fun a xs o h => s.keep _ _ h fun z => o (.inr z)
  out := fun a o ⟨u, e⟩ z => z.elim (fun b => o (.inl b)) fun w => (s.new a w).elim (fun q => o (.inr q)) fun q => by rw [e] at q; cases q

/-! a list or a dict that is one's own -/
def Cont (K : PySem.W.Frag) (H : Hp) (O : AS) (p : Addr) : D → Prop
  | .list ds => ∃ xs, H p = some (.lst xs) ∧ Rps K H O xs ds
  | .dict kds => ∃ kvs, H p = some (.dK kvs) ∧ RpKs K H O kvs kds
  | _ => False
/-- to be read: a list of one's own too -/
def Rq (K : PySem.W.Frag) (H : Hp) (O : AS) (v : V) : D → Prop
  | .list ds => ∃ a xs, v = .ref a ∧ Rd H a (.lst xs) ∧ Rps K H O xs ds
  | .dict kds => ∃ a kvs, v = .ref a ∧ H a = some (.dK kvs) ∧ RpKs K H O kvs kds
  | d => Rp K H O v d
theorem Rp.rq {v : V} {d : D} (h : Rp K H O v d) : Rq K H O v d := by
  cases d with
  | list ds => cases h with | lst _ s r => exact ⟨_, _, rfl, s, r⟩
  | dict ds =>
    have h : Rp K H O v (.dict ds) := h
    cases h with | dic _ s r => exact ⟨_, _, rfl, s, r⟩
  | _ => exact h
theorem Cont.rq {p : Addr} {d : D} (h : Cont K H O p d) : Rq K H O (.ref p) d := by
  cases d with
  | list ds => obtain ⟨xs, e, r⟩ := h; exact ⟨_, _, rfl, .inl e, r⟩
  | dict ds => obtain ⟨xs, e, r⟩ := h; exact ⟨_, _, rfl, e, r⟩
  | _ => exact h.elim
theorem Cont.rp {p : Addr} {d : D} (h : Cont K H O p d) (n : ¬ O p) : Rp K H O (.ref p) d := by
  cases d with
  | list ds => obtain ⟨xs, e, r⟩ := h; exact .lst n (.inl e) r
  | dict ds => obtain ⟨xs, e, r⟩ := h; exact .dic n e r
  | _ => exact h.elim
theorem Cont.there {p : Addr} {d : D} (h : Cont K H O p d) : ∃ o, H p = some o := by
  cases d with
  | list ds => obtain ⟨xs, e, r⟩ := h; exact ⟨_, e⟩
  | dict ds => obtain ⟨xs, e, r⟩ := h; exact ⟨_, e⟩
  | _ => exact h.elim
/-- a step that does not write at p -/
theorem Cont.mv {p : Addr} {d : D} (m : Mv K H O H' O') (k : ∀ o, H p = some o → H' p = some o) (h : Cont K H O p d) : Cont K H' O' p d := by
  cases d with
  | list ds => obtain ⟨xs, e, r⟩ := h; exact ⟨xs, k _ e, Rps.mv m _ _ r⟩
  | dict ds => obtain ⟨xs, e, r⟩ := h; exact ⟨xs, k _ e, RpKs.mv m _ _ r⟩
  | _ => exact h.elim

/-- a value that has come: plain, or a new object of one's own -/
def Res (K : PySem.W.Frag) (H H' : Hp) (O : AS) (v : V) : Bool → D → Prop
  | false, d => Rp K H' O v d
  | true, d => ∃ p, v = .ref p ∧ H p = none ∧ Cont K H' (fun a => O a ∨ a = p) p d

mutual
theorem Rp.froz : ∀ (d : D) (v : V), froz d = true → Rp K H O v d → Rp K H O' v d
  | .none, _, _, h => by cases h; exact .non
  | .bool b, _, _, h => by cases h; exact .bl b
  | .int i, _, _, h => by cases h; exact .int i
  | .str x, _, _, h => by cases h with | str _ l => exact .str x l
  | .tuple ds, _, f, h => by
    cases h with
    | tup s r => exact .tup s (Rps.froz ds _ (by simpa only [Ev.froz] using f) r)
  | .list ds, _, f, h => by simp [Ev.froz] at f
  | .dict kds, _, f, h => by simp [Ev.froz] at f
theorem Rps.froz : ∀ (ds : List D) (vs : List V), froz.frozs ds = true → Rps K H O vs ds → Rps K H O' vs ds
  | [], _, _, h => by cases h; exact .nil
  | d :: ds, _, f, h => by
    simp only [froz.frozs, Bool.and_eq_true] at f
    cases h with
    | cons a b => exact .cons (Rp.froz d _ f.1 a) (Rps.froz ds _ f.2 b)
end
end Ev
set_option Elab.async false
set_option linter.all false
set_option maxRecDepth 100000
/-! Ev, part 2: the language and what its runs give. -/
namespace Ev
open PySem PySem.Spec PyProof.Rows L2

inductive O2 where
  | add | sub | mul | fdiv | mod | pow
  deriving DecidableEq
inductive C2 where
  | lt | le | gt | ge | eq | ne | mem | nmem
  deriving DecidableEq
inductive Pm where
  | len | abs | int | tuple | list | sum | max | min | max2 | min2 | sorted | repr | str | all | any | bool | dict
  deriving DecidableEq
inductive Mt where
  | append | extend | popAt | pop
  deriving DecidableEq
inductive Tg where
  | name (i : Nat)
  | pair (a b : Tg)
  | trip (a b c : Tg)
  | quad (a b c d : Tg)

mutual
inductive E where
  | var (i : Nat)
  | int (i : Int)
  | bl (b : Bool)
  | non
  | str (s : Str)
  | cst (x : Str) (i : Int)
  | op (o : O2) (a b : E)
  | neg (a : E)
  | not (a : E)
  | and (a b : E)
  | or (a b : E)
  | cmp (c : C2) (a b : E)
  | chain (c1 c2 : C2) (a b c : E)
  | isC (ng : Bool) (a : E)
  | isB (ng c : Bool) (a : E)
  | ite (c : Te) (a b : E)
  | tup (es : Es)
  | lst (es : Es)
  | dnew
  | dic1 (k v : Int)
  | rev (a : E)
  | revL (a : E)
  | lrep (a b : E)
  | ix (a b : E)
  | sl (a : E) (lo hi : Es)
  | prim (p : Pm) (es : Es)
  | isi (a : E) (ty : String)
  | maxd (a : E)
  | maxe (a b : E)
  | lrng (a : E)
  | trng (a : E)
  | trng2 (a b : E)
  | call (f : Str) (es : Es)
  | callm (f : Str) (i : Nat) (es : Es)
  | callf (f : Str) (a : E) (es : Es)
  | dget (i : Nat) (k : E)
  | dgetd (i : Nat) (k x : E)
  | dpop (i : Nat) (k : E)
  | ditems (i : Nat)
  | sset (a : E)
  | mind (a : E)
  | meth (m : Mt) (i : Nat) (es : Es)
  | comp (vs : List Nat) (tg : Tg) (it : It) (cd : Tes) (elt : E)
  | dcomp (vs : List Nat) (tg : Tg) (it : It) (cd : Tes) (k v : E)
  | stuck
inductive Es where
  | nil
  | cons (e : E) (es : Es)
inductive Te where
  | val (e : E)
  | not (t : Te)
  | and (t u : Te)
  | or (t u : Te)
inductive Tes where
  | nil
  | one (t : Te)
inductive It where
  | seq (e : E)
  | rng (a : E)
  | rng2 (a b : E)
  | enum (e : E)
  | zip (a b : E)
end

mutual
inductive S where
  | asg (i : Nat) (e : E)
  | asgT (t : Tg) (e : E)
  | par (i j : Nat) (a b : E)
  | parT (i j : Nat) (a b : E)
  | setix (i : Nat) (a e : E)
  | aug (i : Nat) (o : O2) (e : E)
  | expr (e : E)
  | ret (e : E)
  | retN
  | ifs (c : Te) (a b : Ss)
  | for_ (t : Tg) (it : It) (body : Ss)
  | while_ (c : Te) (body : Ss)
  | brk
  | cont
  | pass
  | stuck
inductive Ss where
  | nil
  | cons (s : S) (ss : Ss)
end

/-! ### values -/
inductive R where
  | val (o : Bool) (d : D)
  | loc (i : Nat)
abbrev Rho := List (Option (Bool × D))

def look (ρ : Rho) (i : Nat) : Option (Bool × D) := match ρ[i]? with
  | some (some p) => some p
  | _ => none
def rdR (ρ : Rho) : R → Option D
  | .val _ d => some d
  | .loc i => (look ρ i).map (·.2)
def escR (ρ : Rho) : R → Option (D × Rho)
  | .val _ d => some (d, ρ)
  | .loc i => match look ρ i with
    | some (_, d) => some (d, ρ.set i (some (false, d)))
    | none => none
def rdRs (ρ : Rho) : List R → Option (List D)
  | [] => some []
  | r :: rs => match rdR ρ r, rdRs ρ rs with
    | some d, some ds => some (d :: ds)
    | _, _ => none
def escRs : List R → Rho → Option (List D × Rho)
  | [], ρ => some ([], ρ)
  | r :: rs, ρ => match escR ρ r with
    | some (d, ρ1) => match escRs rs ρ1 with
      | some (ds, ρ2) => some (d :: ds, ρ2)
      | none => none
    | none => none
def isLocR : R → Bool
  | .loc _ => true
  | _ => false

def frozR : Bool × D → Bool
  | (true, .list ds) => froz.frozs ds
  | (true, _) => false
  | (false, d) => froz d

/-! ### what own defs give -/
structure Fn where
  chg : Bool
  fn : List D → Option ((Bool × D) × D)
structure Sig where
  fns : Str → Option Fn
  csts : List (Str × Int)
  blts : List Str

def fits (n : Nat) : Bool := decide (n ≤ sizeLine)

/-! ### operators -/
def op2 : O2 → D → D → Option (Bool × D)
  | .add, .int a, .int b => some (false, .int (a + b))
  | .add, .list xs, .list ys => if fits (xs.length + ys.length) then some (true, .list (xs ++ ys)) else none
  | .add, .tuple xs, .tuple ys => if fits (xs.length + ys.length) then some (false, .tuple (xs ++ ys)) else none
  | .sub, .int a, .int b => some (false, .int (a - b))
  | .mul, .tuple xs, .int k => if xs.length ≤ 1000 ∧ -1000 ≤ k ∧ k ≤ 1000 then some (false, .tuple (List.replicate k.toNat xs).flatten) else none
  | .mul, .int a, .int b => if a.natAbs.log2 + b.natAbs.log2 < 1000000 then some (false, .int (a * b)) else none
  | .fdiv, .int a, .int b => if 0 < b ∧ b.natAbs.log2 < 9000 then some (false, .int (a / b)) else none
  | .mod, .int a, .int b => if 0 < b then some (false, .int (a % b)) else none
  | .pow, .int a, .int b => if 0 ≤ b ∧ (Builtin.Int.intBits a : Int) * b ≤ 2 ^ 27 then some (false, .int (a ^ b.toNat)) else none
  | _, _, _ => none
def okEq (d : D) : Bool := SeqAt.shaped d
/-- flat: none, a bool, an int, a text -/
def flatD : D → Bool
  | .none => true
  | .bool _ => true
  | .int _ => true
  | .str _ => true
  | _ => false
def memD (x : D) : List D → Bool
  | [] => false
  | y :: ys => PyData.eqv y x || memD x ys
def keyEq : D → D → Bool
  | .int a, .int b => decide (a = b)
  | .str a, .str b => decide (a = b)
  | _, _ => false
def isKey : D → Bool
  | .int _ => true
  | .str _ => true
  | _ => false
def dget : List (D × D) → D → Option D
  | [], _ => none
  | (k, v) :: r, x => if keyEq k x then some v else dget r x
/-- without this key -/
def ddrop (kds : List (D × D)) (x : D) : List (D × D) := kds.filter fun p => !keyEq p.1 x
/-- in its place, or at the end -/
def dput (kds : List (D × D)) (x y : D) : List (D × D) :=
  if kds.any (fun p => keyEq p.1 x) = true then kds.map (fun p => if keyEq p.1 x = true then (p.1, y) else p) else kds ++ [(x, y)]
def cmp2 : C2 → D → D → Option Bool
  | .lt, .int a, .int b => some (decide (a < b))
  | .le, .int a, .int b => some (decide (a ≤ b))
  | .gt, .int a, .int b => some (decide (b < a))
  | .ge, .int a, .int b => some (decide (b ≤ a))
  | .eq, .str a, .str b => some (a == b)
  | .eq, .dict _, .str _ => some false
  | .ne, .str a, .str b => some (a != b)
  | .eq, a, b => if okEq a && okEq b then some (PyData.eqv a b) else none
  | .ne, a, b => if okEq a && okEq b then some (!PyData.eqv a b) else none
  | .mem, x, .list ys => if flatD x && ys.all flatD then some (memD x ys) else none
  | .mem, x, .tuple ys => if flatD x && ys.all flatD then some (memD x ys) else none
  | .mem, x, .dict kvs => if isKey x then some (dget kvs x).isSome else none
  | .nmem, x, .list ys => if flatD x && ys.all flatD then some (!memD x ys) else none
  | .nmem, x, .tuple ys => if flatD x && ys.all flatD then some (!memD x ys) else none
  | .nmem, x, .dict kvs => if isKey x then some (!(dget kvs x).isSome) else none
  | _, _, _ => none
def truth : D → Option Bool
  | .none => some false
  | .bool b => some b
  | .int i => some (i != 0)
  | .str y => some ((y.length : Int) != 0)
  | .list xs => some (!xs.isEmpty)
  | .tuple xs => some (!xs.isEmpty)
  | .dict xs => some (!xs.isEmpty)
def index2 : D → D → Option D
  | .list xs, .int i => atI xs i
  | .tuple xs, .int i => atI xs i
  | .dict kvs, x => if isKey x then dget kvs x else none
  | _, _ => none
def part : List D → Option (Option Int)
  | [] => some none
  | [.int i] => some (some i)
  | _ => none
def cutD (xs : List D) (lo hi : Option Int) : List D := (xs.drop (HT.sIx xs.length 0 lo)).take (HT.sIx xs.length xs.length hi - HT.sIx xs.length 0 lo)
def slice2 (d : D) (lo hi : Option Int) : Option (Bool × D) := match d with
  | .list xs => some (true, .list (cutD xs lo hi))
  | .tuple xs => some (false, .tuple (cutD xs lo hi))
  | _ => none

/-! ### built-ins -/
def asInts : List D → Option (List Int)
  | [] => some []
  | .int i :: r => (asInts r).map (i :: ·)
  | _ => none
def asBools : List D → Option (List Bool)
  | [] => some []
  | .bool b :: r => (asBools r).map (b :: ·)
  | _ => none
def maxI : Int → List Int → Int
  | m, [] => m
  | m, x :: r => maxI (if m < x then x else m) r
def minI : Int → List Int → Int
  | m, [] => m
  | m, x :: r => minI (if x < m then x else m) r
def insI (x : Int) : List Int → List Int
  | [] => [x]
  | y :: r => if x ≤ y then x :: y :: r else y :: insI x r
def sortI : List Int → List Int
  | [] => []
  | x :: r => insI x (sortI r)
/-- pairs of ints, by their first, then by their second -/
def asPairs : List D → Option (List (Int × Int))
  | [] => some []
  | .tuple [.int a, .int b] :: r => (asPairs r).map ((a, b) :: ·)
  | _ => none
def pairD (p : Int × Int) : D := .tuple [.int p.1, .int p.2]
def pairLe (p q : Int × Int) : Bool := if p.1 = q.1 then decide (p.2 ≤ q.2) else decide (p.1 < q.1)
def insP (x : Int × Int) : List (Int × Int) → List (Int × Int)
  | [] => [x]
  | y :: r => if pairLe x y then x :: y :: r else y :: insP x r
def sortP : List (Int × Int) → List (Int × Int)
  | [] => []
  | x :: r => insP x (sortP r)
/-- ascending, each once -/
def insU (x : Int) : List Int → List Int
  | [] => [x]
  | y :: r => if x < y then x :: y :: r else if x = y then y :: r else y :: insU x r
def sortU : List Int → List Int
  | [] => []
  | x :: r => insU x (sortU r)
/-- tuples of ints, all of one length, small -/
def asRow : D → Option (List Int)
  | .tuple xs => asInts xs
  | _ => none
def asRows : List D → Option (List (List Int))
  | [] => some []
  | d :: ds => match asRow d, asRows ds with
    | some r, some rs => some (r :: rs)
    | _, _ => none
def rowD (ns : List Int) : D := .tuple (ns.map .int)
def codeR : List Int → Int
  | [] => 0
  | d :: r => d * 1000 ^ r.length + codeR r
def rowsOk (d : Nat) (rows : List (List Int)) : Bool := decide (1 ≤ d) && decide (rows.length < 64) && rows.all fun r => decide (r.length = d) && r.all fun m => decide (0 ≤ m) && decide (m < 1000)
def insR (x : List Int) : List (List Int) → List (List Int)
  | [] => [x]
  | y :: r => if codeR x ≤ codeR y then x :: y :: r else y :: insR x r
def sortR : List (List Int) → List (List Int)
  | [] => []
  | x :: r => insR x (sortR r)
def inum : D → Option Int
  | .int i => some i
  | .bool b => some (if b then 1 else 0)
  | _ => none
/-- no list in it -/
def noList : D → Bool
  | .none => true
  | .bool _ => true
  | .int _ => true
  | .str _ => true
  | .list _ => false
  | .tuple ds => noLists ds
  | .dict kds => noListK kds
where
  noLists : List D → Bool
    | [] => true
    | d :: ds => noList d && noLists ds
  noListK : List (D × D) → Bool
    | [] => true
    | (k, d) :: ds => noList k && noList d && noListK ds
def showOk (d : D) : Bool := d.showable && decide (d.depth < 64) && fits d.shown.length && (!d.hasDict || noList d)
/-- a pair whose first is a key -/
def isPairK : D → Bool
  | .tuple [k, _] => isKey k
  | _ => false
/-- in its place, or at the end: pair by pair -/
def dputs : List (D × D) → List D → List (D × D)
  | kds, [] => kds
  | kds, .tuple [k, v] :: ys => dputs (dput kds k v) ys
  | kds, _ :: ys => dputs kds ys
def prim : Pm → List D → Option (Bool × D)
  | .len, [.list xs] => some (false, .int xs.length)
  | .len, [.tuple xs] => some (false, .int xs.length)
  | .len, [.dict xs] => some (false, .int xs.length)
  | .len, [.str x] => some (false, .int x.length)
  | .abs, [.int i] => some (false, .int (if i < 0 then -i else i))
  | .int, [d] => (inum d).map fun i => (false, .int i)
  | .tuple, [.list xs] => some (false, .tuple xs)
  | .tuple, [.tuple xs] => some (false, .tuple xs)
  | .tuple, [.dict kvs] => some (false, .tuple (kvs.map (·.1)))
  | .dict, [.list xs] => if xs.all isPairK = true then some (true, .dict (dputs [] xs)) else none
  | .list, [.list xs] => some (true, .list xs)
  | .list, [.tuple xs] => some (true, .list xs)
  | .sum, [.list xs] => (asInts xs).map fun ns => (false, .int ns.sum)
  | .max, [.list (.int i :: xs)] => (asInts xs).map fun ns => (false, .int (maxI i ns))
  | .max, [.tuple (.int i :: xs)] => (asInts xs).map fun ns => (false, .int (maxI i ns))
  | .min, [.list (.int i :: xs)] => (asInts xs).map fun ns => (false, .int (minI i ns))
  | .min, [.tuple (.int i :: xs)] => (asInts xs).map fun ns => (false, .int (minI i ns))
  | .str, [.int i] => if i.natAbs.log2 < 1920 then some (false, .str (toString i : String)) else none
  | .max2, [.int i, .int j] => some (false, .int (if j > i then j else i))
  | .min2, [.int i, .int j] => some (false, .int (if j < i then j else i))
  | .sorted, [.list xs] => match asInts xs with
    | some ns => if ns.length < 64 then some (true, .list ((sortI ns).map .int)) else none
    | none => match asPairs xs with
      | some ps => if fits ps.length then some (true, .list ((sortP ps).map pairD)) else none
      | none => match asRows xs with
        | some rs => if rowsOk ((rs.headD []).length) rs = true then some (true, .list ((sortR rs).map rowD)) else none
        | none => none
  | .sorted, [.tuple xs] => match asPairs xs with
    | some ps => if fits ps.length then some (true, .list ((sortP ps).map pairD)) else none
    | none => none
  | .sorted, [.dict kvs] => match asInts (kvs.map (·.1)) with
    | some ns => if ns.length < 64 then some (true, .list ((sortI ns).map .int)) else none
    | none => none
  | .repr, [d] => if showOk d then some (false, .str d.shown) else none
  | .all, [.list xs] => (asBools xs).map fun bs => (false, .bool (bs.all id))
  | .any, [.list xs] => (asBools xs).map fun bs => (false, .bool (bs.any id))
  | _, _ => none
def tyName : D → String
  | .none => "NoneType"
  | .bool _ => "bool"
  | .int _ => "int"
  | .str _ => "str"
  | .list _ => "list"
  | .tuple _ => "tuple"
  | .dict _ => "dict"
def isiD (d : D) (ty : String) : Bool := tyName d == ty || (ty == "int" && tyName d == "bool")
def maxdD : D → Option D
  | .list [] => some .none
  | .list (.int i :: xs) => (asInts xs).map fun ns => .int (maxI i ns)
  | _ => none
def mindD : D → Option D
  | .list [] => some .none
  | .list (.int i :: xs) => (asInts xs).map fun ns => .int (minI i ns)
  | _ => none
def maxeD : D → D → Option D
  | .list [], b => some b
  | .list (.int i :: xs), _ => (asInts xs).map fun ns => .int (maxI i ns)
  | _, _ => none
def seqD : D → Option (List D)
  | .list xs => some xs
  | .tuple xs => some xs
  | _ => none
def upTo (n : Nat) : List D := (List.range n).map fun (k : Nat) => PyData.int (k : Int)
def from2 (lo hi : Int) : List D := (List.range (hi - lo).toNat).map fun (k : Nat) => PyData.int (lo + (k : Int))

/-- methods of a list of one's own: what comes, what stands there then -/
def meth : Mt → List D → List D → Option (D × List D)
  | .append, xs, [y] => if xs.length < sizeLine then some (.none, xs ++ [y]) else none
  | .extend, xs, [.list ys] => if fits (xs.length + ys.length) then some (.none, xs ++ ys) else none
  | .popAt, xs, [.int i] => match ixN xs.length i with
    | some k => match xs[k]? with
      | some y => some (y, xs.eraseIdx k)
      | none => none
    | none => none
  | .pop, xs, [] => match xs[xs.length - 1]? with
    | some y => some (y, xs.dropLast)
    | none => none
  | _, _, _ => none

def bindT : Tg → D → Rho → Option Rho
  | .name i, d, ρ => if i < ρ.length then some (ρ.set i (some (false, d))) else none
  | .pair a b, .tuple [x, y], ρ => match bindT a x ρ with
    | some ρ1 => bindT b y ρ1
    | none => none
  | .trip a b c, .tuple [x, y, z], ρ => match bindT a x ρ with
    | some ρ1 => match bindT b y ρ1 with
      | some ρ2 => bindT c z ρ2
      | none => none
    | none => none
  | .quad a b c e, .tuple [x, y, z, w], ρ => match bindT a x ρ with
    | some ρ1 => match bindT b y ρ1 with
      | some ρ2 => match bindT c z ρ2 with
        | some ρ3 => bindT e w ρ3
        | none => none
      | none => none
    | none => none
  | _, _, _ => none
def tgs : Tg → List Nat
  | .name i => [i]
  | .pair a b => tgs a ++ tgs b
  | .trip a b c => tgs a ++ tgs b ++ tgs c
  | .quad a b c d => tgs a ++ tgs b ++ tgs c ++ tgs d
def plainAt (ρ : Rho) (v : Nat) : Bool := match look ρ v with
  | some (true, _) => false
  | _ => true
def wipeR (ρ : Rho) : List Nat → Rho
  | [] => ρ
  | v :: vs => (wipeR ρ vs).set v none
def backR (ρ0 ρ : Rho) : List Nat → Rho
  | [] => ρ
  | v :: vs => (backR ρ0 ρ vs).set v (ρ0.getD v none)
/-- a comprehension's turns -/
def compF (turn : D → Rho → Option (Option D × Rho)) (vs : List Nat) : List D → Rho → Option (List D × Rho)
  | [], ρ => some ([], ρ)
  | d :: ds, ρ => match turn d ρ with
    | some (y, ρ1) => match compF turn vs ds (wipeR ρ1 vs) with
      | some (ys, ρ2) => some (y.toList ++ ys, ρ2)
      | none => none
    | none => none

variable (G : Sig)
mutual
def ev : E → Rho → Option (R × Rho)
  | .var i, ρ => match look ρ i with
    | some (true, _) => some (.loc i, ρ)
    | some (false, d) => some (.val false d, ρ)
    | none => none
  | .int i, ρ => some (.val false (.int i), ρ)
  | .bl b, ρ => some (.val false (.bool b), ρ)
  | .non, ρ => some (.val false .none, ρ)
  | .str x, ρ => some (.val false (.str x), ρ)
  | .cst _ i, ρ => some (.val false (.int i), ρ)
  | .op o a b, ρ => do
    let (ra, ρ1) ← ev a ρ
    let (rb, ρ2) ← ev b ρ1
    let da ← rdR ρ2 ra
    let db ← rdR ρ2 rb
    let r ← op2 o da db
    some (.val r.1 r.2, ρ2)
  | .neg a, ρ => do
    let (ra, ρ1) ← ev a ρ
    match ← rdR ρ1 ra with
    | .int i => some (.val false (.int (-i)), ρ1)
    | _ => none
  | .not a, ρ => do
    let (ra, ρ1) ← ev a ρ
    let da ← rdR ρ1 ra
    let t ← truth da
    some (.val false (.bool (!t)), ρ1)
  | .and a b, ρ => do
    let (ra, ρ1) ← ev a ρ
    let (da, ρ2) ← escR ρ1 ra
    let t ← truth da
    if t then ev b ρ2 else some (.val false da, ρ2)
  | .or a b, ρ => do
    let (ra, ρ1) ← ev a ρ
    let (da, ρ2) ← escR ρ1 ra
    let t ← truth da
    if t then some (.val false da, ρ2) else ev b ρ2
  | .cmp c a b, ρ => do
    let (ra, ρ1) ← ev a ρ
    let (rb, ρ2) ← ev b ρ1
    let da ← rdR ρ2 ra
    let db ← rdR ρ2 rb
    let r ← cmp2 c da db
    some (.val false (.bool r), ρ2)
  | .chain c1 c2 a b c, ρ => do
    let (ra, ρ1) ← ev a ρ
    let (rb, ρ2) ← ev b ρ1
    let da ← rdR ρ2 ra
    let db ← rdR ρ2 rb
    let r ← cmp2 c1 da db
    if r then do
      let (rc, ρ3) ← ev c ρ2
      let db' ← rdR ρ3 rb
      let dc ← rdR ρ3 rc
      let r2 ← cmp2 c2 db' dc
      some (.val false (.bool r2), ρ3)
    else some (.val false (.bool false), ρ2)
  | .isC ng a, ρ => do
    let (ra, ρ1) ← ev a ρ
    let da ← rdR ρ1 ra
    some (.val false (.bool (match da with | .none => !ng | _ => ng)), ρ1)
  | .isB ng c a, ρ => do
    let (ra, ρ1) ← ev a ρ
    match ← rdR ρ1 ra with
    | .bool b => some (.val false (.bool (if ng then !decide (b = c) else decide (b = c))), ρ1)
    | _ => none
  | .ite c a b, ρ => do
    let (t, ρ1) ← evT c ρ
    if t then ev a ρ1 else ev b ρ1
  | .tup es, ρ => do
    let (rs, ρ1) ← evs es ρ
    let (ds, ρ2) ← escRs rs ρ1
    if fits ds.length then some (.val false (.tuple ds), ρ2) else none
  | .lst es, ρ => do
    let (rs, ρ1) ← evs es ρ
    let (ds, ρ2) ← escRs rs ρ1
    if fits ds.length then some (.val true (.list ds), ρ2) else none
  | .dnew, ρ => some (.val true (.dict []), ρ)
  | .dic1 k v, ρ => some (.val true (.dict [(.int k, .int v)]), ρ)
  | .rev a, ρ => do
    let (ra, ρ1) ← ev a ρ
    match ← rdR ρ1 ra with
    | .tuple xs => some (.val false (.tuple xs.reverse), ρ1)
    | _ => none
  | .revL a, ρ => do
    let (ra, ρ1) ← ev a ρ
    match ← rdR ρ1 ra with
    | .list xs => some (.val true (.list xs.reverse), ρ1)
    | _ => none
  | .lrep a b, ρ => do
    let (ra, ρ1) ← ev a ρ
    let (rb, ρ2) ← ev b ρ1
    let db ← rdR ρ2 rb
    match ra, db with
    | .val true (.list xs), .int k => if xs.length ≤ 1000 ∧ -1000 ≤ k ∧ k ≤ 1000 then some (.val true (.list (List.replicate k.toNat xs).flatten), ρ2) else none
    | _, _ => none
  | .ix a b, ρ => do
    let (ra, ρ1) ← ev a ρ
    let (rb, ρ2) ← ev b ρ1
    let da ← rdR ρ2 ra
    let db ← rdR ρ2 rb
    let r ← index2 da db
    some (.val false r, ρ2)
  | .sl a lo hi, ρ => do
    let (ra, ρ1) ← ev a ρ
    let (rl, ρ2) ← evs lo ρ1
    let l ← rdRs ρ2 rl
    let l' ← part l
    let (rh, ρ3) ← evs hi ρ2
    let h ← rdRs ρ3 rh
    let h' ← part h
    let da ← rdR ρ3 ra
    let r ← slice2 da l' h'
    some (.val r.1 r.2, ρ3)
  | .prim p es, ρ => do
    let (rs, ρ1) ← evs es ρ
    let ds ← rdRs ρ1 rs
    let r ← prim p ds
    some (.val r.1 r.2, ρ1)
  | .isi a ty, ρ => do
    let (ra, ρ1) ← ev a ρ
    let da ← rdR ρ1 ra
    some (.val false (.bool (isiD da ty)), ρ1)
  | .maxd a, ρ => do
    let (ra, ρ1) ← ev a ρ
    let da ← rdR ρ1 ra
    let r ← maxdD da
    some (.val false r, ρ1)
  | .maxe a b, ρ => do
    let (ra, ρ1) ← ev a ρ
    let (rb, ρ2) ← ev b ρ1
    let (db, ρ3) ← escR ρ2 rb
    let da ← rdR ρ3 ra
    let r ← maxeD da db
    some (.val false r, ρ3)
  | .lrng a, ρ => do
    let (ra, ρ1) ← ev a ρ
    match ← rdR ρ1 ra with
    | .int i => if 0 ≤ i ∧ i ≤ 1000000 then some (.val true (.list (upTo i.toNat)), ρ1) else none
    | _ => none
  | .trng a, ρ => do
    let (ra, ρ1) ← ev a ρ
    match ← rdR ρ1 ra with
    | .int i => if 0 ≤ i ∧ i ≤ 1000000 then some (.val false (.tuple (upTo i.toNat)), ρ1) else none
    | _ => none
  | .trng2 a b, ρ => do
    let (ra, ρ1) ← ev a ρ
    let (rb, ρ2) ← ev b ρ1
    match ← rdR ρ2 ra, ← rdR ρ2 rb with
    | .int i, .int j => if (i ≤ 8000000 ∧ 0 ≤ i) ∧ j ≤ 8000000 ∧ 0 ≤ j then some (.val false (.tuple (from2 i j)), ρ2) else none
    | _, _ => none
  | .call f es, ρ => do
    let (rs, ρ1) ← evs es ρ
    let ds ← rdRs ρ1 rs
    let F ← G.fns f
    let (r, _) ← F.fn ds
    if F.chg then none
    else if rs.any isLocR && !(frozR r) then none
    else some (.val r.1 r.2, ρ1)
  | .callm f i es, ρ => match look ρ i with
    | some (true, .list _) => do
      let (rs, ρ1) ← evs es ρ
      let ds ← rdRs ρ1 rs
      let F ← G.fns f
      match look ρ1 i with
      | some (true, .list xs) => do
        let (r, d) ← F.fn (.list xs :: ds)
        match d with
        | .list ys =>
          if !F.chg then none
          else if rs.any isLocR then none
          else if froz.frozs ys then some (.val r.1 r.2, ρ1.set i (some (true, .list ys))) else none
        | _ => none
      | _ => none
    | _ => none
  | .callf f a es, ρ => do
    let (ra, ρ1) ← ev a ρ
    let (rs, ρ2) ← evs es ρ1
    let ds ← rdRs ρ2 rs
    let F ← G.fns f
    match ra with
    | .val true (.list xs) => do
      let (r, d) ← F.fn (.list xs :: ds)
      match d with
      | .list _ =>
        if !F.chg then none
        else if rs.any isLocR then none
        else some (.val r.1 r.2, ρ2)
      | _ => none
    | _ => none
  | .dget i k, ρ => match look ρ i with
    | some (_, .dict _) => do
      let (rk, ρ1) ← ev k ρ
      let x ← rdR ρ1 rk
      match look ρ1 i with
      | some (_, .dict kvs) => if isKey x = true then some (.val false ((dget kvs x).getD .none), ρ1) else none
      | _ => none
    | _ => none
  | .dgetd i k z, ρ => match look ρ i with
    | some (_, .dict _) => do
      let (rk, ρ1) ← ev k ρ
      let (rz, ρ2) ← ev z ρ1
      let (y, ρ3) ← escR ρ2 rz
      let x ← rdR ρ3 rk
      match look ρ3 i with
      | some (_, .dict kvs) => if isKey x = true then some (.val false ((dget kvs x).getD y), ρ3) else none
      | _ => none
    | _ => none
  | .dpop i k, ρ => match look ρ i with
    | some (true, .dict _) => do
      let (rk, ρ1) ← ev k ρ
      let x ← rdR ρ1 rk
      match look ρ1 i with
      | some (true, .dict kvs) => do
        let y ← dget kvs x
        if isKey x = true then some (.val false y, ρ1.set i (some (true, .dict (ddrop kvs x)))) else none
      | _ => none
    | _ => none
  | .ditems i, ρ => match look ρ i with
    | some (_, .dict kvs) => some (.val true (.list (kvs.map fun p => .tuple [p.1, p.2])), ρ)
    | _ => none
  | .sset a, ρ => do
    let (ra, ρ1) ← ev a ρ
    match ← rdR ρ1 ra with
    | .tuple xs => do
      let ns ← asInts xs
      if ns.length < 64 then some (.val true (.list ((sortU ns).map .int)), ρ1) else none
    | _ => none
  | .mind a, ρ => do
    let (ra, ρ1) ← ev a ρ
    let da ← rdR ρ1 ra
    let r ← mindD da
    some (.val false r, ρ1)
  | .meth m i es, ρ => match look ρ i with
    | some (true, .list _) => do
      let (rs, ρ1) ← evs es ρ
      let (ds, ρ2) ← escRs rs ρ1
      match look ρ2 i with
      | some (true, .list xs) => do
        let (r, ys) ← meth m xs ds
        some (.val false r, ρ2.set i (some (true, .list ys)))
      | _ => none
    | _ => none
  | .comp vs tg it cd elt, ρ => do
    let (ds, ρ1) ← evI it ρ
    if vs.all (plainAt ρ1) && (tgs tg).all (fun i => vs.contains i) then do
      let (ys, ρ2) ← compF (fun d ρ => do
        let ρ1 ← bindT tg d ρ
        let (t, ρ2) ← evC cd ρ1
        if t then do
          let (r, ρ3) ← ev elt ρ2
          let (y, ρ4) ← escR ρ3 r
          some (some y, ρ4)
        else some (none, ρ2)) vs ds (wipeR ρ1 vs)
      some (.val true (.list ys), backR ρ1 ρ2 vs)
    else none
  | .dcomp vs tg it cd k v, ρ => do
    let (ds, ρ1) ← evI it ρ
    if vs.all (plainAt ρ1) && (tgs tg).all (fun i => vs.contains i) then do
      let (ys, ρ2) ← compF (fun d ρ => do
        let ρ1 ← bindT tg d ρ
        let (t, ρ2) ← evC cd ρ1
        if t then do
          let (r, ρ3) ← ev k ρ2
          let (r2, ρ4) ← ev v ρ3
          let (y, ρ5) ← escR ρ4 r2
          let x ← rdR ρ5 r
          if isKey x = true then some (some (.tuple [x, y]), ρ5) else none
        else some (none, ρ2)) vs ds (wipeR ρ1 vs)
      some (.val true (.dict (dputs [] ys)), backR ρ1 ρ2 vs)
    else none
  | .stuck, _ => none
def evs : Es → Rho → Option (List R × Rho)
  | .nil, ρ => some ([], ρ)
  | .cons e es, ρ => do
    let (r, ρ1) ← ev e ρ
    let (rs, ρ2) ← evs es ρ1
    some (r :: rs, ρ2)
def evT : Te → Rho → Option (Bool × Rho)
  | .not a, ρ => do
    let (t, ρ1) ← evT a ρ
    some (!t, ρ1)
  | .and a b, ρ => do
    let (t, ρ1) ← evT a ρ
    if t then evT b ρ1 else some (false, ρ1)
  | .or a b, ρ => do
    let (t, ρ1) ← evT a ρ
    if t then some (true, ρ1) else evT b ρ1
  | .val e, ρ => do
    let (r, ρ1) ← ev e ρ
    let d ← rdR ρ1 r
    let t ← truth d
    some (t, ρ1)
def evC : Tes → Rho → Option (Bool × Rho)
  | .nil, ρ => some (true, ρ)
  | .one c, ρ => evT c ρ
def evI : It → Rho → Option (List D × Rho)
  | .seq e, ρ => do
    let (r, ρ1) ← ev e ρ
    let (d, ρ2) ← escR ρ1 r
    match d with
    | .list xs => some (xs, ρ2)
    | .tuple xs => some (xs, ρ2)
    | _ => none
  | .rng a, ρ => do
    let (ra, ρ1) ← ev a ρ
    match ← rdR ρ1 ra with
    | .int i => if i ≤ 16000000 ∧ -16000000 ≤ i then some (upTo i.toNat, ρ1) else none
    | _ => none
  | .rng2 a b, ρ => do
    let (ra, ρ1) ← ev a ρ
    let (rb, ρ2) ← ev b ρ1
    match ← rdR ρ2 ra, ← rdR ρ2 rb with
    | .int i, .int j => if (i ≤ 8000000 ∧ -8000000 ≤ i) ∧ j ≤ 8000000 ∧ -8000000 ≤ j then some (from2 i j, ρ2) else none
    | _, _ => none
  | .enum e, ρ => do
    let (r, ρ1) ← ev e ρ
    let (d, ρ2) ← escR ρ1 r
    match d with
    | .list xs => some (xs.mapIdx fun k x => .tuple [.int k, x], ρ2)
    | .tuple xs => some (xs.mapIdx fun k x => .tuple [.int k, x], ρ2)
    | _ => none
  | .zip a b, ρ => do
    let (ra, ρ1) ← ev a ρ
    let (rb, ρ2) ← ev b ρ1
    let (ds, ρ3) ← escRs [ra, rb] ρ2
    match ds with
    | [da, db] => do
      let xs ← seqD da
      let ys ← seqD db
      some (List.zipWith (fun x y => PyData.tuple [x, y]) xs ys, ρ3)
    | _ => none
end

inductive Out where
  | nx (ρ : Rho)
  | rt (r : R) (ρ : Rho)
  | bk (ρ : Rho)
  | ct (ρ : Rho)
def forF (turn : D → Rho → Option Out) : List D → Rho → Option Out
  | [], ρ => some (.nx ρ)
  | d :: ds, ρ => match turn d ρ with
    | some (.nx ρ1) => forF turn ds ρ1
    | some (.ct ρ1) => forF turn ds ρ1
    | some (.bk ρ1) => some (.nx ρ1)
    | some (.rt r ρ1) => some (.rt r ρ1)
    | none => none
def whileF (test : Rho → Option (Bool × Rho)) (body : Rho → Option Out) : Nat → Rho → Option Out
  | 0, _ => none
  | n + 1, ρ => match test ρ with
    | some (false, ρ1) => some (.nx ρ1)
    | some (true, ρ1) => match body ρ1 with
      | some (.nx ρ2) => whileF test body n ρ2
      | some (.ct ρ2) => whileF test body n ρ2
      | some (.bk ρ2) => some (.nx ρ2)
      | some (.rt r ρ2) => some (.rt r ρ2)
      | none => none
    | none => none
/-- store a value that has come in slot i: a new object stays one's own -/
def storeR (lk i : Nat) : R → Rho → Option Rho
  | .val o d, ρ => if lk ≤ i ∧ i < ρ.length then some (ρ.set i (some (o, d))) else none
  | .loc j, ρ => match look ρ j with
    | some (_, d) => if lk ≤ i ∧ i < ρ.length then some ((ρ.set j (some (false, d))).set i (some (false, d))) else none
    | none => none
variable (lk : Nat)
mutual
def exec (n : Nat) : S → Rho → Option Out
  | .asg i e, ρ => do
    let (r, ρ1) ← ev G e ρ
    let ρ2 ← storeR lk i r ρ1
    some (.nx ρ2)
  | .asgT t e, ρ => do
    let (r, ρ1) ← ev G e ρ
    let (d, ρ2) ← escR ρ1 r
    if (tgs t).all (fun i => lk ≤ i) then do
      let ρ3 ← bindT t d ρ2
      some (.nx ρ3)
    else none
  | .par i j a b, ρ => do
    let (ra, ρ1) ← ev G a ρ
    let (rb, ρ2) ← ev G b ρ1
    if isLocR ra || isLocR rb then none
    else do
      let ρ3 ← storeR lk i ra ρ2
      let ρ4 ← storeR lk j rb ρ3
      some (.nx ρ4)
  | .parT i j a b, ρ => do
    let (ra, ρ1) ← ev G a ρ
    let (rb, ρ2) ← ev G b ρ1
    if isLocR ra || isLocR rb then none
    else do
      let ρ3 ← storeR lk i ra ρ2
      let ρ4 ← storeR lk j rb ρ3
      some (.nx ρ4)
  | .setix i a e, ρ => match look ρ i with
    | some (true, _) => do
      let (r, ρ1) ← ev G e ρ
      let (ra, ρ2) ← ev G a ρ1
      let (d, ρ3) ← escR ρ2 r
      let k ← rdR ρ3 ra
      match look ρ3 i, k with
      | some (true, .list xs), .int z => match ixN xs.length z with
        | some k => some (.nx (ρ3.set i (some (true, .list (xs.set k d)))))
        | none => none
      | some (true, .dict kvs), x => if isKey x && decide (kvs.length < sizeLine) then some (.nx (ρ3.set i (some (true, .dict (dput kvs x d))))) else none
      | _, _ => none
    | _ => none
  | .aug i o e, ρ => match look ρ i with
    | some (false, .int x) => do
      let (r, ρ1) ← ev G e ρ
      let d ← rdR ρ1 r
      match d with
      | .int y => do
        let z ← op2 o (.int x) (.int y)
        if lk ≤ i ∧ i < ρ1.length ∧ (o = .add ∨ o = .sub) then some (.nx (ρ1.set i (some (false, z.2)))) else none
      | _ => none
    | _ => none
  | .expr e, ρ => do
    let (_, ρ1) ← ev G e ρ
    some (.nx ρ1)
  | .ret e, ρ => do
    let (r, ρ1) ← ev G e ρ
    some (.rt r ρ1)
  | .retN, ρ => some (.rt (.val false .none) ρ)
  | .ifs c a b, ρ => do
    let (t, ρ1) ← evT G c ρ
    if t then execs n a ρ1 else execs n b ρ1
  | .for_ t it body, ρ => do
    let (ds, ρ1) ← evI G it ρ
    if (tgs t).all (fun i => lk ≤ i) then
      forF (fun d ρ => match bindT t d ρ with
        | some ρ1 => execs n body ρ1
        | none => none) ds ρ1
    else none
  | .while_ c body, ρ => whileF (fun ρ => evT G c ρ) (fun ρ => execs n body ρ) n ρ
  | .brk, ρ => some (.bk ρ)
  | .cont, ρ => some (.ct ρ)
  | .pass, ρ => some (.nx ρ)
  | .stuck, _ => none
def execs (n : Nat) : Ss → Rho → Option Out
  | .nil, ρ => some (.nx ρ)
  | .cons s ss, ρ => match exec n s ρ with
    | some (.nx ρ1) => execs n ss ρ1
    | o => o
end
/-- a def's run: N names, the first argument is changed if m -/
def finish (m : Bool) (ρ : Rho) (p : Bool × D) : Option ((Bool × D) × D) :=
  if m then (match look ρ 0 with
    | some (true, s) => some (p, s)
    | _ => none) else some (p, PyData.none)
def finR (m : Bool) (ρ : Rho) : R → Option ((Bool × D) × D)
  | .val o d => finish m ρ (o, d)
  | .loc i => if m && i == 0 then none else match look ρ i with
    | some p => finish m ρ p
    | none => none
def entry (N : Nat) (m : Bool) (ds : List D) : Rho :=
  (match ds with
    | d :: r => some (m, d) :: r.map (fun d => some (false, d))
    | [] => []) ++ List.replicate (N - ds.length) none
def run (n : Nat) (N : Nat) (m : Bool) (body : Ss) (ds : List D) : Option ((Bool × D) × D) :=
  match execs G (if m then 1 else 0) n body (entry N m ds) with
  | some (.rt r ρ) => finR m ρ r
  | some (.nx ρ) => finish m ρ (false, PyData.none)
  | _ => none
end Ev
set_option Elab.async false
set_option linter.all false
set_option maxRecDepth 100000
set_option maxHeartbeats 4000000
/-! Ev, part 4b: more of tuples: repeated, turned round, the least of one. -/
namespace Ev
open PySem PySem.Spec PyProof.Rows L2
theorem tup_rep_same (l : Addr) (items : Array Value) (n : Nat) (dd : Option Addr) (sl : Array (Option Value)) (x : Int) (u : Tok) (c0 : (decide (x < -(2 ^ 63)) || decide (x ≥ 2 ^ 63)) = false) (c1 : (items.isEmpty || x == 1) = true) :
    Meets (Builtin.«tuple.__mul__» ⟨[.ref l, .int x u], []⟩) (fun _ R s => s.heap.get? l = some { cls := .type "tuple", dict := dd, data := .seq items n, slots := sl } ∧ R (.ok (.ret (Value.ref l))) s) :=
  .of_wp fun prog w A R s h => by
    obtain ⟨hp, g, d, tk, os⟩ := s
    obtain ⟨hl, h⟩ := h
    have f1 := AutoSeq1.idx_int
    wp_walk using wpAny_loadPart' hl
    repeat (first
      | (refine wpAny_ite_false (decide_eq_false (by rw [c0]; exact Bool.false_ne_true)) ?_; wp_walk using wpAny_loadPart' hl)
      | (refine wpAny_ite_true (decide_eq_true c1) ?_; wp_walk using wpAny_loadPart' hl))
    exact ⟨_, rfl, h⟩
theorem tup_rep_none (l : Addr) (items : Array Value) (n : Nat) (dd : Option Addr) (sl : Array (Option Value)) (x : Int) (u : Tok) (c0 : (decide (x < -(2 ^ 63)) || decide (x ≥ 2 ^ 63)) = false) (c1 : (items.isEmpty || x == 1) = false) (c2 : (decide (x ≤ 0) || items.isEmpty) = true) :
    Meets (Builtin.«tuple.__mul__» ⟨[.ref l, .int x u], []⟩) (fun _ R s => s.heap.get? l = some { cls := .type "tuple", dict := dd, data := .seq items n, slots := sl } ∧
      R (.ok (.ret (Value.ref s.heap.objs.size))) { s with heap := s.heap.push { cls := Value.type "tuple", data := Data.seq #[] }, toks := s.toks }) :=
  .of_wp fun prog w A R s h => by
    obtain ⟨hp, g, d, tk, os⟩ := s
    obtain ⟨hl, h⟩ := h
    have f1 := AutoSeq1.idx_int
    wp_walk using wpAny_loadPart' hl
    repeat (first
      | (refine wpAny_ite_false (decide_eq_false (by rw [c0]; exact Bool.false_ne_true)) ?_; wp_walk using wpAny_loadPart' hl)
      | (refine wpAny_ite_false (decide_eq_false (by rw [c1]; exact Bool.false_ne_true)) ?_; wp_walk using wpAny_loadPart' hl)
      | (refine wpAny_ite_true (decide_eq_true c2) ?_; wp_walk using wpAny_loadPart' hl))
    exact ⟨_, rfl, h⟩
section
variable {prog : Program} {w : World} {A : Around} {E : Value → Shared → Prop} {s : Shared}
theorem sliceApplied_rev {sl : Addr} {t : Tok} {n : Nat} {Q : Int × Int × Nat → Shared → Prop} (hs : s.heap.IsSliceOf sl .none .none (.int (-1) t)) (h : Q ((n : Int) - 1, -1, n) s) :
    wpAny (model prog w) A (Builtin.Slice.sliceApplied (.ref sl) (pure (n : Int))) Q E s := by
  obtain ⟨os, hos, hcs, hds⟩ := id hs
  unfold Builtin.Slice.sliceApplied Builtin.Slice.sliceFields
  refine wpAny_bind (wpAny_bind (wpAny_field hos hds (x := .none) rfl (wpAny_bind (wpAny_field hos hds (x := .none) rfl (wpAny_bind (wpAny_field hos hds (x := .int (-1) t) rfl (wpAny_pure ?_)))))))
  refine wpAny_bind (HT.slicePart_ (.int (-1) t) ?_)
  show wpAny _ _ (if ((-1 : Int) == 0) = true then _ else _) _ _ s
  rw [if_neg (by decide)]
  refine wpAny_bind (HT.slicePart_ .none (wpAny_bind (HT.slicePart_ .none (wpAny_bind (wpAny_pure ?_)))))
  show wpAny _ _ (pure ((n : Int) - 1, (-1 : Int), Builtin.Slice.slicePlaces ((n : Int) - 1) (-1) (-1))) _ _ s
  have e : Builtin.Slice.slicePlaces ((n : Int) - 1) (-1) (-1) = n := by
    unfold Builtin.Slice.slicePlaces
    rw [if_neg (by decide)]
    by_cases h : (n : Int) - 1 > -1
    · rw [if_pos h, show (-(-1) : Int) = 1 by decide, Int.ediv_one]
      omega
    · rw [if_neg h]
      omega
  rw [e]
  exact wpAny_pure h
theorem pick_rev (xs : Array Value) : ((List.range xs.size).filterMap fun (m : Nat) => xs[((xs.size : Int) - 1 + (m : Int) * (-1)).toNat]?).toArray = xs.toList.reverse.toArray := by
  have e : (fun (m : Nat) => xs[((xs.size : Int) - 1 + (m : Int) * (-1)).toNat]?) = (fun i => xs[i]?) ∘ fun m => xs.size - 1 - m := by
    funext m
    have : ((xs.size : Int) - 1 + (m : Int) * (-1)).toNat = xs.size - 1 - m := by omega
    rw [this]
    rfl
  rw [e, ← List.filterMap_map, PySem.W.krv_range, List.filterMap_reverse, PySem.W.krv_all]
theorem getItem_tuple_rev {t sl : Addr} {u : Tok} {items : Array Value} {Q : Value → Shared → Prop} (ht : IsTup s.heap t items) (hs : s.heap.IsSliceOf sl .none .none (.int (-1) u))
    (h : Q (.ref s.heap.objs.size) { s with heap := s.heap.push { cls := .type "tuple", data := .seq items.toList.reverse.toArray } }) (hsz : items.size ≤ sizeLine) :
    wpAny (model prog w) A (getItem (.ref t) (.ref sl)) Q E s := by
  have htake : sizeOk (.seq items.toList.reverse.toArray) := by
    show items.toList.reverse.toArray.size ≤ sizeLine
    rw [List.size_toArray, List.length_reverse, Array.length_toList]
    exact hsz
  obtain ⟨os, hos, hcs, hds⟩ := id hs
  have hTs : s.TypeIs (.ref sl) "slice" := ⟨os, hos, hcs⟩
  unfold getItem
  try with_reducible refine wpAny_holding ?_
  first | refine wpAny_bind (wpAny_pure ?_) | skip
  refine wpAny_bind (wpAny_sequenceKey ht.typeIs (by decide) ?_)
  refine wpAny_bind (wpAny_callSpecial?_slot (name := Str.ofString "__getitem__") ht.typeIs PyProof.Rows.slot_tuple_getitem
    (wpAny_call_entry PyProof.Rows.slot_tuple_getitem ht.typeIs entry_tuple_getitem ?_ (args_tuple_getitem _ _)))
  show wpAny _ _ (Builtin.Tuple.tupleItemsOf (.ref t) >>= _) _ _ s
  refine wpAny_bind (tupleItemsOf_ ht ?_)
  refine wpAny_bind (wpAny_typeOf hTs ?_)
  rw [if_pos (by decide)]
  refine wpAny_bind (sliceApplied_rev (n := items.size) hs ?_)
  show wpAny _ _ (if (((items.size : Int) - 1) == 0 && (-1 : Int) == 1 && items.size == items.size) = true then _ else _) _ _ s
  rw [if_neg (by rw [show ((-1 : Int) == 1) = false by decide, Bool.and_false, Bool.false_and]; exact Bool.false_ne_true), pick_rev]
  first
    | exact wpAny_bind (m := Builtin.Tuple.tupleExact _) (wpAny_newObj_type (wpAny_pure ⟨_, rfl, wpAny_pure h⟩) htake)
    | exact wpAny_bind (m := Builtin.Tuple.tupleExact _) (wpAny_newObj_type (wpAny_bind (wpAny_pure (wpAny_pure ⟨_, rfl, wpAny_pure h⟩))) htake)
    | exact wpAny_bind (wpAny_bind (m := Builtin.Tuple.tupleExact _) (wpAny_newObj_type (wpAny_pure (wpAny_pure ⟨_, rfl, wpAny_pure h⟩)) htake))
    | exact wpAny_bind (wpAny_bind (m := Builtin.Tuple.tupleExact _) (wpAny_newObj_type (wpAny_pure ⟨_, rfl, wpAny_pure h⟩) htake))
end
section
variable {X : Cx} {e : Expr} {te : TE} {p1 p2 p3 p4 pos : Pos} {k : Nat}
/-- t * k -/
def rRepA (K : PySem.W.Frag) : R2 := fun x y H Q => ∃ l k xs, x = .ref l ∧ y = .int k ∧ SqT K H l xs ∧ -1000 ≤ k ∧ k ≤ 1000 ∧ xs.length ≤ 1000 ∧ (xs = [] ∨ k = 1 → Q (.ref l) H) ∧
  (¬ (xs = [] ∨ k = 1) → ∀ p, H p = none → Q (.ref p) (upd H p (.tup (List.replicate k.toNat xs).flatten)))
theorem op_repA : OpR X (binaryOp .Mult) (rRepA X.K) := by
  intro pins s σ H x y v u Q I rx ry h
  obtain ⟨l, k, xs, rfl, rfl, hT, h1, h2, hz, q1, q2⟩ := h
  by_cases big : xs ≠ [] ∧ 2 ≤ k
  · exact op_repT pins s σ H _ _ v u Q I rx ry ⟨l, k, xs, rfl, rfl, hT, big.1, big.2, h2, hz, q2 fun z => z.elim big.1 fun z => by omega⟩
  cases rx
  obtain ⟨t, rfl⟩ := ry
  obtain ⟨its, r, ⟨⟨cls, dd, data, sl⟩, ho, hc, n, hd⟩, hs⟩ := I.tuple hT
  simp only at hc hd
  subst hc hd
  have hle : its.length = xs.length := r.length.symm
  have c0 : (decide (k < -(2 ^ 63)) || decide (k ≥ 2 ^ 63)) = false := by
    rw [decide_eq_false (by omega), decide_eq_false (by omega)] <;> rfl
  have hemp : its.toArray.isEmpty = decide (xs = []) := by
    rw [Bool.eq_iff_iff, decide_eq_true_eq]
    cases its with
    | nil => exact ⟨fun _ => List.eq_nil_of_length_eq_zero hle.symm, fun _ => rfl⟩
    | cons a b => exact ⟨fun z => (by cases z), fun z => (by rw [z] at hle; cases hle)⟩
  by_cases same : xs = [] ∨ k = 1
  · have c1 : (its.toArray.isEmpty || k == 1) = true := by
      rw [hemp, Bool.or_eq_true, decide_eq_true_eq, beq_iff_eq]
      exact same
    exact wpAny_binaryOp_repeat_ref (T := "tuple") (U := "int") (by decide) ⟨_, ho, rfl⟩ (fun s' => typeIs_int s' k t) noFill_tuple_mul F.fills_int_mul F.slot_int_rmul repeat_tuple F.slot_int_index.lookup
      (call_meets F.slot_int_rmul (typeIs_int s k t) F.entry_int_rmul (F.args_int_rmul_2 _ _) (int_rmul_tuple k t l its.toArray n dd sl)
        ⟨ho, rfl, ⟨_, ho, rfl⟩, call_meets F.slot_tuple_mul ⟨_, ho, rfl⟩ F.entry_tuple_mul (F.args_tuple_mul_2 _ _) (tup_rep_same l its.toArray n dd sl k t c0 c1) ⟨ho, ⟨.ref l, H, I, rfl, q1 same⟩⟩⟩)
  · have c1 : (its.toArray.isEmpty || k == 1) = false := by
      rw [hemp, Bool.or_eq_false_iff, decide_eq_false_iff_not, beq_eq_false_iff_ne]
      exact ⟨fun z => same (.inl z), fun z => same (.inr z)⟩
    have hk : k ≤ 0 := by
      by_cases z : 2 ≤ k
      · exact absurd ⟨fun y => same (.inl y), z⟩ big
      · have : k ≠ 1 := fun y => same (.inr y)
        omega
    have c2 : (decide (k ≤ 0) || its.toArray.isEmpty) = true := by
      rw [decide_eq_true hk]; rfl
    have q3 := q2 same
    have ek : k.toNat = 0 := by omega
    rw [ek] at q3
    refine wpAny_binaryOp_repeat_ref (T := "tuple") (U := "int") (by decide) ⟨_, ho, rfl⟩ (fun s' => typeIs_int s' k t) noFill_tuple_mul F.fills_int_mul F.slot_int_rmul repeat_tuple F.slot_int_index.lookup
      (call_meets F.slot_int_rmul (typeIs_int s k t) F.entry_int_rmul (F.args_int_rmul_2 _ _) (int_rmul_tuple k t l its.toArray n dd sl)
        ⟨ho, rfl, ⟨_, ho, rfl⟩, call_meets F.slot_tuple_mul ⟨_, ho, rfl⟩ F.entry_tuple_mul (F.args_tuple_mul_2 _ _) (tup_rep_none l its.toArray n dd sl k t c0 c1 c2) ⟨ho, ?_⟩⟩)
    refine ⟨.ref s.heap.objs.size, _, I.laid (t' := s.toks) (o := .tup []) (fun b ob q => Heap.get?_push_of_some _ q) (Nat.le_refl _) ?_, rfl, q3 _ (I.hok.fresh (Nat.le_refl _))⟩
    exact ⟨Nat.zero_le _, [], .nil, IsTup.new _ _⟩
theorem foldl_min : ∀ (ns : List Int) (n : Int), ns.foldl min n = minI n ns
  | [], n => rfl
  | x :: r, n => by
    rw [List.foldl_cons, foldl_min r]
    show minI (min n x) r = minI (if x < n then x else n) r
    have : min n x = if x < n then x else n := by split <;> omega
    rw [this]
theorem reads_ints {h : Heap} : ∀ {ns : List Int} {us : List Value}, Vals (ns.map V.int) us → ∃ as, ReadsAll h us (ns.map PyData.int) as
  | [], _, r => by cases r; exact ⟨_, .nil⟩
  | n :: ns, _, r => by
    rw [List.map_cons] at r
    cases r with
    | cons r1 r2 =>
      obtain ⟨t, rfl⟩ := r1
      obtain ⟨as, q⟩ := reads_ints r2
      exact ⟨_, .cons (.int n t) q⟩
theorem alike_ints (ns : List Int) : PySem.W.AlikeAll (ns.map PyData.int) := by
  refine ⟨fun x hx y hy => ?_, fun x hx => ?_⟩
  · obtain ⟨a, _, rfl⟩ := List.mem_map.mp hx
    obtain ⟨b, _, rfl⟩ := List.mem_map.mp hy
    rfl
  · obtain ⟨a, _, rfl⟩ := List.mem_map.mp hx
    exact fun z => by cases z
theorem depth_ints : ∀ ns : List Int, PyData.depthAll (ns.map PyData.int) = 0
  | [] => rfl
  | n :: ns => by simp [PyData.depthAll, PyData.depth, depth_ints ns]
/-- min(t) of a tuple of ints -/
theorem cr_minT (hc : X.calm = true) (hu : X.A.units + 100 < cLine) : CallR X (.builtin "min") (fun vs H Q => ∃ a n ns, vs = [.ref a] ∧ SqT X.K H a ((n :: ns).map V.int) ∧ Q (.int (minI n ns)) H) := by
  intro pins s σ H vs us Q I r h
  obtain ⟨a, n, ns, rfl, hs, q⟩ := h
  obtain ⟨its, rv, ht, _⟩ := I.tuple hs
  rw [Vals.ref1 r]
  obtain ⟨as, hr⟩ := reads_ints (h := s.heap) rv
  obtain ⟨o, ho, hc2, m, hd⟩ := ht
  refine PySem.W.min_tuple_data (x := .int n) (xs := ns.map .int) (I.ok.hd hc) ⟨o, ho, hc2, m, hd⟩ hr (alike_ints (n :: ns)) ?_ fun i v h' tk bs hv hr2 hk => ?_
  · have := depth_ints (n :: ns)
    simp only [List.map_cons] at this
    rw [this]; omega
  · rw [PySem.W.minD_ints, foldl_min] at hr2
    cases hr2
    exact ⟨.int _, H, I.kept hk, ⟨_, rfl⟩, q⟩
theorem foldl_max : ∀ (ns : List Int) (n : Int), ns.foldl max n = maxI n ns
  | [], n => rfl
  | x :: r, n => by
    rw [List.foldl_cons, foldl_max r]
    show maxI (max n x) r = maxI (if n < x then x else n) r
    have : max n x = if n < x then x else n := by split <;> omega
    rw [this]
theorem cr_maxT (hc : X.calm = true) (hu : X.A.units + 100 < cLine) : CallR X (.builtin "max") (fun vs H Q => ∃ a n ns, vs = [.ref a] ∧ SqT X.K H a ((n :: ns).map V.int) ∧ Q (.int (maxI n ns)) H) := by
  intro pins s σ H vs us Q I r h
  obtain ⟨a, n, ns, rfl, hs, q⟩ := h
  obtain ⟨its, rv, ht, _⟩ := I.tuple hs
  rw [Vals.ref1 r]
  obtain ⟨as, hr⟩ := reads_ints (h := s.heap) rv
  obtain ⟨o, ho, hc2, m, hd⟩ := ht
  refine PySem.W.max_tuple_data (x := .int n) (xs := ns.map .int) (I.ok.hd hc) ⟨o, ho, hc2, m, hd⟩ hr (alike_ints (n :: ns)) ?_ fun i v h' tk bs hv hr2 hk => ?_
  · have := depth_ints (n :: ns)
    simp only [List.map_cons] at this
    rw [this]; omega
  · rw [PySem.W.maxD_ints, foldl_max] at hr2
    cases hr2
    exact ⟨.int _, H, I.kept hk, ⟨_, rfl⟩, q⟩
/-- t[::-1] -/
theorem pe_rev (he : PE X e te) : PE X (.Subscript e (.Slice none none (some (.UnaryOp .USub (.Constant (.int 1) k p1) p2)) p3) pos) (fun σ H Q => te σ H fun x H1 => ∃ a xs, x = .ref a ∧ SqT X.K H1 a xs ∧ ∀ p, H1 p = none → Q (.ref p) (upd H1 p (.tup xs.reverse))) := by
  refine ⟨fun pins s σ H Q I h => ?_⟩
  refine Subscript_ (thn (he.run pins s σ H _ I h) fun v s1 ⟨x, H1, I1, r1, q1⟩ => ?_)
  obtain ⟨a, xs, rfl, hx, q⟩ := q1
  cases r1
  refine wpAny_Slice ?_
  rw [evalPart_none]
  refine wpAny_pure ?_
  refine wpAny_pure ?_
  rw [evalPart_some]
  have hm : PE X (.UnaryOp .USub (.Constant (.int 1) k p1) p2) _ := pe_un un_neg (pe_int (X := X))
  refine thn (hm.run pins s1 σ H1 (fun v H' => v = .int (-1) ∧ H' = H1) I1 ?_) fun u s2 ⟨y, H2, I2, r2, e2⟩ => ?_
  · exact ⟨1, rfl, rfl, rfl⟩
  obtain ⟨rfl, rfl⟩ := e2
  obtain ⟨t, rfl⟩ := r2
  have I4 : Inv X pins σ H2 { s2 with heap := s2.heap.push { cls := .type "slice", data := .fields #[.none, .none, .int (-1) t] } } := I2.kept (t' := s2.toks) fun b ob q => Heap.get?_push_of_some _ q
  obtain ⟨its, r, ht, hz⟩ := I4.tuple hx
  refine tail_any (ops := [.ref a, .ref s2.heap.objs.size]) ht.typeIs PyProof.Rows.slot_tuple_getitem.lookup ?_ (by with_unfolding_all rfl)
  refine getItem_tuple_rev ht (Heap.IsSliceOf.new ..) ?_ (by rw [List.size_toArray, ← r.length]; exact hz)
  refine ⟨.ref _, _, I4.laid (t' := s2.toks) (o := .tup xs.reverse) (fun b ob q => Heap.get?_push_of_some _ q) (Nat.le_refl _) ?_, rfl, q _ (I4.hok.fresh (Nat.le_refl _))⟩
  exact ⟨by rw [List.length_reverse]; exact hz, _, r.reverse, IsTup.new _ _⟩
end
end Ev
set_option Elab.async false
set_option linter.all false
set_option maxRecDepth 100000
set_option maxHeartbeats 4000000
/-! Ev, part 3: the operators on values. -/
namespace Ev
open PySem PySem.Spec PyProof.Rows L2
variable {K : PySem.W.Frag} {H H' : Hp} {O O' : AS}

theorem Mv.new {p : Addr} (e : Same H H') (n : H p = none) : Mv K H O H' (fun a => O a ∨ a = p) :=
  ⟨fun _ _ h => sqT_same e h, fun _ _ _ h => rd_same e h, fun _ _ _ h => e _ _ h, fun a o ⟨u, q⟩ z => z.elim o fun z => by rw [z, n] at q; cases q⟩
theorem same_up {p : Addr} {o : HO} (n : H p = none) : Same H (upd H p o) := fun b u e => by
  rw [upd_ne (ne_of_none e n)]
  exact e
theorem res_lst {p : Addr} {xs : List V} {ds : List D} (n : H p = none) (r : Rps K H O xs ds) : Res K H (upd H p (.lst xs)) O (.ref p) true (.list ds) :=
  ⟨p, rfl, n, xs, upd_same, Rps.mv (Mv.new (same_up n) n) _ _ r⟩
theorem rp_tup {p : Addr} {xs : List V} {ds : List D} (n : H p = none) (r : Rps K H O xs ds) : Rp K (upd H p (.tup xs)) O (.ref p) (.tuple ds) :=
  .tup (.inl (.inl upd_same)) (Rps.mv (Mv.same (same_up n)) _ _ r)

theorem Rps.app : ∀ {xs ys : List V} {ds es : List D}, Rps K H O xs ds → Rps K H O ys es → Rps K H O (xs ++ ys) (ds ++ es)
  | [], _, _, _, h, q => by cases h; exact q
  | _ :: xs, _, _, _, h, q => by
    cases h with
    | cons a b => exact .cons a (Rps.app b q)
theorem Rps.get : ∀ {xs : List V} {ds : List D} {i : Nat} {d : D}, Rps K H O xs ds → ds[i]? = some d → ∃ v, xs[i]? = some v ∧ Rp K H O v d
  | [], _, i, d, h, e => by cases h; simp at e
  | x :: xs, _, 0, d, h, e => by
    cases h with
    | cons a b => simp at e; subst e; exact ⟨x, rfl, a⟩
  | x :: xs, _, i + 1, d, h, e => by
    cases h with
    | cons a b =>
      obtain ⟨v, h1, h2⟩ := Rps.get (i := i) b (by simpa using e)
      exact ⟨v, by simpa using h1, h2⟩
theorem Rps.set {v : V} {d : D} (r : Rp K H O v d) : ∀ {xs : List V} {ds : List D} (i : Nat), Rps K H O xs ds → Rps K H O (xs.set i v) (ds.set i d)
  | [], _, _, h => by cases h; exact .nil
  | _ :: _, _, 0, h => by
    cases h with
    | cons a b => exact .cons r b
  | _ :: _, _, i + 1, h => by
    cases h with
    | cons a b => exact .cons a (Rps.set r i b)
theorem Rps.erase : ∀ {xs : List V} {ds : List D} (i : Nat), Rps K H O xs ds → Rps K H O (xs.eraseIdx i) (ds.eraseIdx i)
  | [], _, _, h => by cases h; exact .nil
  | _ :: _, _, 0, h => by
    cases h with
    | cons a b => exact b
  | _ :: _, _, i + 1, h => by
    cases h with
    | cons a b => exact .cons a (Rps.erase i b)
theorem Rps.rep {xs : List V} {ds : List D} (h : Rps K H O xs ds) : ∀ n : Nat, Rps K H O (List.replicate n xs).flatten (List.replicate n ds).flatten
  | 0 => .nil
  | n + 1 => by
    simp only [List.replicate_succ, List.flatten_cons]
    exact h.app (Rps.rep h n)
theorem Rps.rev : ∀ {xs : List V} {ds : List D}, Rps K H O xs ds → Rps K H O xs.reverse ds.reverse
  | [], _, h => by cases h; exact .nil
  | x :: xs, _, h => by
    cases h with
    | cons a b =>
      simp only [List.reverse_cons]
      exact (Rps.rev b).app (.cons a .nil)
theorem Rps.take : ∀ {xs : List V} {ds : List D} (i : Nat), Rps K H O xs ds → Rps K H O (xs.take i) (ds.take i)
  | _, _, 0, h => by simp only [List.take_zero]; exact .nil
  | [], _, i + 1, h => by cases h; exact .nil
  | _ :: _, _, i + 1, h => by
    cases h with
    | cons a b => exact .cons a (Rps.take i b)
theorem Rps.drop : ∀ {xs : List V} {ds : List D} (i : Nat), Rps K H O xs ds → Rps K H O (xs.drop i) (ds.drop i)
  | _, _, 0, h => h
  | [], _, i + 1, h => by cases h; exact .nil
  | _ :: _, _, i + 1, h => by
    cases h with
    | cons a b => exact Rps.drop i b
theorem Rps.dropLast {xs : List V} {ds : List D} (h : Rps K H O xs ds) : Rps K H O xs.dropLast ds.dropLast := by
  rw [List.dropLast_eq_take, List.dropLast_eq_take, h.len]
  exact h.take _
theorem Rps.asInts : ∀ {xs : List V} {ds : List D} {ns : List Int}, Rps K H O xs ds → asInts ds = some ns → xs = ns.map V.int
  | [], _, _, h, e => by cases h; simp [Ev.asInts] at e; subst e; rfl
  | x :: xs, _, ns, h, e => by
    cases h with
    | @cons _ _ d _ a b =>
      cases d with
      | int i =>
        cases a
        simp only [Ev.asInts, Option.map_eq_some_iff] at e
        obtain ⟨ms, e1, e2⟩ := e
        subst e2
        rw [Rps.asInts b e1]
        rfl
      | _ => simp [Ev.asInts] at e
theorem Rps.asBools : ∀ {xs : List V} {ds : List D} {ns : List Bool}, Rps K H O xs ds → asBools ds = some ns → xs = ns.map V.bl
  | [], _, _, h, e => by cases h; simp [Ev.asBools] at e; subst e; rfl
  | x :: xs, _, ns, h, e => by
    cases h with
    | @cons _ _ d _ a b =>
      cases d with
      | bool i =>
        cases a
        simp only [Ev.asBools, Option.map_eq_some_iff] at e
        obtain ⟨ms, e1, e2⟩ := e
        subst e2
        rw [Rps.asBools b e1]
        rfl
      | _ => simp [Ev.asBools] at e
theorem rps_ints (ns : List Int) : Rps K H O (ns.map V.int) (ns.map PyData.int) := by
  induction ns with
  | nil => exact .nil
  | cons a r ih => exact .cons (.int a) ih

/-! ### deep readings -/
theorem rq_dp_list {d : D} : True := trivial
mutual
def noDict : D → Bool
  | .dict _ => false
  | .list ds => noDicts ds
  | .tuple ds => noDicts ds
  | _ => true
def noDicts : List D → Bool
  | [] => true
  | d :: ds => noDict d && noDicts ds
end
mutual
theorem Rp.dp : ∀ (d : D) (v : V), d.canLay0 = true → Rp K H O v d → Dp K H v d
  | .none, _, _, h => by cases h; exact .non
  | .bool b, _, _, h => by cases h; exact .bl b
  | .int i, _, _, h => by cases h; exact .int i
  | .str x, _, _, h => by cases h with | str _ l => exact .str x
  | .tuple ds, _, n, h => by
    cases h with
    | tup s r => exact .tup s (Rps.dp ds _ (by simpa only [PyData.canLay0] using n) r)
  | .list ds, _, n, h => by
    cases h with
    | lst o s r => exact .lst (.inl s) (Rps.dp ds _ (by simpa only [PyData.canLay0] using n) r)
  | .dict kds, _, n, h => by simp [PyData.canLay0] at n
theorem Rps.dp : ∀ (ds : List D) (vs : List V), PyData.canLayAll0 ds = true → Rps K H O vs ds → DpAll K H vs ds
  | [], _, _, h => by cases h; exact .nil
  | d :: ds, _, n, h => by
    simp only [PyData.canLayAll0, Bool.and_eq_true] at n
    cases h with
    | cons a b => exact .cons (Rp.dp d _ n.1 a) (Rps.dp ds _ n.2 b)
end
theorem Rq.dp {d : D} {v : V} (n : d.canLay0 = true) (h : Rq K H O v d) : Dp K H v d := by
  cases d with
  | list ds => obtain ⟨a, xs, rfl, s, r⟩ := h; exact .lst (.inl s) (Rps.dp ds _ (by simpa only [PyData.canLay0] using n) r)
  | dict ds => simp [PyData.canLay0] at n
  | _ => exact Rp.dp _ _ n h

/-! ### a reading of values -/
def rD2 (K : PySem.W.Frag) (f : D → D → Option (Bool × D)) : R2 := fun x y H Q => ∃ O da db r, Rq K H O x da ∧ Rq K H O y db ∧ f da db = some r ∧
  ∀ v H', Same H H' → Res K H H' O v r.1 r.2 → Q v H'
def rDn (K : PySem.W.Frag) (f : List D → Option (Bool × D)) : List V → Hp → VK → Prop := fun xs H Q => ∃ O ds r, Paired (fun x d => Rq K H O x d) xs ds ∧ f ds = some r ∧
  ∀ v H', Same H H' → Res K H H' O v r.1 r.2 → Q v H'
def rD1 (K : PySem.W.Frag) (f : D → Option (Bool × D)) : V → Hp → VK → Prop := fun x H Q => ∃ O d r, Rq K H O x d ∧ f d = some r ∧
  ∀ v H', Same H H' → Res K H H' O v r.1 r.2 → Q v H'

def opOf : O2 → Operator
  | .add => .Add | .sub => .Sub | .mul => .Mult | .fdiv => .FloorDiv | .mod => .Mod | .pow => .Pow
section
variable {X : Cx}
theorem op_catRd : OpR X (binaryOp .Add) (fun x y H Q => ∃ l b xs zs, x = .ref l ∧ y = .ref b ∧ Rd H l (.lst xs) ∧ Rd H b (.lst zs) ∧ xs.length + zs.length ≤ sizeLine ∧ ∀ p, H p = none → Q (.ref p) (upd H p (.lst (xs ++ zs)))) := by
  intro pins s σ H x y v u Q I rx ry h
  obtain ⟨l, b, xs, zs, rfl, rfl, hA, hB, hz, q⟩ := h
  cases rx
  cases ry
  obtain ⟨z, its, n, r, e⟩ := hA.ok I.hok
  obtain ⟨z2, its2, n2, r2, e2⟩ := hB.ok I.hok
  have hl := r.length
  have hl2 := r2.length
  refine PySem.P.add_list e e2 ?_ (by rw [List.size_toArray, List.size_toArray]; omega)
  have ea : its.toArray ++ its2.toArray = (its ++ its2).toArray := by simp
  rw [ea]
  exact ⟨.ref _, _, I.lnew (t' := s.toks) (r.append r2) (by rw [List.length_append]; omega), rfl, q _ I.fresh⟩
theorem fits_le {n : Nat} (h : fits n = true) : n ≤ sizeLine := of_decide_eq_true h
theorem op2_ok (hu : X.A.units + 64 < cLine) (o : O2) : OpR X (binaryOp (opOf o)) (rD2 X.K (op2 o)) := by
  intro pins s σ H x y v u Q I rx ry h
  obtain ⟨O, da, db, r, ha, hb, e, q⟩ := h
  cases o with
  | add =>
    cases da with
    | int a =>
      cases db with
      | int b =>
        cases ha; cases hb
        simp only [op2, Option.some.injEq] at e; subst e
        exact op_add pins s σ H _ _ v u Q I rx ry ⟨a, b, rfl, rfl, q _ _ (Same.refl _) (.int _)⟩
      | _ => simp [op2] at e
    | list xs =>
      cases db with
      | list ys =>
        obtain ⟨a, vs, rfl, sa, ra⟩ := ha
        obtain ⟨b, ws, rfl, sb, rb⟩ := hb
        simp only [op2] at e
        split at e
        · rename_i hf
          cases e
          have hf := fits_le hf
          refine op_catRd pins s σ H _ _ v u Q I rx ry ⟨a, b, vs, ws, rfl, rfl, sa, sb, by rw [ra.len, rb.len]; exact hf, fun p n => q _ _ (same_up n) (res_lst n (ra.app rb))⟩
        · cases e
      | _ => simp [op2] at e
    | tuple xs =>
      cases db with
      | tuple ys =>
        cases ha with
        | @tup a vs _ sa ra =>
        cases hb with
        | @tup b ws _ sb rb =>
        simp only [op2] at e
        split at e
        · rename_i hf
          cases e
          have hf := fits_le hf
          refine op_catA pins s σ H _ _ v u Q I rx ry ⟨a, b, vs, ws, rfl, rfl, sa, sb, by rw [ra.len, rb.len]; exact hf, fun z => ?_, fun z1 z2 => ?_, fun _ _ p n => ?_⟩
          · subst z
            have : xs = [] := List.eq_nil_of_length_eq_zero (by rw [← ra.len]; rfl)
            subst this
            exact q _ _ (Same.refl _) (.tup sb rb)
          · subst z2
            have : ys = [] := List.eq_nil_of_length_eq_zero (by rw [← rb.len]; rfl)
            subst this
            exact q _ _ (Same.refl _) (by rw [List.append_nil]; exact .tup sa ra)
          · exact q _ _ (same_up n) (rp_tup n (ra.app rb))
        · cases e
      | _ => simp [op2] at e
    | _ => cases db <;> simp [op2] at e
  | sub =>
    cases da <;> cases db <;> simp only [op2, Option.some.injEq, reduceCtorEq] at e
    subst e
    cases ha; cases hb
    exact op_sub pins s σ H _ _ v u Q I rx ry ⟨_, _, rfl, rfl, q _ _ (Same.refl _) (.int _)⟩
  | mul =>
    cases da with
    | tuple xs =>
      cases db with
      | int k =>
        simp only [op2] at e
        split at e
        · rename_i hf
          cases e
          cases ha with
          | @tup a vs _ sa ra =>
          cases hb
          refine op_repA pins s σ H _ _ v u Q I rx ry ⟨a, k, vs, rfl, rfl, sa, hf.2.1, hf.2.2, by rw [ra.len]; exact hf.1, fun z => ?_, fun _ p n => q _ _ (same_up n) (rp_tup n (ra.rep _))⟩
          refine q _ _ (Same.refl _) ?_
          have : (List.replicate k.toNat xs).flatten = xs := by
            rcases z with z | z
            · subst z
              have : xs = [] := List.eq_nil_of_length_eq_zero (by rw [← ra.len]; rfl)
              subst this
              simp
            · subst z
              simp
          show Rp X.K H O (.ref a) (.tuple (List.replicate k.toNat xs).flatten)
          rw [this]
          exact .tup sa ra
        · cases e
      | _ => simp [op2] at e
    | int a =>
      cases db <;> simp only [op2, reduceCtorEq] at e
      split at e
      · rename_i hf
        cases e
        cases ha; cases hb
        exact op_mulW pins s σ H _ _ v u Q I rx ry ⟨_, _, rfl, rfl, hf, q _ _ (Same.refl _) (.int _)⟩
      · cases e
    | _ => cases db <;> simp [op2] at e
  | fdiv =>
    cases da <;> cases db <;> simp only [op2, reduceCtorEq] at e
    split at e
    · rename_i hf
      cases e
      cases ha; cases hb
      exact op_fdivW pins s σ H _ _ v u Q I rx ry ⟨_, _, rfl, rfl, hf, q _ _ (Same.refl _) (.int _)⟩
    · cases e
  | mod =>
    cases da <;> cases db <;> simp only [op2, reduceCtorEq] at e
    split at e
    · rename_i hf
      cases e
      cases ha; cases hb
      exact op_mod pins s σ H _ _ v u Q I rx ry ⟨_, _, rfl, rfl, hf, q _ _ (Same.refl _) (.int _)⟩
    · cases e
  | pow =>
    cases da <;> cases db <;> simp only [op2, reduceCtorEq] at e
    split at e
    · rename_i hf
      cases e
      cases ha; cases hb
      exact (opI (C := fun i j => 0 ≤ j ∧ (Builtin.Int.intBits i : Int) * j ≤ 2 ^ 27) (g := fun i j => i ^ j.toNat) fun _ _ _ _ _ _ _ hc q => pow_int hc.1 hc.2 q) pins s σ H _ _ v u Q I rx ry ⟨_, _, rfl, rfl, hf, q _ _ (Same.refl _) (.int _)⟩
    · cases e
end
end Ev
set_option Elab.async false
set_option linter.all false
set_option maxRecDepth 100000
set_option maxHeartbeats 4000000
/-! Ev: a dict == a text. -/
namespace Ev
open PySem PySem.Spec PyProof.Rows L2 PySem.SeqAt
open AutoSeq1 (wpAny_loadPart')
open MeetsSeq
theorem str_eq_declines_dict (b : Str) (u : Tok) (l : Addr) (c : Value) (es : Array DictEntry) (ep : Nat) (dd : Option Addr) (sl : Array (Option Value)) :
    Meets (Builtin.«str.__eq__» ⟨[.str b u, .ref l], []⟩) (fun _ R s => s.heap.get? l = some { cls := c, dict := dd, data := .dict es ep, slots := sl } ∧ R (.ok (.ret .notImplemented)) s) :=
  .of_wp fun prog w A R s h => by obtain ⟨hp, g, d, tk, os⟩ := s; obtain ⟨hl, h⟩ := h; wp_walk using wpAny_loadPart' hl, wpAny_load hl; exact ⟨_, rfl, h⟩
theorem rc_dict_str {P : Program} {w : World} {A : Around} {s : Shared} {E : Value → Shared → Prop} {Q : Value → Shared → Prop} {a : Addr} {kvs : List (Key × Value)} (b : Str) (u : Tok) (dd : s.heap.DictOf (mixKind P w) a kvs) (hu : A.units < cLine) (h : Q (.bool false) s) :
    wpAny (model P w) A (richCompare .Eq (.ref a) (.str b u)) Q E s := by
  obtain ⟨⟨cls, d0, data, sl⟩, es, ep, ho, hx, hd, _⟩ := id dd
  simp only at hd
  subst hd
  exact rc_eq_decline_or (k := false) dd.typeIs (typeIs_str s b u) (by decide) F.sub_str_dict F.slot_dict_eq F.slot_str_eq_refl
    (fun Q' hq => by
      refine wpAny_call_entry PySem.F.slot_dict_eq dd.typeIs PySem.F.entry_dict_eq ?_ (PySem.F.args_dict_eq_2 _ _)
      show wpAny _ _ (Builtin.Dict.dictSlotArgs "__eq__" ⟨[.ref a, .str b u], []⟩ >>= _) _ _ s
      refine wpAny_bind ?_
      unfold Builtin.Dict.dictSlotArgs
      refine wpAny_bind (wpAny_notOrdered_dict dd.typeIs ?_)
      show wpAny _ _ (pure (Value.ref a, Value.str b u)) _ _ s
      refine wpAny_pure ?_
      refine wpAny_bind (wpAny_isInstance (T := "str") (typeIs_str s b u) PySem.F.sub_str_dict ?_)
      simp only [Bool.not_false, if_true]
      refine wpAny_bind (wpAny_rule (wpAny_pure ?_))
      exact ⟨_, rfl, hq⟩)
    (fun _ hq => call_meets F.slot_str_eq_refl (typeIs_str s b u) F.entry_str_eq (F.args_str_eq_2 _ _) (str_eq_declines_dict b u a cls es ep d0 sl) ⟨ho, hq⟩)
    (fun _ hq => wpAny_of_eq (rfl : isSame (.ref a) (.str b u) = pure false) hq) (.inr hu) h
end Ev
set_option Elab.async false
set_option linter.all false
set_option maxRecDepth 100000
set_option maxHeartbeats 4000000
/-! Ev, part 4: comparisons, truth, places, cuts, built-ins on values. -/
namespace Ev
open PySem PySem.Spec PyProof.Rows L2
variable {K : PySem.W.Frag} {H H' : Hp} {O O' : AS}

theorem rq_sq {v : V} {ds : List D} (h : Rq K H O v (.list ds)) : ∃ a xs, v = .ref a ∧ SqL K H a xs ∧ Rps K H O xs ds := by
  obtain ⟨a, xs, e, s, r⟩ := h
  exact ⟨a, xs, e, .inl s, r⟩
theorem rq_tp {v : V} {ds : List D} (h : Rq K H O v (.tuple ds)) : ∃ a xs, v = .ref a ∧ SqT K H a xs ∧ Rps K H O xs ds := by
  have h : Rp K H O v (.tuple ds) := h
  cases h with
  | tup s r => exact ⟨_, _, rfl, s, r⟩

/-! flat data -/
theorem flat_v {x : V} {d : D} (f : flatD d = true) (h : Rp K H O x d) : flatV x = true := by
  cases d <;> first | (cases h; rfl) | simp [flatD] at f
theorem flats_v : ∀ {xs : List V} {ds : List D}, ds.all flatD = true → Rps K H O xs ds → xs.all flatV = true
  | [], _, _, h => rfl
  | x :: xs, _, f, h => by
    cases h with
    | cons a b =>
      rw [List.all_cons, Bool.and_eq_true] at f ⊢
      exact ⟨flat_v f.1 a, flats_v f.2 b⟩
theorem eqV_of {x y : V} {d e : D} (fd : flatD d = true) (fe : flatD e = true) (hx : Rp K H O x d) (hy : Rp K H O y e) : eqV y x = PyData.eqv e d := by
  cases d <;> cases e <;> first | (simp [flatD] at fd; done) | (simp [flatD] at fe; done) | skip
  all_goals (cases hx; cases hy; simp [eqV, PyData.eqv])
theorem inV_of {x : V} {d : D} (fd : flatD d = true) (hx : Rp K H O x d) : ∀ {ys : List V} {es : List D}, es.all flatD = true → Rps K H O ys es → inV x ys = memD d es
  | [], _, _, h => by cases h; rfl
  | y :: ys, _, f, h => by
    cases h with
    | cons a b =>
      rw [List.all_cons, Bool.and_eq_true] at f
      have ih := inV_of fd hx f.2 b
      show (eqV y x || inV x ys) = _
      rw [ih, eqV_of fd f.1 hx a]
      rfl

/-! keys -/
theorem key_of {x : V} {d : D} (f : isKey d = true) (h : Rp K H O x d) : ∃ k : Key, x = kV k := by
  cases d <;> first | (simp [isKey] at f; done) | skip
  · cases h; exact ⟨.inl _, rfl⟩
  · cases h; exact ⟨.inr _, rfl⟩
theorem keyEq_of {k k' : Key} {d e : D} (hd : Rp K H O (kV k) d) (he : Rp K H O (kV k') e) : keyEq d e = decide (k = k') := by
  cases k <;> cases k' <;> (simp only [kV] at hd he; cases hd; cases he)
  · simp [keyEq]
  · simp [keyEq]
  · simp [keyEq]
  · simp [keyEq]
theorem dget_of {k : Key} {d : D} (hd : Rp K H O (kV k) d) : ∀ {kvs : List (Key × V)} {kds : List (D × D)}, RpKs K H O kvs kds →
    (dget kds d = none ∧ valV kvs k = none) ∨ ∃ v e, dget kds d = some e ∧ valV kvs k = some v ∧ Rp K H O v e
  | [], _, h => by cases h; exact .inl ⟨rfl, rfl⟩
  | (q, v) :: r, _, h => by
    cases h with
    | @cons _ _ _ e1 d1 s a b c =>
      have ke : keyEq e1 d = decide (q = k) := keyEq_of a hd
      by_cases hq : q = k
      · right
        refine ⟨v, d1, ?_, valV_pos hq, b⟩
        simp only [dget, ke, hq, decide_true, if_true]
      · have ih := dget_of hd c
        rw [valV_neg (p := (q, v)) hq]
        simp only [dget, ke, hq, decide_false, Bool.false_eq_true, if_false]
        exact ih
theorem putK_none {κ : Type} [DecidableEq κ] {kvs : List (κ × V)} {k : κ} {w : V} (h : valV kvs k = none) : putK kvs k w = kvs ++ [(k, w)] := by
  unfold putK
  rw [valV_any k kvs, h]
  rfl
theorem putK_cons_eq {q : Key} {v w : V} {r : List (Key × V)} {k : Key} (hq : q = k) (nd : ∀ p ∈ r, p.1 ≠ k) : putK ((q, v) :: r) k w = (k, w) :: r := by
  subst hq
  unfold putK
  rw [if_pos (by simp)]
  simp only [List.map_cons, if_true]
  congr 1
  induction r with
  | nil => rfl
  | cons p r ih =>
    rw [List.map_cons, if_neg (nd p List.mem_cons_self), ih fun p hp => nd p (List.mem_cons_of_mem _ hp)]
theorem putK_cons_ne {q : Key} {v w : V} {r : List (Key × V)} {k : Key} (hq : ¬ q = k) : putK ((q, v) :: r) k w = (q, v) :: putK r k w := by
  unfold putK
  simp only [List.any_cons, hq, decide_false, Bool.false_or, List.map_cons, if_false]
  split <;> rfl

section
variable {X : Cx}
theorem bl_res {b : Bool} : Res K H H O (.bl b) false (.bool b) := .bl b
theorem opc_of {r : R2} {f : Value → Value → Sem Value} (h : OpR X f r) {r' : R2} (hr : ∀ x y H Q, r' x y H Q → r x y H Q) : OpR X f r' :=
  fun pins s σ H x y v u Q I rx ry q => h pins s σ H x y v u Q I rx ry (hr _ _ _ _ q)
def copOf : C2 → CmpOp
  | .lt => .Lt | .le => .LtE | .gt => .Gt | .ge => .GtE | .eq => .Eq | .ne => .NotEq | .mem => .In | .nmem => .NotIn
def cmpR (c : C2) : D → D → Option (Bool × D) := fun a b => (cmp2 c a b).map fun t => (false, .bool t)
theorem op_indk (hu : X.A.units + 64 < cLine) : OpR X (compareOp .In) (fun x y H Q => ∃ a o, y = .ref a ∧ DGet H a x o ∧ Q (.bl o.isSome) H) := by
  intro pins s σ H x y v u Q I rx ry h
  obtain ⟨a, o, rfl, g, q⟩ := h
  cases ry
  exact d_in (by omega) I g rx fun s' I' => ⟨.bl _, H, I', rfl, q⟩
theorem op_nindk (hu : X.A.units + 64 < cLine) : OpR X (compareOp .NotIn) (fun x y H Q => ∃ a o, y = .ref a ∧ DGet H a x o ∧ Q (.bl (!o.isSome)) H) := by
  intro pins s σ H x y v u Q I rx ry h
  obtain ⟨a, o, rfl, g, q⟩ := h
  cases ry
  exact d_notIn (by omega) I g rx fun s' I' => ⟨.bl _, H, I', rfl, q⟩
theorem op_eqDS (hu : X.A.units + 64 < cLine) : OpR X (compareOp .Eq) (fun x y H Q => ∃ a kvs z, x = .ref a ∧ H a = some (.dK kvs) ∧ y = .str z ∧ Q (.bl false) H) := by
  intro pins s σ H x y v u Q I rx ry h
  obtain ⟨a, kvs, z, rfl, e, rfl, q⟩ := h
  obtain ⟨t, rfl⟩ := ry
  cases rx
  obtain ⟨hz, hd, vs, rel, dd⟩ := dk_of I.hok e
  exact rc_dict_str _ _ dd (by omega) ⟨.bl false, H, I, rfl, q⟩
theorem cmp2_ok (hu : X.A.units + 64 < cLine) (c : C2) : OpR X (compareOp (copOf c)) (rD2 X.K (cmpR c)) := by
  intro pins s σ H x y v u Q I rx ry h
  obtain ⟨O, da, db, r, ha, hb, e, q⟩ := h
  unfold cmpR at e
  rw [Option.map_eq_some_iff] at e
  obtain ⟨t, e, e2⟩ := e
  subst e2
  have fin : Q (.bl t) H := q _ _ (Same.refl _) bl_res
  cases c with
  | lt =>
    cases da <;> cases db <;> simp only [cmp2, Option.some.injEq, reduceCtorEq] at e
    subst e; cases ha; cases hb
    exact op_lt pins s σ H _ _ v u Q I rx ry ⟨_, _, rfl, rfl, fin⟩
  | le =>
    cases da <;> cases db <;> simp only [cmp2, Option.some.injEq, reduceCtorEq] at e
    subst e; cases ha; cases hb
    exact op_le pins s σ H _ _ v u Q I rx ry ⟨_, _, rfl, rfl, fin⟩
  | gt =>
    cases da <;> cases db <;> simp only [cmp2, Option.some.injEq, reduceCtorEq] at e
    subst e; cases ha; cases hb
    exact op_gt pins s σ H _ _ v u Q I rx ry ⟨_, _, rfl, rfl, fin⟩
  | ge =>
    cases da <;> cases db <;> simp only [cmp2, Option.some.injEq, reduceCtorEq] at e
    subst e; cases ha; cases hb
    exact op_ge pins s σ H _ _ v u Q I rx ry ⟨_, _, rfl, rfl, fin⟩
  | eq =>
    by_cases hd : ∃ kvs b, da = .dict kvs ∧ db = .str b
    · obtain ⟨kvs, b, rfl, rfl⟩ := hd
      simp only [cmp2, Option.some.injEq] at e
      subst e
      obtain ⟨a, ks, rfl, hk, _⟩ := ha
      cases hb
      exact op_eqDS hu pins s σ H _ _ v u Q I rx ry ⟨a, ks, b, rfl, hk, rfl, fin⟩
    by_cases hs : ∃ a b, da = .str a ∧ db = .str b
    · obtain ⟨a, b, rfl, rfl⟩ := hs
      simp only [cmp2, Option.some.injEq] at e
      subst e; cases ha; cases hb
      exact op_eq pins s σ H _ _ v u Q I rx ry ⟨rfl, by rw [dec_str]; exact fin⟩
    have e : (if okEq da && okEq db then some (PyData.eqv da db) else none) = some t := by
      rw [← e]
      cases da <;> cases db <;> first | rfl | exact absurd ⟨_, _, rfl, rfl⟩ hs | exact absurd ⟨_, _, rfl, rfl⟩ hd
    split at e
    · rename_i hf
      rw [Bool.and_eq_true] at hf
      cases e
      exact op_eqD hu pins s σ H _ _ v u Q I rx ry ⟨da, db, ha.dp (SeqAt.canLay_of_shaped hf.1), hb.dp (SeqAt.canLay_of_shaped hf.2), hf.1, hf.2, fin⟩
    · cases e
  | ne =>
    by_cases hs : ∃ a b, da = .str a ∧ db = .str b
    · obtain ⟨a, b, rfl, rfl⟩ := hs
      simp only [cmp2, Option.some.injEq] at e
      subst e; cases ha; cases hb
      exact op_ne pins s σ H _ _ v u Q I rx ry ⟨rfl, by rw [dec_str]; exact fin⟩
    have e : (if okEq da && okEq db then some (!PyData.eqv da db) else none) = some t := by
      rw [← e]
      cases da <;> cases db <;> first | rfl | exact absurd ⟨_, _, rfl, rfl⟩ hs
    split at e
    · rename_i hf
      rw [Bool.and_eq_true] at hf
      cases e
      exact op_neD hu pins s σ H _ _ v u Q I rx ry ⟨da, db, ha.dp (SeqAt.canLay_of_shaped hf.1), hb.dp (SeqAt.canLay_of_shaped hf.2), hf.1, hf.2, fin⟩
    · cases e
  | mem =>
    cases db with
    | list ys =>
      simp only [cmp2] at e
      split at e
      · rename_i hf
        rw [Bool.and_eq_true] at hf
        cases e
        obtain ⟨a, xs, rfl, sq, rs⟩ := rq_sq hb
        have ha' : Rp X.K H O x da := by cases da <;> first | exact ha | simp [flatD] at hf
        exact op_in_seq pins s σ H _ _ v u Q I rx ry ⟨a, xs, rfl, .inl sq, flat_v hf.1 ha', flats_v hf.2 rs, by rw [inV_of hf.1 ha' hf.2 rs]; exact fin⟩
      · cases e
    | tuple ys =>
      simp only [cmp2] at e
      split at e
      · rename_i hf
        rw [Bool.and_eq_true] at hf
        cases e
        obtain ⟨a, xs, rfl, sq, rs⟩ := rq_tp hb
        have ha' : Rp X.K H O x da := by cases da <;> first | exact ha | simp [flatD] at hf
        exact op_in_seq pins s σ H _ _ v u Q I rx ry ⟨a, xs, rfl, .inr sq, flat_v hf.1 ha', flats_v hf.2 rs, by rw [inV_of hf.1 ha' hf.2 rs]; exact fin⟩
      · cases e
    | dict kds =>
      simp only [cmp2] at e
      split at e
      · rename_i hf
        cases e
        obtain ⟨a, kvs, rfl, sq, rs⟩ := hb
        have ha' : Rp X.K H O x da := by cases da <;> first | exact ha | simp [isKey] at hf
        obtain ⟨k, rfl⟩ := key_of hf ha'
        refine op_indk hu pins s σ H _ _ v u Q I rx ry ⟨a, valV kvs k, rfl, .inl ⟨kvs, k, .inl sq, rfl, rfl⟩, ?_⟩
        rcases dget_of ha' rs with ⟨h1, h2⟩ | ⟨w, e, h1, h2, _⟩ <;> (rw [h1] at fin; rw [h2]; exact fin)
      · cases e
    | _ => simp [cmp2] at e
  | nmem =>
    cases db with
    | list ys =>
      simp only [cmp2] at e
      split at e
      · rename_i hf
        rw [Bool.and_eq_true] at hf
        cases e
        obtain ⟨a, xs, rfl, sq, rs⟩ := rq_sq hb
        have ha' : Rp X.K H O x da := by cases da <;> first | exact ha | simp [flatD] at hf
        exact op_notIn_seq pins s σ H _ _ v u Q I rx ry ⟨a, xs, rfl, .inl sq, flat_v hf.1 ha', flats_v hf.2 rs, by rw [inV_of hf.1 ha' hf.2 rs]; exact fin⟩
      · cases e
    | tuple ys =>
      simp only [cmp2] at e
      split at e
      · rename_i hf
        rw [Bool.and_eq_true] at hf
        cases e
        obtain ⟨a, xs, rfl, sq, rs⟩ := rq_tp hb
        have ha' : Rp X.K H O x da := by cases da <;> first | exact ha | simp [flatD] at hf
        exact op_notIn_seq pins s σ H _ _ v u Q I rx ry ⟨a, xs, rfl, .inr sq, flat_v hf.1 ha', flats_v hf.2 rs, by rw [inV_of hf.1 ha' hf.2 rs]; exact fin⟩
      · cases e
    | dict kds =>
      simp only [cmp2] at e
      split at e
      · rename_i hf
        cases e
        obtain ⟨a, kvs, rfl, sq, rs⟩ := hb
        have ha' : Rp X.K H O x da := by cases da <;> first | exact ha | simp [isKey] at hf
        obtain ⟨k, rfl⟩ := key_of hf ha'
        refine op_nindk hu pins s σ H _ _ v u Q I rx ry ⟨a, valV kvs k, rfl, .inl ⟨kvs, k, .inl sq, rfl, rfl⟩, ?_⟩
        rcases dget_of ha' rs with ⟨h1, h2⟩ | ⟨w, e, h1, h2, _⟩ <;> (rw [h1] at fin; rw [h2]; exact fin)
      · cases e
    | _ => simp [cmp2] at e

/-! truth -/
theorem emp_rps : ∀ {xs : List V} {ds : List D}, Rps K H O xs ds → xs.isEmpty = ds.isEmpty
  | [], _, h => by cases h; rfl
  | _ :: _, _, h => by cases h; rfl
theorem truth_tru {x : V} {d : D} {t : Bool} (h : Rq K H O x d) (e : truth d = some t) : TruV K x H t := by
  cases d with
  | none => cases h; simp [truth] at e; exact e
  | bool b => cases h; simp [truth] at e; exact e.symm
  | int i => cases h; simp [truth] at e; subst e; rfl
  | str s =>
    have h : Rp K H O x (.str s) := h
    cases h with
    | str _ l => simp only [truth, Option.some.injEq] at e; exact ⟨l, e.symm⟩
  | list ds =>
    obtain ⟨a, xs, rfl, sq, rs⟩ := rq_sq h
    simp only [truth, Option.some.injEq] at e
    exact .inl ⟨xs, sq, by rw [emp_rps rs]; exact e.symm⟩
  | tuple ds =>
    obtain ⟨a, xs, rfl, sq, rs⟩ := rq_tp h
    simp only [truth, Option.some.injEq] at e
    exact .inr (.inl ⟨xs, sq, by rw [emp_rps rs]; exact e.symm⟩)
  | dict kds =>
    obtain ⟨a, kvs, rfl, sq, rs⟩ := h
    simp only [truth, Option.some.injEq] at e
    refine .inr (.inr ⟨kvs, sq, ?_⟩)
    rw [← e]
    cases rs <;> rfl

/-! places -/
theorem ix_dK (hu : X.A.units + 64 < cLine) : IxR X (fun x y H Q => ∃ a v, x = .ref a ∧ DGet H a y (some v) ∧ Q v H) := by
  intro value slice pins s σ H x y v u Q I rx ry h hs
  obtain ⟨a, w, rfl, g, q⟩ := h
  cases rx
  exact tail_any (dict_typeIs I g) PySem.F.slot_dict_getitem.lookup (d_getItem (by omega) I g ry fun w' s' I' rw' => ⟨w, H, I', rw', q⟩) hs
theorem atI_rps {xs : List V} {ds : List D} {i : Int} {d : D} (r : Rps K H O xs ds) (e : atI ds i = some d) : ∃ v, atI xs i = some v ∧ Rp K H O v d := by
  unfold atI at e ⊢
  rw [r.len]
  cases h : ixN ds.length i with
  | none => rw [h] at e; cases e
  | some k =>
    rw [h] at e
    exact r.get e
theorem index2_ok (hu : X.A.units + 64 < cLine) : IxR X (rD2 X.K fun a b => (index2 a b).map fun d => (false, d)) := by
  intro value slice pins s σ H x y v u Q I rx ry h hs
  obtain ⟨O, da, db, r, ha, hb, e, q⟩ := h
  rw [Option.map_eq_some_iff] at e
  obtain ⟨d, e, e2⟩ := e
  subst e2
  cases da with
  | list ds =>
    cases db <;> simp only [index2, reduceCtorEq] at e
    obtain ⟨a, xs, rfl, sq, rs⟩ := rq_sq ha
    obtain ⟨w, hw, rw'⟩ := atI_rps rs e
    cases hb
    exact ix_list value slice pins s σ H _ _ v u Q I rx ry ⟨a, xs, _, w, rfl, rfl, sq, hw, q _ _ (Same.refl _) rw'⟩ hs
  | tuple ds =>
    cases db <;> simp only [index2, reduceCtorEq] at e
    obtain ⟨a, xs, rfl, sq, rs⟩ := rq_tp ha
    obtain ⟨w, hw, rw'⟩ := atI_rps rs e
    cases hb
    exact ix_tup value slice pins s σ H _ _ v u Q I rx ry ⟨a, xs, _, w, rfl, rfl, sq, hw, q _ _ (Same.refl _) rw'⟩ hs
  | dict kds =>
    simp only [index2] at e
    split at e
    · rename_i hf
      obtain ⟨a, kvs, rfl, sq, rs⟩ := ha
      have hb' : Rp X.K H O y db := by cases db <;> first | exact hb | simp [isKey] at hf
      obtain ⟨k, rfl⟩ := key_of hf hb'
      rcases dget_of hb' rs with ⟨h1, h2⟩ | ⟨w, e', h1, h2, hw⟩
      · rw [h1] at e; cases e
      · rw [h1] at e; cases e
        exact ix_dK hu value slice pins s σ H _ _ v u Q I rx ry ⟨a, w, rfl, .inl ⟨kvs, k, .inl sq, rfl, h2.symm⟩, q _ _ (Same.refl _) hw⟩ hs
    · cases e
  | _ => simp [index2] at e

/-! cuts -/
theorem cut_rps {xs : List V} {ds : List D} {lo hi : Option Int} (r : Rps K H O xs ds) : Rps K H O (cutV xs lo hi) (cutD ds lo hi) := by
  unfold cutV cutD
  rw [r.len]
  exact (r.drop _).take _
theorem slice2_ok : SlR X (fun x lo hi H Q => ∃ O d r, Rq X.K H O x d ∧ slice2 d lo hi = some r ∧ ∀ v H', Same H H' → Res X.K H H' O v r.1 r.2 → Q v H') := by
  intro pins s σ H x v vl vu lo hi sl Q I rx hs pl pu h
  obtain ⟨O, d, r, hd, e, q⟩ := h
  cases d with
  | list ds =>
    simp only [slice2, Option.some.injEq] at e
    subst e
    obtain ⟨a, xs, rfl, sq, rs⟩ := rq_sq hd
    exact sl_list pins s σ H _ v vl vu lo hi sl Q I rx hs pl pu ⟨a, xs, rfl, sq, fun p n => q _ _ (same_up n) (res_lst n (cut_rps rs))⟩
  | tuple ds =>
    simp only [slice2, Option.some.injEq] at e
    subst e
    obtain ⟨a, xs, rfl, sq, rs⟩ := rq_tp hd
    refine sl_tupA pins s σ H _ v vl vu lo hi sl Q I rx hs pl pu ⟨a, xs, rfl, sq, fun z => ?_, fun _ p n => q _ _ (same_up n) (rp_tup n (cut_rps rs))⟩
    refine q _ _ (Same.refl _) ?_
    have : cutD ds lo hi = ds := by
      unfold cutD
      rw [rs.len] at z
      rw [z.1, z.2]
      simp
    show Rp X.K H O (.ref a) (.tuple (cutD ds lo hi))
    rw [this]
    exact .tup sq rs
  | _ => simp [slice2] at e
end
end Ev
set_option Elab.async false
set_option linter.all false
set_option maxRecDepth 100000
set_option maxHeartbeats 4000000
/-! Ev, part 5a: max(xs, default=None). -/
namespace Ev
open PySem PySem.Spec PyProof.Rows L2

section
variable {prog : Program} {w : World} {A : Around} {R : Result → Shared → Prop} {it best : Addr} {fp wr : List Addr} {n : Nat} {P : Nat → Value → Prop} {St : Nat → Heap → Prop} {dz : Value}
abbrev dfl (z : Value) : List (Str × Value) := [(Str.ofString "default", z)]
theorem mx_name : (toString "max" ++ toString ".loop" : String) = "max.loop" := by decide
/-- the loop behind max, a default beside it, once a value is held -/
theorem mx_loop (W : Walks prog w A.in1 it fp wr n P St) (bt : Nat → Nat → Bool) (hc : CmpOf prog w A.in1 .Gt P bt) (hf : best ∉ fp) :
    ∀ (k j : Nat) (s : Shared) (vb : Value) (c : Nat), n - (j + 1) = k → j + 1 ≤ n → St (j + 1) s.heap → P (argBest bt j) vb →
    s.heap.get? best = some { cls := .type "list", dict := none, data := .seq #[vb, vb] c, slots := #[] } →
    (∀ v h' tk, P (argBest bt (n - 1)) v → (∀ b o, b ∉ wr → b ≠ best → s.heap.get? b = some o → h'.get? b = some o) → R (.ok (.ret v)) { s with heap := h', toks := tk }) →
    codeAny (model prog w) A (.builtin "max.loop" ⟨[.ref it, .none, .ref best], dfl dz⟩) R s := by
  have hw : best ∉ wr := fun h => hf (W.sub _ h)
  intro k
  induction k with
  | zero =>
    intro j s vb c hk hj hst hP hS hR
    have hin : j + 1 = n := by omega
    refine codeAny_builtin F.entry_max_loop ?_
    rw [Around.under_plainId F.plain_max_loop _]
    refine wpAny_bind (m := seqItems? (.ref best)) (wpAny_seqItems hS rfl ?_)
    refine wpAny_bind (m := tryCatch (pyNext (.ref it)) _) (wpAny_tryCatch (W.done s _ _ (hin ▸ hst) fun h' tk keep => ?_))
    have hS' := keep best _ hw hS
    refine wpAny_bind (m := updateSeq best (fun _ => #[])) ?_
    refine wpAny_updateSeq hS' rfl (wpAny_bind (wpAny_letGo (wpAny_pure ?_)))
    refine hR vb _ tk (by rw [← hin]; exact hP) fun b o h1 h2 e => ?_
    exact (Heap.get?_update_other _ _ (Ne.symm h2)).trans (keep b o h1 e)
  | succ k ih =>
    intro j s vb c hk hj hst hP hS hR
    have lt : j + 1 < n := by omega
    refine codeAny_builtin F.entry_max_loop ?_
    rw [Around.under_plainId F.plain_max_loop _]
    refine wpAny_bind (m := seqItems? (.ref best)) (wpAny_seqItems hS rfl ?_)
    refine wpAny_bind (m := tryCatch (pyNext (.ref it)) _) (wpAny_tryCatch (W.item (j + 1) s _ _ lt hst fun v h' tk hv hst' keep => ?_))
    have hS' := keep best _ hw hS
    refine wpAny_bind (m := tryCatch (holding [v, v] (richCompare .Gt v vb >>= _)) _) ?_
    refine wpAny_tryCatch (wpAny_holding (wpAny_bind (hc (j + 1) (argBest bt j) v vb _ _ _ hv hP ?_)))
    refine wpAny_bind (wpAny_holding (wpAny_truthy_bool ?_))
    refine wpAny_bind (wpAny_letGo (wpAny_pure ?_))
    cases hb : bt (j + 1) (argBest bt j) with
    | true =>
      simp only [if_true]
      refine wpAny_bind ?_
      refine wpAny_updateSeq hS' rfl (wpAny_bind (wpAny_letGo ?_))
      rw [mx_name]
      refine wpAny_pure ⟨plainId_quiet F.plain_max_loop _, ?_⟩
      refine ih (j + 1) _ v _ (by omega) lt (W.frame _ _ _ hst' fun b h1 o e => ?_) ?_ (Heap.get?_update_self _ hS' rfl) fun v' h'' tk'' hP' keep2 => ?_
      · exact (Heap.get?_update_other _ _ (fun z : best = b => hf (by rw [z]; exact h1))).trans e
      · simp only [argBest, hb, if_true]
        exact hv
      · exact hR v' h'' tk'' hP' fun b o h1 h2 e => keep2 b o h1 h2 ((Heap.get?_update_other _ _ (Ne.symm h2)).trans (keep b o h1 e))
    | false =>
      simp only [Bool.false_eq_true, if_false]
      refine wpAny_bind (wpAny_letGo ?_)
      rw [mx_name]
      refine wpAny_pure ⟨plainId_quiet F.plain_max_loop _, ?_⟩
      refine ih (j + 1) _ vb c (by omega) lt hst' ?_ hS' fun v' h'' tk'' hP' keep2 => ?_
      · simp only [argBest, hb, Bool.false_eq_true, if_false]
        exact hP
      · exact hR v' h'' tk'' hP' fun b o h1 h2 e => keep2 b o h1 h2 (keep b o h1 e)
theorem mx_first (W : Walks prog w A.in1 it fp wr n P St) (bt : Nat → Nat → Bool) (hc : CmpOf prog w A.in1 .Gt P bt) (hf : best ∉ fp) {s : Shared} {c : Nat} (hst : St 0 s.heap)
    (hS : s.heap.get? best = some { cls := .type "list", dict := none, data := .seq #[] c, slots := #[] })
    (h0 : n = 0 → ∀ h' tk, (∀ b o, b ∉ wr → b ≠ best → s.heap.get? b = some o → h'.get? b = some o) → R (.ok (.ret dz)) { s with heap := h', toks := tk })
    (hR : 0 < n → ∀ v h' tk, P (argBest bt (n - 1)) v → (∀ b o, b ∉ wr → b ≠ best → s.heap.get? b = some o → h'.get? b = some o) → R (.ok (.ret v)) { s with heap := h', toks := tk }) :
    codeAny (model prog w) A (.builtin "max.loop" ⟨[.ref it, .none, .ref best], dfl dz⟩) R s := by
  have hw : best ∉ wr := fun h => hf (W.sub _ h)
  refine codeAny_builtin F.entry_max_loop ?_
  rw [Around.under_plainId F.plain_max_loop _]
  refine wpAny_bind (m := seqItems? (.ref best)) (wpAny_seqItems hS rfl ?_)
  by_cases hn : 0 < n
  · refine wpAny_bind (m := tryCatch (pyNext (.ref it)) _) (wpAny_tryCatch (W.item 0 s _ _ hn hst fun v h' tk hv hst' keep => ?_))
    have hS' := keep best _ hw hS
    refine wpAny_bind (m := updateSeq best (fun _ => #[v, v])) ?_
    refine wpAny_updateSeq hS' rfl ?_
    rw [mx_name]
    refine wpAny_pure ⟨plainId_quiet F.plain_max_loop _, ?_⟩
    refine mx_loop W bt hc hf _ 0 _ v _ rfl hn (W.frame _ _ _ hst' fun b h1 o e => ?_) hv (Heap.get?_update_self _ hS' rfl) fun v' h'' tk'' hP' keep2 => ?_
    · exact (Heap.get?_update_other _ _ (fun z : best = b => hf (by rw [z]; exact h1))).trans e
    · exact hR hn v' h'' tk'' hP' fun b o h1 h2 e => keep2 b o h1 h2 ((Heap.get?_update_other _ _ (Ne.symm h2)).trans (keep b o h1 e))
  · have e0 : n = 0 := by omega
    subst e0
    refine wpAny_bind (m := tryCatch (pyNext (.ref it)) _) (wpAny_tryCatch (W.done s _ _ hst fun h' tk keep => ?_))
    refine wpAny_bind (m := rule _) (wpAny_rule ?_)
    exact wpAny_pure (h0 rfl h' tk fun b o h1 _ e => keep b o h1 e)
end
theorem mx_args (l dz : Value) : argsOk "max" ⟨[l], dfl dz⟩ := by unfold argsOk; kernel_rfl
section
theorem mx_call {prog : Program} {w : World} {A : Around} {E : Value → Shared → Prop} {s : Shared} {l : Addr} {its : List Value} {ns : List Int} {Q : Value → Shared → Prop} {dz : Value} (hh : A.handled = none) (hl : s.heap.IsList l its.toArray) (hi : IntsAre its ns)
    (h0 : ns = [] → ∀ h' tk, (∀ b o, s.heap.get? b = some o → h'.get? b = some o) → Q dz { s with heap := h', toks := tk })
    (h : 0 < ns.length → ∀ h' tk m t', (∀ b o, s.heap.get? b = some o → h'.get? b = some o) → m ∈ ns → (∀ a, a ∈ ns → a ≤ m) → Q (.int m t') { s with heap := h', toks := tk }) :
    wpAny (model prog w) A (call (.builtin "max") [.ref l] (dfl dz)) Q E s := by
  obtain ⟨xs, e⟩ := hi.allInts.items
  have hn : numsOf (intItems xs).toList = ns := by rw [← e]; exact hi.numsOf
  rw [nums_intItems] at hn
  subst hn
  rw [e] at hl
  refine kmk_tree F.kind_max F.plain_max F.entry_max (mx_args _ _) ?_
  refine wpAny_bind (m := Builtin.Builtins.bindParams "max" ["key", "default"] 0 ⟨[], dfl dz⟩) (wpAny_of_eq (show Builtin.Builtins.bindParams "max" ["key", "default"] 0 ⟨[], dfl dz⟩ = pure [none, some dz] from rfl) ?_)
  refine wpAny_bind (wpAny_pure ?_)
  refine wpAny_bind (iter_intList hl fun s₂ es st hfp hlI => ?_)
  refine wpAny_bind (wpAny_newObj_type ?_)
  rw [mx_name]
  have hSf : s₂.heap.objs.size ∉ [s.heap.objs.size, l] := fun hm => Nat.lt_irrefl _ (hfp _ hm)
  have W := Walks.list (prog := prog) (w := w) (A := A.in1) hh s.heap.objs.size l hlI (intItems xs)
  have sz : (intItems xs).size = xs.size := by simp [intItems]
  have old : ∀ {h' : Heap}, (∀ b o, b ∉ [s.heap.objs.size] → b ≠ s₂.heap.objs.size → (s₂.heap.push (seqObj "list" #[] 0)).get? b = some o → h'.get? b = some o) → ∀ b o, s.heap.get? b = some o → h'.get? b = some o := fun {h'} hk b o e => by
    have hlt := Heap.lt_size e
    have hs2 : s₂.heap.get? b = some o := by subst es; exact Heap.get?_push_of_some _ e
    refine hk b o (fun hm => ?_) (Nat.ne_of_lt (Heap.lt_size hs2)) (Heap.get?_push_of_some _ hs2)
    have : b = s.heap.objs.size := by simpa using hm
    exact absurd hlt (by rw [this]; exact Nat.lt_irrefl _)
  refine wpAny_pure ⟨plainId_quiet F.plain_max_loop _, ?_⟩
  refine mx_first (St := _) W _ (CmpOf.ints_gt (numAt xs) fun _ _ => intItems_at) hSf (W.frame 0 _ _ st fun b _ o e => Heap.get?_push_of_some _ e) (Heap.get?_push_size _ rfl) (fun n0 h' tk hk => ?_) fun hn v h' tk hP hk => ?_
  · subst es
    exact h0 (List.eq_nil_of_length_eq_zero (by rw [List.length_map, Array.length_toList, ← sz]; exact n0)) h' tk (old hk)
  · obtain ⟨t, rfl⟩ := intItems_at hP
    obtain ⟨h1, h2⟩ := argBest_gt (numAt xs) ((intItems xs).size - 1)
    have hx : (intItems xs).size - 1 < xs.size := by omega
    subst es
    refine h (by rw [List.length_map, Array.length_toList]; omega) h' tk _ t (old hk) ?_ fun a ha => ?_
    · rw [numAt_eq]; exact PySem.getD_mem (by rw [List.length_map, Array.length_toList]; omega)
    · obtain ⟨j, hj, rfl⟩ := mem_getD ha
      rw [List.length_map, Array.length_toList] at hj
      rw [← numAt_eq]; exact h2 j (by omega)
end
/-! as the least upper item -/
theorem maxI_mem : ∀ (m : Int) (ns : List Int), maxI m ns ∈ m :: ns
  | m, [] => by simp [maxI]
  | m, x :: r => by
    have ih := maxI_mem (if m < x then x else m) r
    unfold maxI
    rcases List.mem_cons.mp ih with e | e
    · rw [e]
      by_cases h : m < x
      · rw [if_pos h]; simp
      · rw [if_neg h]; simp
    · exact List.mem_cons_of_mem _ (List.mem_cons_of_mem _ e)
theorem maxI_ge : ∀ (m : Int) (ns : List Int), ∀ a ∈ m :: ns, a ≤ maxI m ns
  | m, [], a, h => by
    have : a = m := by simpa using h
    rw [this]; exact Int.le_refl _
  | m, x :: r, a, h => by
    have ih := maxI_ge (if m < x then x else m) r
    unfold maxI
    have h0 := ih _ List.mem_cons_self
    rcases List.mem_cons.mp h with e | e
    · subst e
      by_cases c : a < x
      · rw [if_pos c] at h0 ⊢; omega
      · rw [if_neg c] at h0 ⊢; omega
    · rcases List.mem_cons.mp e with e | e
      · subst e
        by_cases c : m < a
        · rw [if_pos c] at h0 ⊢; omega
        · rw [if_neg c] at h0 ⊢; omega
      · exact ih a (List.mem_cons_of_mem _ e)
theorem minI_mem : ∀ (m : Int) (ns : List Int), minI m ns ∈ m :: ns
  | m, [] => by simp [minI]
  | m, x :: r => by
    have ih := minI_mem (if x < m then x else m) r
    unfold minI
    rcases List.mem_cons.mp ih with e | e
    · rw [e]
      by_cases h : x < m
      · rw [if_pos h]; simp
      · rw [if_neg h]; simp
    · exact List.mem_cons_of_mem _ (List.mem_cons_of_mem _ e)
theorem minI_le : ∀ (m : Int) (ns : List Int), ∀ a ∈ m :: ns, minI m ns ≤ a
  | m, [], a, h => by
    have : a = m := by simpa using h
    rw [this]; exact Int.le_refl _
  | m, x :: r, a, h => by
    have ih := minI_le (if x < m then x else m) r
    unfold minI
    have h0 := ih _ List.mem_cons_self
    rcases List.mem_cons.mp h with e | e
    · subst e
      by_cases c : x < a
      · rw [if_pos c] at h0 ⊢; omega
      · rw [if_neg c] at h0 ⊢; omega
    · rcases List.mem_cons.mp e with e | e
      · subst e
        by_cases c : a < m
        · rw [if_pos c] at h0 ⊢; omega
        · rw [if_neg c] at h0 ⊢; omega
      · exact ih a (List.mem_cons_of_mem _ e)
theorem max_is {m i : Int} {ns : List Int} (h1 : m ∈ i :: ns) (h2 : ∀ a ∈ i :: ns, a ≤ m) : m = maxI i ns :=
  Int.le_antisymm (maxI_ge i ns m h1) (h2 _ (maxI_mem i ns))
theorem min_is {m i : Int} {ns : List Int} (h1 : m ∈ i :: ns) (h2 : ∀ a ∈ i :: ns, m ≤ a) : m = minI i ns :=
  Int.le_antisymm (h2 _ (minI_mem i ns)) (minI_le i ns m h1)

section
variable {X : Cx} {O : AS} {H : Hp}
theorem maxd_ok (hc : X.calm = true) : CallRK X (.builtin "max") [Str.ofString "default"] (fun xs zs H Q => ∃ O x d e, xs = [x] ∧ zs = [.non] ∧ Rq X.K H O x d ∧ maxdD d = some e ∧ ∀ v, Rp X.K H O v e → Q v H) := by
  intro pins s σ H xs zs us ws Q I rx rz h
  obtain ⟨O, x, d, e, rfl, rfl, hd, he, q⟩ := h
  cases d with
  | list ds =>
    obtain ⟨a, vs, rfl, sq, rs⟩ := rq_sq hd
    obtain ⟨u, rfl, ru⟩ := vals1 rx
    obtain ⟨z, rfl, rw'⟩ := vals1 rz
    cases ru
    cases rw'
    obtain ⟨its, rv, hl, _⟩ := I.list sq
    cases ds with
    | nil =>
      cases rs
      simp only [maxdD, Option.some.injEq] at he
      subst he
      cases rv
      have hi : IntsAre ([] : List Value) [] := Vals.ints (ns := []) .nil
      exact mx_call (I.ok.hd hc) hl.isList hi (fun _ h' tk hk => ⟨.non, H, I.kept hk, rfl, q _ .non⟩) fun hn => absurd hn (by simp)
    | cons d ds =>
      cases d with
      | int i =>
        simp only [maxdD, Option.map_eq_some_iff] at he
        obtain ⟨ns, h1, h2⟩ := he
        subst h2
        have ev : vs = (i :: ns).map V.int := rs.asInts (ns := i :: ns) (by simp only [asInts, h1, Option.map_some])
        subst ev
        refine mx_call (I.ok.hd hc) hl.isList rv.ints (fun z => by cases z) fun _ h' tk m t' hk m1 m2 => ⟨.int m, H, I.kept hk, ⟨_, rfl⟩, ?_⟩
        rw [max_is m1 m2]
        exact q _ (.int _)
      | _ => simp [maxdD] at he
  | _ => simp [maxdD] at he
theorem maxe_ok (hc : X.calm = true) : CallRK X (.builtin "max") [Str.ofString "default"] (fun xs zs H Q => ∃ O x z d db e, xs = [x] ∧ zs = [z] ∧ Rq X.K H O x d ∧ Rp X.K H O z db ∧ maxeD d db = some e ∧ ∀ v, Rp X.K H O v e → Q v H) := by
  intro pins s σ H xs zs us ws Q I rx rz h
  obtain ⟨O, x, zv, d, db, e, rfl, rfl, hd, hz, he, q⟩ := h
  cases d with
  | list ds =>
    obtain ⟨a, vs, rfl, sq, rs⟩ := rq_sq hd
    obtain ⟨u, rfl, ru⟩ := vals1 rx
    obtain ⟨z, rfl, rz0⟩ := vals1 rz
    cases ru
    obtain ⟨its, rv, hl, _⟩ := I.list sq
    cases ds with
    | nil =>
      cases rs
      simp only [maxeD, Option.some.injEq] at he
      subst he
      cases rv
      have hi : IntsAre ([] : List Value) [] := Vals.ints (ns := []) .nil
      exact mx_call (I.ok.hd hc) hl.isList hi (fun _ h' tk hk => ⟨zv, H, I.kept hk, rz0, q _ hz⟩) fun hn => absurd hn (by simp)
    | cons d ds =>
      cases d with
      | int i =>
        simp only [maxeD, Option.map_eq_some_iff] at he
        obtain ⟨ns, h1, h2⟩ := he
        subst h2
        have ev : vs = (i :: ns).map V.int := rs.asInts (ns := i :: ns) (by simp only [asInts, h1, Option.map_some])
        subst ev
        refine mx_call (I.ok.hd hc) hl.isList rv.ints (fun z => by cases z) fun _ h' tk m t' hk m1 m2 => ⟨.int m, H, I.kept hk, ⟨_, rfl⟩, ?_⟩
        rw [max_is m1 m2]
        exact q _ (.int _)
      | _ => simp [maxeD] at he
  | _ => simp [maxeD] at he
end
end Ev
set_option Elab.async false
set_option linter.all false
set_option maxRecDepth 100000
set_option maxHeartbeats 4000000
/-! Ev: min(xs, default=None). -/
namespace Ev
open PySem PySem.Spec PyProof.Rows L2
section
variable {prog : Program} {w : World} {A : Around} {R : Result → Shared → Prop} {it best : Addr} {fp wr : List Addr} {n : Nat} {P : Nat → Value → Prop} {St : Nat → Heap → Prop} {dz : Value}
theorem mn_name : (toString "min" ++ toString ".loop" : String) = "min.loop" := by decide
/-- the loop behind max, a default beside it, once a value is held -/
theorem mn_loop (W : Walks prog w A.in1 it fp wr n P St) (bt : Nat → Nat → Bool) (hc : CmpOf prog w A.in1 .Lt P bt) (hf : best ∉ fp) :
    ∀ (k j : Nat) (s : Shared) (vb : Value) (c : Nat), n - (j + 1) = k → j + 1 ≤ n → St (j + 1) s.heap → P (argBest bt j) vb →
    s.heap.get? best = some { cls := .type "list", dict := none, data := .seq #[vb, vb] c, slots := #[] } →
    (∀ v h' tk, P (argBest bt (n - 1)) v → (∀ b o, b ∉ wr → b ≠ best → s.heap.get? b = some o → h'.get? b = some o) → R (.ok (.ret v)) { s with heap := h', toks := tk }) →
    codeAny (model prog w) A (.builtin "min.loop" ⟨[.ref it, .none, .ref best], dfl dz⟩) R s := by
  have hw : best ∉ wr := fun h => hf (W.sub _ h)
  intro k
  induction k with
  | zero =>
    intro j s vb c hk hj hst hP hS hR
    have hin : j + 1 = n := by omega
    refine codeAny_builtin F.entry_min_loop ?_
    rw [Around.under_plainId F.plain_min_loop _]
    refine wpAny_bind (m := seqItems? (.ref best)) (wpAny_seqItems hS rfl ?_)
    refine wpAny_bind (m := tryCatch (pyNext (.ref it)) _) (wpAny_tryCatch (W.done s _ _ (hin ▸ hst) fun h' tk keep => ?_))
    have hS' := keep best _ hw hS
    refine wpAny_bind (m := updateSeq best (fun _ => #[])) ?_
    refine wpAny_updateSeq hS' rfl (wpAny_bind (wpAny_letGo (wpAny_pure ?_)))
    refine hR vb _ tk (by rw [← hin]; exact hP) fun b o h1 h2 e => ?_
    exact (Heap.get?_update_other _ _ (Ne.symm h2)).trans (keep b o h1 e)
  | succ k ih =>
    intro j s vb c hk hj hst hP hS hR
    have lt : j + 1 < n := by omega
    refine codeAny_builtin F.entry_min_loop ?_
    rw [Around.under_plainId F.plain_min_loop _]
    refine wpAny_bind (m := seqItems? (.ref best)) (wpAny_seqItems hS rfl ?_)
    refine wpAny_bind (m := tryCatch (pyNext (.ref it)) _) (wpAny_tryCatch (W.item (j + 1) s _ _ lt hst fun v h' tk hv hst' keep => ?_))
    have hS' := keep best _ hw hS
    refine wpAny_bind (m := tryCatch (holding [v, v] (richCompare .Lt v vb >>= _)) _) ?_
    refine wpAny_tryCatch (wpAny_holding (wpAny_bind (hc (j + 1) (argBest bt j) v vb _ _ _ hv hP ?_)))
    refine wpAny_bind (wpAny_holding (wpAny_truthy_bool ?_))
    refine wpAny_bind (wpAny_letGo (wpAny_pure ?_))
    cases hb : bt (j + 1) (argBest bt j) with
    | true =>
      simp only [if_true]
      refine wpAny_bind ?_
      refine wpAny_updateSeq hS' rfl (wpAny_bind (wpAny_letGo ?_))
      rw [mn_name]
      refine wpAny_pure ⟨plainId_quiet F.plain_min_loop _, ?_⟩
      refine ih (j + 1) _ v _ (by omega) lt (W.frame _ _ _ hst' fun b h1 o e => ?_) ?_ (Heap.get?_update_self _ hS' rfl) fun v' h'' tk'' hP' keep2 => ?_
      · exact (Heap.get?_update_other _ _ (fun z : best = b => hf (by rw [z]; exact h1))).trans e
      · simp only [argBest, hb, if_true]
        exact hv
      · exact hR v' h'' tk'' hP' fun b o h1 h2 e => keep2 b o h1 h2 ((Heap.get?_update_other _ _ (Ne.symm h2)).trans (keep b o h1 e))
    | false =>
      simp only [Bool.false_eq_true, if_false]
      refine wpAny_bind (wpAny_letGo ?_)
      rw [mn_name]
      refine wpAny_pure ⟨plainId_quiet F.plain_min_loop _, ?_⟩
      refine ih (j + 1) _ vb c (by omega) lt hst' ?_ hS' fun v' h'' tk'' hP' keep2 => ?_
      · simp only [argBest, hb, Bool.false_eq_true, if_false]
        exact hP
      · exact hR v' h'' tk'' hP' fun b o h1 h2 e => keep2 b o h1 h2 (keep b o h1 e)
theorem mn_first (W : Walks prog w A.in1 it fp wr n P St) (bt : Nat → Nat → Bool) (hc : CmpOf prog w A.in1 .Lt P bt) (hf : best ∉ fp) {s : Shared} {c : Nat} (hst : St 0 s.heap)
    (hS : s.heap.get? best = some { cls := .type "list", dict := none, data := .seq #[] c, slots := #[] })
    (h0 : n = 0 → ∀ h' tk, (∀ b o, b ∉ wr → b ≠ best → s.heap.get? b = some o → h'.get? b = some o) → R (.ok (.ret dz)) { s with heap := h', toks := tk })
    (hR : 0 < n → ∀ v h' tk, P (argBest bt (n - 1)) v → (∀ b o, b ∉ wr → b ≠ best → s.heap.get? b = some o → h'.get? b = some o) → R (.ok (.ret v)) { s with heap := h', toks := tk }) :
    codeAny (model prog w) A (.builtin "min.loop" ⟨[.ref it, .none, .ref best], dfl dz⟩) R s := by
  have hw : best ∉ wr := fun h => hf (W.sub _ h)
  refine codeAny_builtin F.entry_min_loop ?_
  rw [Around.under_plainId F.plain_min_loop _]
  refine wpAny_bind (m := seqItems? (.ref best)) (wpAny_seqItems hS rfl ?_)
  by_cases hn : 0 < n
  · refine wpAny_bind (m := tryCatch (pyNext (.ref it)) _) (wpAny_tryCatch (W.item 0 s _ _ hn hst fun v h' tk hv hst' keep => ?_))
    have hS' := keep best _ hw hS
    refine wpAny_bind (m := updateSeq best (fun _ => #[v, v])) ?_
    refine wpAny_updateSeq hS' rfl ?_
    rw [mn_name]
    refine wpAny_pure ⟨plainId_quiet F.plain_min_loop _, ?_⟩
    refine mn_loop W bt hc hf _ 0 _ v _ rfl hn (W.frame _ _ _ hst' fun b h1 o e => ?_) hv (Heap.get?_update_self _ hS' rfl) fun v' h'' tk'' hP' keep2 => ?_
    · exact (Heap.get?_update_other _ _ (fun z : best = b => hf (by rw [z]; exact h1))).trans e
    · exact hR hn v' h'' tk'' hP' fun b o h1 h2 e => keep2 b o h1 h2 ((Heap.get?_update_other _ _ (Ne.symm h2)).trans (keep b o h1 e))
  · have e0 : n = 0 := by omega
    subst e0
    refine wpAny_bind (m := tryCatch (pyNext (.ref it)) _) (wpAny_tryCatch (W.done s _ _ hst fun h' tk keep => ?_))
    refine wpAny_bind (m := rule _) (wpAny_rule ?_)
    exact wpAny_pure (h0 rfl h' tk fun b o h1 _ e => keep b o h1 e)
end
theorem mn_args (l dz : Value) : argsOk "min" ⟨[l], dfl dz⟩ := by unfold argsOk; kernel_rfl
section
theorem mn_call {prog : Program} {w : World} {A : Around} {E : Value → Shared → Prop} {s : Shared} {l : Addr} {its : List Value} {ns : List Int} {Q : Value → Shared → Prop} {dz : Value} (hh : A.handled = none) (hl : s.heap.IsList l its.toArray) (hi : IntsAre its ns)
    (h0 : ns = [] → ∀ h' tk, (∀ b o, s.heap.get? b = some o → h'.get? b = some o) → Q dz { s with heap := h', toks := tk })
    (h : 0 < ns.length → ∀ h' tk m t', (∀ b o, s.heap.get? b = some o → h'.get? b = some o) → m ∈ ns → (∀ a, a ∈ ns → m ≤ a) → Q (.int m t') { s with heap := h', toks := tk }) :
    wpAny (model prog w) A (call (.builtin "min") [.ref l] (dfl dz)) Q E s := by
  obtain ⟨xs, e⟩ := hi.allInts.items
  have hn : numsOf (intItems xs).toList = ns := by rw [← e]; exact hi.numsOf
  rw [nums_intItems] at hn
  subst hn
  rw [e] at hl
  refine kmk_tree F.kind_min F.plain_min F.entry_min (mn_args _ _) ?_
  refine wpAny_bind (m := Builtin.Builtins.bindParams "min" ["key", "default"] 0 ⟨[], dfl dz⟩) (wpAny_of_eq (show Builtin.Builtins.bindParams "min" ["key", "default"] 0 ⟨[], dfl dz⟩ = pure [none, some dz] from rfl) ?_)
  refine wpAny_bind (wpAny_pure ?_)
  refine wpAny_bind (iter_intList hl fun s₂ es st hfp hlI => ?_)
  refine wpAny_bind (wpAny_newObj_type ?_)
  rw [mn_name]
  have hSf : s₂.heap.objs.size ∉ [s.heap.objs.size, l] := fun hm => Nat.lt_irrefl _ (hfp _ hm)
  have W := Walks.list (prog := prog) (w := w) (A := A.in1) hh s.heap.objs.size l hlI (intItems xs)
  have sz : (intItems xs).size = xs.size := by simp [intItems]
  have old : ∀ {h' : Heap}, (∀ b o, b ∉ [s.heap.objs.size] → b ≠ s₂.heap.objs.size → (s₂.heap.push (seqObj "list" #[] 0)).get? b = some o → h'.get? b = some o) → ∀ b o, s.heap.get? b = some o → h'.get? b = some o := fun {h'} hk b o e => by
    have hlt := Heap.lt_size e
    have hs2 : s₂.heap.get? b = some o := by subst es; exact Heap.get?_push_of_some _ e
    refine hk b o (fun hm => ?_) (Nat.ne_of_lt (Heap.lt_size hs2)) (Heap.get?_push_of_some _ hs2)
    have : b = s.heap.objs.size := by simpa using hm
    exact absurd hlt (by rw [this]; exact Nat.lt_irrefl _)
  refine wpAny_pure ⟨plainId_quiet F.plain_min_loop _, ?_⟩
  refine mn_first (St := _) W _ (CmpOf.ints_lt (numAt xs) fun _ _ => intItems_at) hSf (W.frame 0 _ _ st fun b _ o e => Heap.get?_push_of_some _ e) (Heap.get?_push_size _ rfl) (fun n0 h' tk hk => ?_) fun hn v h' tk hP hk => ?_
  · subst es
    exact h0 (List.eq_nil_of_length_eq_zero (by rw [List.length_map, Array.length_toList, ← sz]; exact n0)) h' tk (old hk)
  · obtain ⟨t, rfl⟩ := intItems_at hP
    obtain ⟨h1, h2⟩ := argBest_lt (numAt xs) ((intItems xs).size - 1)
    have hx : (intItems xs).size - 1 < xs.size := by omega
    subst es
    refine h (by rw [List.length_map, Array.length_toList]; omega) h' tk _ t (old hk) ?_ fun a ha => ?_
    · rw [numAt_eq]; exact PySem.getD_mem (by rw [List.length_map, Array.length_toList]; omega)
    · obtain ⟨j, hj, rfl⟩ := mem_getD ha
      rw [List.length_map, Array.length_toList] at hj
      rw [← numAt_eq]; exact h2 j (by omega)
end
section
variable {X : Cx} {O : AS} {H : Hp}
theorem mind_ok (hc : X.calm = true) : CallRK X (.builtin "min") [Str.ofString "default"] (fun xs zs H Q => ∃ O x d e, xs = [x] ∧ zs = [.non] ∧ Rq X.K H O x d ∧ mindD d = some e ∧ ∀ v, Rp X.K H O v e → Q v H) := by
  intro pins s σ H xs zs us ws Q I rx rz h
  obtain ⟨O, x, d, e, rfl, rfl, hd, he, q⟩ := h
  cases d with
  | list ds =>
    obtain ⟨a, vs, rfl, sq, rs⟩ := rq_sq hd
    obtain ⟨u, rfl, ru⟩ := vals1 rx
    obtain ⟨z, rfl, rw'⟩ := vals1 rz
    cases ru
    cases rw'
    obtain ⟨its, rv, hl, _⟩ := I.list sq
    cases ds with
    | nil =>
      cases rs
      simp only [mindD, Option.some.injEq] at he
      subst he
      cases rv
      have hi : IntsAre ([] : List Value) [] := Vals.ints (ns := []) .nil
      exact mn_call (I.ok.hd hc) hl.isList hi (fun _ h' tk hk => ⟨.non, H, I.kept hk, rfl, q _ .non⟩) fun hn => absurd hn (by simp)
    | cons d ds =>
      cases d with
      | int i =>
        simp only [mindD, Option.map_eq_some_iff] at he
        obtain ⟨ns, h1, h2⟩ := he
        subst h2
        have ev : vs = (i :: ns).map V.int := rs.asInts (ns := i :: ns) (by simp only [asInts, h1, Option.map_some])
        subst ev
        refine mn_call (I.ok.hd hc) hl.isList rv.ints (fun z => by cases z) fun _ h' tk m t' hk m1 m2 => ⟨.int m, H, I.kept hk, ⟨_, rfl⟩, ?_⟩
        rw [min_is m1 m2]
        exact q _ (.int _)
      | _ => simp [mindD] at he
  | _ => simp [mindD] at he
end
end Ev
set_option Elab.async false
set_option linter.all false
set_option maxRecDepth 100000
set_option maxHeartbeats 4000000
/-! Ev, part 4b: sorted of a tuple of pairs. -/
namespace Ev
open PySem PySem.Spec PyProof.Rows L2
section
variable {prog : Program} {w : World} {A : Around} {E : Value → Shared → Prop} {s : Shared}
/-- a new list with the tuple's items -/
theorem tup_collect {a : Addr} {us : List Value} {Q : List Value → Shared → Prop} (ht : IsTup s.heap a us.toArray) (few : us.length ≤ sizeLine)
    (h : Q us { s with heap := ((s.heap.push (seqObj "list" #[] 0)).update s.heap.objs.size (Obj.mapSeq (· ++ us.toArray))) }) : wpAny (model prog w) A (collect (.ref a)) Q E s := by
  obtain ⟨ob, g1, g2, n, g3⟩ := ht
  unfold collect
  refine wpAny_bind (wpAny_runValue (codeAny_builtin
    entry_proto_collect' ?_))
  show wpAny _ _ (do
    again (.builtin "list.__iadd__" ⟨[← newList [], .ref a], []⟩)) _ _ s
  refine wpAny_bind (wpAny_newList (wpAny_pure
    ⟨Code.quiet_builtin _ (by decide +kernel),
     codeAny_builtin entry_list_iadd' ?_⟩))
  show wpAny _ _ (Builtin.List.listExtendWith (.ref s.heap.objs.size)
    (.ref a) (.ref s.heap.objs.size)) _ _ _
  unfold Builtin.List.listExtendWith
  have up : (s.heap.push (seqObj "list" #[] 0)).get? a = some ob :=
    Heap.get?_push_of_some _ g1
  have new : (s.heap.push (seqObj "list" #[] 0)).get? s.heap.objs.size
      = some (seqObj "list" #[] 0) := Heap.get?_push_size _ rfl
  refine wpAny_bind (wpAny_typeOf (T := "tuple") ⟨ob, up, g2⟩ ?_)
  have yes : (Value.type "tuple" == Value.type "tuple") = true := by rfl
  rw [if_pos (by rw [yes]; simp)]
  refine wpAny_bind (listItems_at up g3 ?_)
  refine wpAny_bind (listItems_at (xs := #[]) (n := 0) new rfl ?_)
  rw [if_neg (by simp)]
  refine wpAny_bind (listUpdate_at (xs := #[]) (n := 0) new rfl ?_
    (Nat.zero_le _) (by
      show (#[] ++ us.toArray).size ≤ sizeLine + 1
      rw [Array.size_append, List.size_toArray]
      simp only [List.size_toArray, List.length_nil]
      omega))
  refine wpAny_pure ?_
  show wpAny (model prog w) A (do
      let u ← load s.heap.objs.size
      match u.data with
      | .seq ys _ => pure ys.toList
      | _ => unsupported "internal:collect") Q E _
  refine wpAny_bind (wpAny_load (get?_update_seq new _) ?_)
  show wpAny _ _ (pure ((#[] : Array Value) ++ us.toArray).toList) _ _ _
  rw [show ((#[] : Array Value) ++ us.toArray).toList = us by simp]
  exact wpAny_pure h
theorem tup_sorted {a : Addr} {us : List Value} {lt : Value → Value → Bool} {Q : Value → Shared → Prop} (O : SrtO.Swo lt) (ht : IsTup s.heap a us.toArray) (few : us.length ≤ sizeLine)
    (able : 2 ≤ us.length → ∀ (h1 : Heap) (c : Addr), h1.get? c = some (seqObj "list" us.toArray 0) → (∀ b o, s.heap.get? b = some o → b ≠ c ∧ h1.get? b = some o) →
      SrtO.SortableO prog w A.in1.in1 { s with heap := h1 } c us lt)
    (h : ∀ out : List Value, SrtO.Srtd lt out → SrtO.Stb lt out us → Q (.ref (s.heap.objs.size + 1)) { s with heap := sortedAll s.heap us out.toArray }) :
    wpAny (model prog w) A (call (.builtin "sorted") [.ref a]) Q E s := by
  refine Calls.call_function_entry kind_sorted plain_sorted
    entry_sorted (args_sorted1 _) ?_
  unfold Builtin.«sorted»
  refine wpAny_bind (m := checkCount "sorted" 1 1 _)
    (wpAny_pure ?_)
  refine wpAny_bind (tup_collect ht few ?_)
  refine wpAny_bind (wpAny_newList ?_ few)
  let g : Heap := (s.heap.push (seqObj "list" #[] 0)).update s.heap.objs.size (Obj.mapSeq (· ++ us.toArray))
  have size : g.objs.size = s.heap.objs.size + 1 := by
    show ((s.heap.push _).update _ _).objs.size = _
    rw [Heap.size_update, size_push']
  have at1 : (g.push (seqObj "list" us.toArray 0)).get? (s.heap.objs.size + 1) = some (seqObj "list" us.toArray 0) := by
    rw [← size]
    exact Heap.get?_push_size _ rfl
  have old : ∀ b o, s.heap.get? b = some o → b ≠ s.heap.objs.size + 1 ∧ (g.push (seqObj "list" us.toArray 0)).get? b = some o := fun b o q => by
    have small : b < s.heap.objs.size := Heap.lt_size q
    have off : b ≠ s.heap.objs.size := Nat.ne_of_lt small
    refine ⟨Nat.ne_of_lt (Nat.lt_succ_of_lt small), Heap.get?_push_of_some _ ?_⟩
    show ((s.heap.push _).update _ _).get? b = some o
    rw [Heap.get?_update_ne _ _ _ _ off]
    exact Heap.get?_push_of_some _ q
  show wpAny _ _ _ _ _ { s with heap := g.push (seqObj "list" us.toArray 0) }
  rw [show ((s.heap.push (seqObj "list" #[] 0)).update s.heap.objs.size (Obj.mapSeq (· ++ us.toArray))).objs.size = s.heap.objs.size + 1 from size]
  refine wpAny_bind (wpAny_holding (wpAny_call_entry slot_list_sort
    ⟨_, at1, rfl⟩ entry_list_sort (SrtO.list_sort_ord O at1 few
      (fun h2 => able h2 _ _ at1 old) fun out p q => ⟨_, rfl, ?_⟩)
    (args_list_sort _)))
  exact wpAny_pure ⟨_, rfl, h out p q⟩
end

/-! ### pairs of ints -/
theorem pairLe_iff {p q : Int × Int} : pairLe p q = true ↔ p.1 < q.1 ∨ (p.1 = q.1 ∧ p.2 ≤ q.2) := by
  unfold pairLe
  split
  · rw [decide_eq_true_eq]; omega
  · rw [decide_eq_true_eq]; omega
theorem pairLe_of {p q : Int × Int} (h : SrtO.lexB q p = false) : pairLe p q = true := by
  have := SrtO.lexB_no.mp h
  rw [pairLe_iff]
  omega
theorem insP_perm (x : Int × Int) : ∀ l : List (Int × Int), (insP x l).Perm (x :: l)
  | [] => .refl _
  | y :: r => by
    unfold insP
    split
    · exact .refl _
    · exact ((insP_perm x r).cons y).trans (.swap x y r)
theorem sortP_perm : ∀ l : List (Int × Int), (sortP l).Perm l
  | [] => .refl _
  | x :: r => (insP_perm x (sortP r)).trans ((sortP_perm r).cons x)
abbrev UpP (l : List (Int × Int)) : Prop := l.Pairwise fun p q => pairLe p q = true
theorem insP_up {x : Int × Int} : ∀ {l : List (Int × Int)}, UpP l → UpP (insP x l)
  | [], _ => by simp [UpP, insP]
  | y :: r, h => by
    obtain ⟨h1, h2⟩ := List.pairwise_cons.mp h
    unfold insP
    split
    · rename_i c
      refine List.pairwise_cons.mpr ⟨fun z hz => ?_, h⟩
      rcases List.mem_cons.mp hz with e | e
      · rw [e]; exact c
      · have := h1 z e
        rw [pairLe_iff] at this c ⊢
        omega
    · rename_i c
      refine List.pairwise_cons.mpr ⟨fun z hz => ?_, insP_up h2⟩
      rcases List.mem_cons.mp ((insP_perm x r).mem_iff.mp hz) with e | e
      · rw [e]
        rw [pairLe_iff] at c ⊢
        omega
      · exact h1 z e
theorem sortP_up : ∀ l : List (Int × Int), UpP (sortP l)
  | [] => .nil
  | _ :: r => insP_up (sortP_up r)
theorem sortP_is {ps qs : List (Int × Int)} (h1 : qs.Perm ps) (h2 : UpP qs) : qs = sortP ps :=
  (h1.trans (sortP_perm ps).symm).eq_of_pairwise (fun x y _ _ p q => by
    rw [pairLe_iff] at p q
    exact Prod.ext (by omega) (by omega)) h2 (sortP_up ps)
section
variable {X : Cx}
/-- what a pair in the heap is -/
theorem pair_in {pins : List (Addr × Obj)} {σ : L2.St} {H : Hp} {s : Shared} {O : AS} {v : V} {u : Value} {p : Int × Int} (I : Inv X pins σ H s) (r : Rp X.K H O v (pairD p)) (ru : RelV v u) :
    (∃ t, v = .ref t ∧ u = .ref t) ∧ Srt.IsPair s.heap u p.1 p.2 := by
  have r : Rp X.K H O v (.tuple [.int p.1, .int p.2]) := r
  cases r with
  | @tup a xs _ sq rs =>
    have ru : u = Value.ref a := ru
    subst ru
    cases rs with
    | cons r1 r2 =>
      cases r2 with
      | cons r2 r3 =>
        cases r3
        cases r1
        cases r2
        obtain ⟨its, rv, ⟨ob, g1, g2, n, g3⟩, _⟩ := I.tuple sq
        obtain ⟨u1, u2, rfl, q1, q2⟩ := vals2 rv
        obtain ⟨t1, rfl⟩ := q1
        obtain ⟨t2, rfl⟩ := q2
        exact ⟨⟨a, rfl, rfl⟩, a, ob, t1, t2, n, rfl, g1, g2, g3⟩
theorem pair_one {h : Heap} {u : Value} : ∀ {p q : Int × Int} (a : Srt.IsPair h u p.1 p.2) (b : Srt.IsPair h u q.1 q.2), p = q := by
  rintro ⟨p1, p2⟩ ⟨q1, q2⟩ a b
  obtain ⟨x, o, t1, t2, n, rfl, g1, g2, g3⟩ := a
  obtain ⟨x', o', t1', t2', n', e, g1', g2', g3'⟩ := b
  cases e
  rw [g1] at g1'
  cases g1'
  rw [g3] at g3'
  cases g3'
  rfl
/-- sorted(xs), xs a tuple of pairs of ints -/
def rSortPT (K : PySem.W.Frag) : List V → Hp → VK → Prop := fun vs H Q => ∃ (a : Addr) (xs : List V) (ps : List (Int × Int)) (O : AS), vs = [V.ref a] ∧ SqT K H a xs ∧ Rps K H O xs (ps.map pairD) ∧
  ∀ ys p, Rps K H O ys ((sortP ps).map pairD) → ys.length = xs.length → H p = none → Q (.ref p) (upd H p (.lst ys))
theorem pairs_back {K : PySem.W.Frag} {H : Hp} {O : AS} {k : Value → Int × Int} : ∀ {us : List Value}, (∀ u ∈ us, Rp K H O (backV u) (pairD (k u))) → Rps K H O (us.map backV) ((us.map k).map pairD)
  | [], _ => .nil
  | u :: us, h => .cons (h u List.mem_cons_self) (pairs_back fun v hv => h v (List.mem_cons_of_mem _ hv))
theorem cr_sortPT : CallR X (.builtin "sorted") (rSortPT X.K) := by
  intro pins s σ H vs us Q I r h
  obtain ⟨a, xs, ps, O, rfl, sq, rs, q⟩ := h
  obtain ⟨its, rv, ht, hz⟩ := I.tuple sq
  obtain ⟨u, rfl, ru⟩ := vals1 r
  obtain rfl : u = Value.ref a := ru
  -- which pair an item is
  have all : ∀ (xs : List V) (its : List Value) (ps : List (Int × Int)), Vals xs its → Rps X.K H O xs (ps.map pairD) →
      xs = its.map backV ∧ (∀ u ∈ its, ∃ p, Srt.IsPair s.heap u p.1 p.2 ∧ Rp X.K H O (backV u) (pairD p) ∧ ∃ t, u = .ref t) ∧ ∀ k : Value → Int × Int, (∀ u ∈ its, Srt.IsPair s.heap u (k u).1 (k u).2) → its.map k = ps := by
    intro xs
    induction xs with
    | nil =>
      intro its ps rv rs
      cases rv
      cases ps with
      | nil => exact ⟨rfl, fun u hu => absurd hu List.not_mem_nil, fun _ _ => rfl⟩
      | cons p ps => cases rs
    | cons x xs ih =>
      intro its ps rv rs
      cases rv with
      | @cons _ u _ us r1 r2 =>
        cases ps with
        | nil => cases rs
        | cons p ps =>
          rw [List.map_cons] at rs
          cases rs with
          | cons c1 c2 =>
            obtain ⟨h1, h2, h3⟩ := ih us ps r2 c2
            obtain ⟨⟨t, rfl, rfl⟩, hp⟩ := pair_in I c1 r1
            refine ⟨by rw [List.map_cons, ← h1]; rfl, fun v hv => ?_, fun k hk => ?_⟩
            · rcases List.mem_cons.mp hv with e | e
              · subst e
                exact ⟨p, hp, c1, t, rfl⟩
              · exact h2 v e
            · rw [List.map_cons, h3 k fun v hv => hk v (List.mem_cons_of_mem _ hv), pair_one (hk _ List.mem_cons_self) hp]
  obtain ⟨h1, h2, h3⟩ := all xs its ps rv rs
  have pick : ∀ u : Value, ∃ p : Int × Int, u ∈ its → Srt.IsPair s.heap u p.1 p.2 := fun u => by
    by_cases hu : u ∈ its
    · obtain ⟨p, hp, _⟩ := h2 u hu
      exact ⟨p, fun _ => hp⟩
    · exact ⟨(0, 0), fun z => absurd z hu⟩
  obtain ⟨k, hk⟩ := Classical.axiomOfChoice pick
  have hm := h3 k hk
  have hr : ∀ u ∈ its, Rp X.K H O (backV u) (pairD (k u)) := fun u hu => by
    obtain ⟨p, hp, r, _⟩ := h2 u hu
    rw [pair_one (hk u hu) hp]
    exact r
  have hl : its.length = xs.length := by rw [h1, List.length_map]
  refine tup_sorted (SrtO.swo_lex k) ht (by rw [hl]; exact hz) (fun c2 g1 c at1 old => ?_) fun out srt stb => ?_
  · refine SrtO.pairs_sortableO (s := { s with heap := g1 }) (by omega) (fun v hv => (hk v hv).keeps fun b o e _ => (old b o e).2) fun o e z => ?_
    have e : g1.get? c = some o := e
    rw [at1] at e
    cases e
    exact absurd (Value.type.inj z) (by decide)
  · have mem : ∀ u ∈ out, u ∈ its := fun u hu => stb.perm.mem_iff.mp hu
    obtain ⟨n, hn⟩ := sortedAll_at s.heap its out.toArray
    have hv : Vals (out.map backV) out := vals_back fun u hu => by
      obtain ⟨_, _, _, t, e⟩ := h2 u (mem u hu)
      exact ⟨t, e⟩
    have lo : (out.map backV).length = xs.length := by rw [List.length_map, stb.perm.length_eq, hl]
    have is : out.map k = sortP ps := by
      refine sortP_is ?_ (List.pairwise_map.mpr (srt.imp fun z => pairLe_of z))
      rw [← hm]
      exact stb.perm.map k
    have rps := pairs_back fun u hu => hr u (mem u hu)
    rw [is] at rps
    refine ⟨.ref (s.heap.objs.size + 1), upd H (s.heap.objs.size + 1) (.lst (out.map backV)), I.laid (t' := s.toks) (fun b o e => sortedAll_old e) (Nat.le_succ _) ⟨?_, out, n, hv, hn⟩, rfl, q _ _ rps lo (I.hok.fresh (Nat.le_succ _))⟩
    rw [lo]
    exact hz
/-- sorted(xs), xs a list of pairs of ints -/
def rSortPL (K : PySem.W.Frag) : List V → Hp → VK → Prop := fun vs H Q => ∃ (a : Addr) (xs : List V) (ps : List (Int × Int)) (O : AS), vs = [V.ref a] ∧ SqL K H a xs ∧ Rps K H O xs (ps.map pairD) ∧
  ∀ ys p, Rps K H O ys ((sortP ps).map pairD) → ys.length = xs.length → H p = none → Q (.ref p) (upd H p (.lst ys))
/-- a key for each pair that stands in the heap -/
theorem pairs_key (I : Inv X pins σ H s) {O : AS} : ∀ (xs : List V) (its : List Value) (ps : List (Int × Int)), Vals xs its → Rps X.K H O xs (ps.map pairD) →
      xs = its.map backV ∧ (∀ u ∈ its, ∃ p, Srt.IsPair s.heap u p.1 p.2 ∧ Rp X.K H O (backV u) (pairD p) ∧ ∃ t, u = .ref t) ∧ ∀ k : Value → Int × Int, (∀ u ∈ its, Srt.IsPair s.heap u (k u).1 (k u).2) → its.map k = ps
  | [], its, ps, rv, rs => by
    cases rv
    cases ps with
    | nil => exact ⟨rfl, fun u hu => absurd hu List.not_mem_nil, fun _ _ => rfl⟩
    | cons p ps => cases rs
  | x :: xs, its, ps, rv, rs => by
    cases rv with
    | @cons _ u _ us r1 r2 =>
      cases ps with
      | nil => cases rs
      | cons p ps =>
        rw [List.map_cons] at rs
        cases rs with
        | cons c1 c2 =>
          obtain ⟨h1, h2, h3⟩ := pairs_key I xs us ps r2 c2
          obtain ⟨⟨t, rfl, rfl⟩, hp⟩ := pair_in I c1 r1
          refine ⟨by rw [List.map_cons, ← h1]; rfl, fun v hv => ?_, fun k hk => ?_⟩
          · rcases List.mem_cons.mp hv with e | e
            · subst e
              exact ⟨p, hp, c1, t, rfl⟩
            · exact h2 v e
          · rw [List.map_cons, h3 k fun v hv => hk v (List.mem_cons_of_mem _ hv), pair_one (hk _ List.mem_cons_self) hp]
theorem cr_sortPL : CallR X (.builtin "sorted") (rSortPL X.K) := by
  intro pins s σ H vs us Q I r h
  obtain ⟨a, xs, ps, O, rfl, sq, rs, q⟩ := h
  obtain ⟨its, rv, hl0, hz⟩ := I.list sq
  obtain ⟨u, rfl, ru⟩ := vals1 r
  obtain rfl : u = Value.ref a := ru
  obtain ⟨h1, h2, h3⟩ := pairs_key I xs its ps rv rs
  have pick : ∀ u : Value, ∃ p : Int × Int, u ∈ its → Srt.IsPair s.heap u p.1 p.2 := fun u => by
    by_cases hu : u ∈ its
    · obtain ⟨p, hp, _⟩ := h2 u hu
      exact ⟨p, fun _ => hp⟩
    · exact ⟨(0, 0), fun z => absurd z hu⟩
  obtain ⟨k, hk⟩ := Classical.axiomOfChoice pick
  have hm := h3 k hk
  have hr : ∀ u ∈ its, Rp X.K H O (backV u) (pairD (k u)) := fun u hu => by
    obtain ⟨p, hp, r, _⟩ := h2 u hu
    rw [pair_one (hk u hu) hp]
    exact r
  have hl : its.length = xs.length := by rw [h1, List.length_map]
  refine SrtO.sorted_pairsO (k := k) hl0.isList (by rw [hl]; exact hz) hk fun h' d out srt stb kp hd hn => ?_
  have mem : ∀ u ∈ out, u ∈ its := fun u hu => stb.perm.mem_iff.mp hu
  obtain ⟨n, hn⟩ := hn
  have lo : (out.map backV).length = xs.length := by rw [List.length_map, stb.perm.length_eq, hl]
  have is : out.map k = sortP ps := by
    refine sortP_is ?_ (List.pairwise_map.mpr (srt.imp fun z => pairLe_of z))
    rw [← hm]
    exact stb.perm.map k
  have rps := pairs_back fun u hu => hr u (mem u hu)
  rw [is] at rps
  refine ⟨.ref d, upd H d (.lst (out.map backV)), I.laid (t' := s.toks) kp hd ⟨?_, out, n, vals_back fun u hu => ?_, hn⟩, rfl, q _ _ rps lo (I.hok.fresh hd)⟩
  · rw [lo]
    exact hz
  · obtain ⟨_, _, _, t, e⟩ := h2 u (mem u hu)
    exact ⟨t, e⟩
end
end Ev
set_option Elab.async false
set_option linter.all false
set_option maxRecDepth 100000
set_option maxHeartbeats 4000000
/-! Ev: sorted of a list of tuples of small ints, all of one length. -/
namespace Ev
open PySem PySem.Spec PyProof.Rows L2
theorem asInts_eq : ∀ {xs : List D} {ns : List Int}, asInts xs = some ns → xs = ns.map .int
  | [], ns, h => by cases h; rfl
  | x :: xs, ns, h => by
    cases x <;> simp only [asInts, Option.map_eq_some_iff, reduceCtorEq] at h
    obtain ⟨ms, h1, h2⟩ := h
    rw [← h2, List.map_cons, ← asInts_eq h1]
theorem asRow_eq {d : D} {r : List Int} (h : asRow d = some r) : d = rowD r := by
  cases d <;> simp only [asRow, reduceCtorEq] at h
  unfold rowD
  rw [asInts_eq h]
theorem asRows_eq : ∀ {ds : List D} {rs : List (List Int)}, asRows ds = some rs → ds = rs.map rowD
  | [], rs, h => by cases h; rfl
  | d :: ds, rs, h => by
    unfold asRows at h
    split at h
    · rename_i r rs' e1 e2
      cases h
      rw [List.map_cons, ← asRow_eq e1, ← asRows_eq e2]
    · cases h
theorem codeR_is : ∀ ns : List Int, codeR ns = TS.code 1000 ns
  | [] => rfl
  | d :: r => by
    show d * 1000 ^ r.length + codeR r = _
    rw [codeR_is r]
    rfl
def SmallR (r : List Int) : Prop := TS.Bd 1000 r
theorem code_one : ∀ {a b : List Int}, a.length = b.length → SmallR a → SmallR b → codeR a = codeR b → a = b
  | [], [], _, _, _, _ => rfl
  | [], _ :: _, h, _, _, _ => by cases h
  | _ :: _, [], h, _, _, _ => by cases h
  | d :: r, e :: q, h, ha, hb, hc => by
    have hl : r.length = q.length := by simpa using h
    rw [codeR_is, codeR_is] at hc
    have de : d = e := by
      rcases Int.lt_trichotomy d e with z | z | z
      · have := TS.code_lt hl ha.tail hb.tail z
        rw [hc] at this
        exact absurd this (Int.lt_irrefl _)
      · exact z
      · have := TS.code_lt hl.symm hb.tail ha.tail z
        rw [hc] at this
        exact absurd this (Int.lt_irrefl _)
    subst de
    congr 1
    refine code_one hl ha.tail hb.tail ?_
    rw [codeR_is, codeR_is]
    have h1 : d * 1000 ^ r.length + TS.code 1000 r = d * 1000 ^ q.length + TS.code 1000 q := hc
    rw [hl] at h1
    exact Int.add_left_cancel h1
theorem insR_perm (x : List Int) : ∀ l, (insR x l).Perm (x :: l)
  | [] => .refl _
  | y :: r => by
    unfold insR
    split
    · exact .refl _
    · exact ((insR_perm x r).cons y).trans (List.Perm.swap ..)
theorem sortR_perm : ∀ l, (sortR l).Perm l
  | [] => .refl _
  | x :: r => (insR_perm x _).trans ((sortR_perm r).cons x)
theorem insR_up {x : List Int} : ∀ {l : List (List Int)}, l.Pairwise (fun a b => codeR a ≤ codeR b) → (insR x l).Pairwise fun a b => codeR a ≤ codeR b
  | [], _ => List.pairwise_singleton ..
  | y :: r, h => by
    rw [List.pairwise_cons] at h
    unfold insR
    by_cases c : codeR x ≤ codeR y
    · rw [if_pos c, List.pairwise_cons]
      refine ⟨fun z hz => ?_, List.pairwise_cons.mpr h⟩
      rcases List.mem_cons.mp hz with e | e
      · rw [e]; exact c
      · exact Int.le_trans c (h.1 z e)
    · rw [if_neg c, List.pairwise_cons]
      refine ⟨fun z hz => ?_, insR_up h.2⟩
      rcases List.mem_cons.mp ((insR_perm x r).mem_iff.mp hz) with e | e
      · rw [e]; omega
      · exact h.1 z e
theorem sortR_up : ∀ l, (sortR l).Pairwise fun a b => codeR a ≤ codeR b
  | [] => .nil
  | x :: r => insR_up (sortR_up r)
theorem sortR_is {d : Nat} {rs ys : List (List Int)} (hs : ∀ r ∈ rs, r.length = d ∧ SmallR r) (h1 : ys.Perm rs) (h2 : ys.Pairwise fun a b => codeR a ≤ codeR b) : ys = sortR rs :=
  (h1.trans (sortR_perm rs).symm).eq_of_pairwise (fun x y hx hy p q => by
    have a := hs x (h1.mem_iff.mp hx)
    have b := hs y ((sortR_perm rs).mem_iff.mp hy)
    exact code_one (a.1.trans b.1.symm) a.2 b.2 (Int.le_antisymm p q)) h2 (sortR_up rs)
theorem Rps.perm {K : PySem.W.Frag} {H : Hp} {O : AS} {xs ys : List V} (h : ys.Perm xs) : ∀ {ds : List D}, Rps K H O xs ds → ∃ es, es.Perm ds ∧ Rps K H O ys es := by
  induction h with
  | nil => intro ds r; exact ⟨ds, .refl _, r⟩
  | cons x h ih =>
    intro ds r
    cases r with
    | cons a b =>
      obtain ⟨es, p, q⟩ := ih b
      exact ⟨_, p.cons _, .cons a q⟩
  | swap x y l =>
    intro ds r
    cases r with
    | cons a b =>
      cases b with
      | cons c d => exact ⟨_, List.Perm.swap .., .cons c (.cons a d)⟩
  | trans h1 h2 ih1 ih2 =>
    intro ds r
    obtain ⟨es, p, q⟩ := ih2 r
    obtain ⟨fs, p2, q2⟩ := ih1 q
    exact ⟨fs, p2.trans p, q2⟩
theorem map_rows : ∀ {es : List D} {rs : List (List Int)}, (∀ e ∈ es, ∃ r ∈ rs, e = rowD r) → ∃ qs : List (List Int), es = qs.map rowD
  | [], _, _ => ⟨[], rfl⟩
  | e :: es, rs, h => by
    obtain ⟨r, _, e1⟩ := h e List.mem_cons_self
    obtain ⟨qs, e2⟩ := map_rows (es := es) (rs := rs) fun x hx => h x (List.mem_cons_of_mem _ hx)
    exact ⟨r :: qs, by rw [List.map_cons, e1, e2]⟩
theorem ints_inj : ∀ {a b : List Int}, a.map PyData.int = b.map PyData.int → a = b
  | [], [], _ => rfl
  | [], _ :: _, h => by cases h
  | _ :: _, [], h => by cases h
  | x :: a, y :: b, h => by
    rw [List.map_cons, List.map_cons] at h
    injection h with h1 h2
    injection h1 with h1
    rw [h1, ints_inj h2]
theorem rowD_inj {a b : List Int} (h : rowD a = rowD b) : a = b := by
  unfold rowD at h
  injection h with h
  exact ints_inj h
theorem rows_inj : ∀ {a b : List (List Int)}, (a.map rowD).Perm (b.map rowD) → a.Perm b := fun {a b} h => by
  have e : ∀ l : List (List Int), (l.map rowD).map (fun d => (asRow d).getD []) = l := fun l => by
    rw [List.map_map]
    refine (List.map_congr_left fun r _ => ?_).trans (List.map_id' l)
    show (asInts (r.map .int)).getD [] = r
    have : ∀ ns : List Int, asInts (ns.map PyData.int) = some ns := fun ns => by
      induction ns with
      | nil => rfl
      | cons n ns ih => simp only [List.map_cons, asInts, ih, Option.map_some]
    rw [this]
    rfl
  have := h.map (fun d => (asRow d).getD [])
  rwa [e, e] at this
section
variable {X : Cx}
def rSortRows (K : PySem.W.Frag) : List V → Hp → VK → Prop := fun vs H Q => ∃ (a : Addr) (xs : List V) (rs : List (List Int)) (d : Nat) (O : AS), vs = [V.ref a] ∧ SqL K H a xs ∧ Rps K H O xs (rs.map rowD) ∧ rowsOk d rs = true ∧
  ∀ ys p, Rps K H O ys ((sortR rs).map rowD) → H p = none → Q (.ref p) (upd H p (.lst ys))
theorem row_tup {K : PySem.W.Frag} {H : Hp} {O : AS} {x : V} {r : List Int} (h : Rp K H O x (rowD r)) : TupI K H x r := by
  unfold rowD at h
  cases h with
  | tup s rs =>
    rename_i a xs
    have e : xs = r.map V.int := by
      clear s
      revert rs
      generalize xs = ys
      intro rs
      induction r generalizing ys with
      | nil => cases rs; rfl
      | cons n r ih =>
        rw [List.map_cons] at rs
        cases rs with
        | cons a b => cases a; rw [List.map_cons, ih _ b]
    subst e
    exact ⟨_, rfl, s⟩
theorem rps_at {K : PySem.W.Frag} {H : Hp} {O : AS} : ∀ {xs : List V} {rs : List (List Int)}, Rps K H O xs (rs.map rowD) → ∀ x ∈ xs, ∃ r ∈ rs, Rp K H O x (rowD r)
  | [], _, _, x, hx => absurd hx List.not_mem_nil
  | x :: xs, [], h, _, _ => by cases h
  | x :: xs, r :: rs, h, y, hy => by
    rw [List.map_cons] at h
    cases h with
    | cons a b =>
      rcases List.mem_cons.mp hy with e | e
      · rw [e]; exact ⟨r, List.mem_cons_self, a⟩
      · obtain ⟨q, h1, h2⟩ := rps_at b y e
        exact ⟨q, List.mem_cons_of_mem _ h1, h2⟩
theorem rows_up {K : PySem.W.Frag} {H : Hp} {O : AS} : ∀ {ys : List V} {qs : List (List Int)}, Rps K H O ys (qs.map rowD) → ys.Pairwise (fun x y => ∀ n m, TupI K H x n → TupI K H y m → TS.code 1000 n ≤ TS.code 1000 m) → qs.Pairwise fun a b => codeR a ≤ codeR b
  | [], [], _, _ => .nil
  | [], _ :: _, h, _ => by cases h
  | _ :: _, [], h, _ => by cases h
  | y :: ys, q :: qs, h, p => by
    rw [List.map_cons] at h
    cases h with
    | cons a b =>
      rw [List.pairwise_cons] at p ⊢
      refine ⟨fun r hr => ?_, rows_up b p.2⟩
      have : ∃ x ∈ ys, Rp K H O x (rowD r) := by
        clear p a
        induction qs generalizing ys with
        | nil => cases hr
        | cons q qs ih =>
          cases ys with
          | nil => cases b
          | cons z ys =>
            rw [List.map_cons] at b
            cases b with
            | cons c d =>
              rcases List.mem_cons.mp hr with e | e
              · rw [e]; exact ⟨z, List.mem_cons_self, c⟩
              · obtain ⟨x, h1, h2⟩ := ih _ d e
                exact ⟨x, List.mem_cons_of_mem _ h1, h2⟩
      obtain ⟨x, hx, rx⟩ := this
      rw [codeR_is, codeR_is]
      exact p.1 x hx q r (row_tup a) (row_tup rx)
theorem cr_sortRows : CallR X (.builtin "sorted") (rSortRows X.K) := by
  intro pins s σ H vs us Q I r h
  obtain ⟨a, xs, rs, d, O, rfl, sq, rr, ok, q⟩ := h
  unfold rowsOk at ok
  simp only [Bool.and_eq_true, decide_eq_true_eq, List.all_eq_true] at ok
  obtain ⟨⟨hd, h64⟩, hall⟩ := ok
  have hs : ∀ r ∈ rs, r.length = d ∧ SmallR r := fun r hr => ⟨(hall r hr).1, fun m hm => (hall r hr).2 m hm⟩
  refine cr_sortT (d := d) (B := 1000) hd pins s σ H _ us Q I r ⟨a, xs, rfl, sq, by rw [rr.len, List.length_map]; exact h64, fun x hx => ?_, fun ys p hp hup n => ?_⟩
  · obtain ⟨r, hr, rx⟩ := rps_at rr x hx
    exact ⟨r, row_tup rx, hs r hr⟩
  · obtain ⟨es, pe, re⟩ := Rps.perm hp rr
    obtain ⟨qs, rfl⟩ := map_rows (rs := rs) fun e he => by
      obtain ⟨r, hr, e2⟩ := List.mem_map.mp (pe.mem_iff.mp he)
      exact ⟨r, hr, e2.symm⟩
    have pq := rows_inj pe
    rw [sortR_is hs pq (rows_up re hup)] at re
    exact q ys p re n
end
end Ev
set_option Elab.async false
set_option linter.all false
set_option maxRecDepth 100000
set_option maxHeartbeats 4000000
/-! Ev: tuple(d) of a dict: its keys. -/
namespace Ev
open PySem PySem.Spec PyProof.Rows L2 PySem.W
section
variable {prog : Program} {w : World} {A : Around} {E : Value → Shared → Prop} {s : Shared} {r d : Addr} {n : Nat} {P : Nat → Value → Prop} {OK : Heap → Prop}
theorem collect_src {T : String} {Q : List Value → Shared → Prop} (K : KdlSrc prog w T r d n P OK) (hh : A.handled = none) (hok : OK s.heap) (hn : n ≤ sizeLine)
    (hQ : ∀ (h' : Heap) (tk : Nat) (acc : Array Value), (∀ b o, s.heap.get? b = some o → h'.get? b = some o) → ItemsOf P acc n → Q acc.toList { s with heap := h', toks := tk }) :
    wpAny (model prog w) A (collect (.ref r)) Q E s := by
  unfold collect
  refine wpAny_bind (wpAny_runValue (codeAny_builtin F.entry_proto_collect ?_))
  rw [Around.under_plainId F.plain_proto_collect _]
  show wpAny _ A.in1 (newList [] >>= fun l => again (.builtin "list.__iadd__" ⟨[l, .ref r], []⟩)) _ _ s
  refine wpAny_bind (wpAny_newObj_type ?_)
  refine wpAny_pure ⟨plainId_quiet F.plain_list_iadd _, codeAny_builtin F.entry_list_iadd ?_⟩
  rw [Around.under_plainId F.plain_list_iadd _]
  show wpAny _ A.in1 (Builtin.List.listExtendWith (.ref s.heap.objs.size) (.ref r) (.ref s.heap.objs.size)) _ _ _
  have hS : (s.heap.push { cls := .type "list", data := .seq ([] : List Value).toArray }).get? s.heap.objs.size = some { cls := .type "list", data := .seq #[] 0 } := Heap.get?_push_size _ rfl
  have hlt := K.there _ hok
  refine wpAny_mono (kdl_extend (A := A) (R := fun rr s' => rr = .ok (.ret (.ref s.heap.objs.size)) ∧ ∃ (h' : Heap) (tk : Nat) (acc : Array Value) (c' : Nat), s' = { s with heap := h', toks := tk } ∧
      (∀ b o, s.heap.get? b = some o → h'.get? b = some o) ∧ h'.get? s.heap.objs.size = some { cls := .type "list", dict := none, data := .seq acc c', slots := #[] } ∧ ItemsOf P acc n)
    (s := { s with heap := s.heap.push { cls := .type "list", data := .seq ([] : List Value).toArray } }) K hh (K.keep _ _ hok fun b _ o e => Heap.get?_push_of_some _ e) _ (Nat.ne_of_gt hlt.1) (Nat.ne_of_gt hlt.2) _ 0 hS
    (fun h' tk acc c' hk e hi => ⟨rfl, h', tk, acc, c', rfl, fun b o q => hk b o (Nat.ne_of_lt (Heap.lt_size q)) (Heap.get?_push_of_some _ q), e, hi⟩) hn) (fun fin s' h => ?_) (fun e s' h => ?_)
  · cases fin with
    | done f =>
      obtain ⟨e, h', tk, acc, c', rfl, hk, hS', hi⟩ := h
      cases e
      show wpAny _ A (load s.heap.objs.size >>= _) _ _ _
      exact wpAny_bind (wpAny_load hS' (wpAny_pure (hQ h' tk acc hk hi)))
    | again c' =>
      refine ⟨h.1, codeAny_mono h.2 fun rr s'' hr' => ?_⟩
      obtain ⟨rfl, h', tk, acc, c', rfl, hk, hS', hi⟩ := hr'
      show wpAny _ A (load s.heap.objs.size >>= _) _ _ _
      exact wpAny_bind (wpAny_load hS' (wpAny_pure (hQ h' tk acc hk hi)))
  · exact absurd h.1 (by simp)

theorem code_tuple_new_dict {Q₁ : Value → Shared → Prop} (K : KdlSrc prog w "dict" r d n P OK) (hh : A.handled = none) (hok : OK s.heap) (hn : n ≤ sizeLine)
    (h : ∀ (h' : Heap) (tk : Nat) (acc : Array Value), (∀ b o, s.heap.get? b = some o → h'.get? b = some o) → ItemsOf P acc n →
      Q₁ (.ref h'.objs.size) { s with heap := h'.push { cls := .type "tuple", data := .seq acc }, toks := tk }) :
    codeAny (model prog w) A (.call (.builtin "tuple.__new__") ⟨[.type "tuple", .ref r], []⟩) (wants Q₁ E) s := by
  refine codeAny_of_tree ?_
  show wpAny _ A.in1 (do checkBuiltinCall "tuple.__new__" ⟨[.type "tuple", .ref r], []⟩; again (.builtin "tuple.__new__" ⟨[.type "tuple", .ref r], []⟩)) _ _ s
  refine wpAny_bind (wpAny_of_eq (F.newCall_tuple_1 _) (wpAny_pure ⟨plainId_quiet F.plain_tuple_new _, codeAny_builtin F.entry_tuple_new ?_⟩))
  rw [Around.under_plainId F.plain_tuple_new _]
  have hsub := sub_tuple_self
  have hinit := init_tuple_lookup
  have hmh := madeHere_tuple
  have hTI : s.TypeIs (.ref r) "dict" := K.type s hok
  have hh1 : A.in1.handled = none := hh
  wp_walk using wpAny_typeOf hTI, collect_src (A := A.in1) K hh1 hok hn
  intro h' tk acc hk hacc
  show wpAny _ _ (Builtin.Tuple.tupleExact acc.toList.toArray >>= fun v => ret v) _ _ _
  unfold Builtin.Tuple.tupleExact
  refine wpAny_bind (wpAny_newObj_type ?_ (by show acc.toList.toArray.size ≤ sizeLine; simp only [Array.toArray_toList]; rw [hacc.1]; exact hn))
  refine wpAny_pure ?_
  have e : acc.toList.toArray = acc := by simp
  rw [e]
  exact h h' tk acc hk hacc

theorem call_tuple_src {Q : Value → Shared → Prop} (K : KdlSrc prog w "dict" r d n P OK) (hh : A.handled = none) (hok : OK s.heap) (hn : n ≤ sizeLine)
    (hQ : ∀ (h' : Heap) (tk : Nat) (acc : Array Value), (∀ b o, s.heap.get? b = some o → h'.get? b = some o) → ItemsOf P acc n →
      Q (.ref h'.objs.size) { s with heap := h'.push { cls := .type "tuple", data := .seq acc }, toks := tk }) :
    wpAny (model prog w) A (call (.type "tuple") [.ref r]) Q E s := by
  refine callType_codes (Q₁ := fun obj s₁ => s₁.TypeIs obj "tuple" ∧ Q obj s₁) F.called_tuple (F.typeCall_tuple_1 _) F.entry_object_init
    (code_tuple_new_dict (A := A.in1) K hh hok hn fun h' tk acc hk hacc => ⟨⟨_, Heap.get?_push_size _ rfl, rfl⟩, hQ h' tk acc hk hacc⟩) fun obj s₁ h₁ => ?_
  exact ⟨h₁.1, F.args_object_init_2 obj _, object_init_meets F.called_tuple.init.lookup F.called_tuple.made (by decide) prog w A.in1 _ s₁ ⟨h₁.1, rfl, h₁.2⟩⟩
end
theorem call_tuple_dK {X : Cx} (hc : X.calm = true) : CallR X (.type "tuple") (fun xs H Q => ∃ p kvs, xs = [.ref p] ∧ H p = some (.dK kvs) ∧ ∀ q, H q = none → Q (.ref q) (upd H q (.tup (kvs.map fun kv => kV kv.1)))) := by
  intro pins s σ H xs us Q I r h
  obtain ⟨p, kvs, e, hk, q⟩ := h
  subst e
  obtain ⟨u, eu, rx⟩ := vals1 r
  subst eu
  obtain rfl : u = Value.ref p := rx
  obtain ⟨z, lo, vs, rk, hd⟩ := (show ObjOk X.prog X.w H s.heap p (.dK kvs) from I.hok p _ hk)
  obtain ⟨ep, hat⟩ := hd.dictAt
  have hl : kvs.length = vs.length := Paired.length rk
  refine call_tuple_src (PySem.W.kdl_dict (knd := mixKind X.prog X.w) (kvs := vs) (ep := ep) lo) (I.ok.hd hc) hat (by rw [← hl]; exact z) fun h' tk acc' hkeep hacc => ?_
  have I2 : Inv X pins σ H { s with heap := h', toks := tk } := I.kept hkeep
  refine ⟨.ref h'.objs.size, upd H h'.objs.size (.tup (kvs.map fun kv => kV kv.1)), I2.laid (t' := tk) (fun c o e => Heap.get?_push_of_some _ e) (Nat.le_refl _) (show ObjOk X.prog X.w _ _ _ (.tup (kvs.map fun kv => kV kv.1)) from ⟨?_, acc'.toList, ?_, ?_⟩), rfl, q _ (I2.hok.fresh (Nat.le_refl _))⟩
  · rw [List.length_map]; exact z
  · have el : acc'.toList.length = acc'.size := by simp
    refine vals_of_at (by rw [List.length_map, el, hacc.1, hl]) fun j x w h1 h2 => ?_
    obtain ⟨k, y, hky, hi⟩ := hacc.2 j w (by rw [← Array.getElem?_toList]; exact h2)
    have e1 : (kvs.map (·.1))[j]? = some k := by
      rw [KV.keys rk, List.getElem?_map, hky] <;> rfl
    have e2 : (kvs.map fun kv => kV kv.1)[j]? = some (kV k) := by
      have e3 : (kvs.map fun kv => kV kv.1) = (kvs.map (·.1)).map kV := by rw [List.map_map] <;> rfl
      rw [e3, List.getElem?_map, e1] <;> rfl
    rw [e2] at h1
    cases h1
    exact keyIs_rel hi
  · rw [Array.toArray_toList]; exact IsTup.new _ _
end Ev
set_option Elab.async false
set_option linter.all false
set_option maxRecDepth 100000
set_option maxHeartbeats 4000000
/-! Ev: dicts that are put together. -/
namespace Ev
open PySem PySem.Spec PyProof.Rows L2
variable {K : PySem.W.Frag} {H : Hp} {O : AS}
theorem any_key {K : PySem.W.Frag} {H : Hp} {O : AS} {k : Key} {d : D} (hd : Rp K H O (kV k) d) : ∀ {kvs : List (Key × V)} {kds : List (D × D)}, RpKs K H O kvs kds → (kds.any fun p => keyEq p.1 d) = (kvs.any fun kv => decide (kv.1 = k))
  | [], _, h => by cases h; rfl
  | (q, v0) :: r, _, h => by
    cases h with
    | @cons _ _ _ e1 d1 s a b c =>
      rw [List.any_cons, List.any_cons, any_key hd c]
      have ke : keyEq e1 d = decide (q = k) := keyEq_of a hd
      show (keyEq e1 d || _) = _
      rw [ke]
theorem map_key {K : PySem.W.Frag} {H : Hp} {O : AS} {k : Key} {d : D} {v : V} {y : D} (hd : Rp K H O (kV k) d) (hv : Rp K H O v y) : ∀ {kvs : List (Key × V)} {kds : List (D × D)}, RpKs K H O kvs kds → RpKs K H O (kvs.map fun kv => if kv.1 = k then (kv.1, v) else kv) (kds.map fun p => if keyEq p.1 d = true then (p.1, y) else p)
  | [], _, h => by cases h; exact .nil
  | (q, v0) :: r, _, h => by
    cases h with
    | @cons _ _ _ e1 d1 s a b c =>
      have ke : keyEq e1 d = decide (q = k) := keyEq_of a hd
      rw [List.map_cons, List.map_cons]
      simp only [ke, decide_eq_true_eq]
      by_cases hq : q = k
      · rw [if_pos hq, if_pos hq]
        exact .cons a hv (map_key hd hv c)
      · rw [if_neg hq, if_neg hq]
        exact .cons a b (map_key hd hv c)
theorem RpKs.snoc {K : PySem.W.Frag} {H : Hp} {O : AS} {k : Key} {d : D} {v : V} {y : D} (hd : Rp K H O (kV k) d) (hv : Rp K H O v y) : ∀ {kvs : List (Key × V)} {kds : List (D × D)}, RpKs K H O kvs kds → RpKs K H O (kvs ++ [(k, v)]) (kds ++ [(d, y)])
  | [], _, h => by cases h; exact .cons hd hv .nil
  | (q, v0) :: r, _, h => by
    cases h with
    | cons a b c => exact .cons a b (RpKs.snoc hd hv c)
theorem dput_of {K : PySem.W.Frag} {H : Hp} {O : AS} {k : Key} {d : D} {v : V} {y : D} (hd : Rp K H O (kV k) d) (hv : Rp K H O v y) {kvs : List (Key × V)} {kds : List (D × D)} (h : RpKs K H O kvs kds) : RpKs K H O (putK kvs k v) (dput kds d y) := by
  unfold putK dput
  rw [any_key hd h]
  by_cases c : (kvs.any fun kv => decide (kv.1 = k)) = true
  · rw [if_pos c, if_pos c]
    exact map_key hd hv h
  · rw [if_neg c, if_neg c]
    exact RpKs.snoc hd hv h
def dput1 (kds : List (D × D)) : D → List (D × D)
  | .tuple [k, v] => dput kds k v
  | _ => kds
theorem dputs_cons (kds : List (D × D)) (y : D) (ys : List D) : dputs kds (y :: ys) = dputs (dput1 kds y) ys := by
  cases y with
  | tuple l =>
    cases l with
    | nil => rfl
    | cons a l =>
      cases l with
      | nil => rfl
      | cons b l => cases l <;> rfl
  | _ => rfl
theorem dputs_snoc (k v : D) : ∀ (ys : List D) (kds : List (D × D)), dputs kds (ys ++ [.tuple [k, v]]) = dput (dputs kds ys) k v
  | [], kds => rfl
  | y :: ys, kds => by
    rw [List.cons_append, dputs_cons, dputs_cons]
    exact dputs_snoc k v ys _
theorem dput_len (kds : List (D × D)) (x y : D) : (dput kds x y).length ≤ kds.length + 1 := by
  unfold dput
  split
  · rw [List.length_map]; omega
  · rw [List.length_append]; exact Nat.le_refl _
theorem dput1_len (kds : List (D × D)) (y : D) : (dput1 kds y).length ≤ kds.length + 1 := by
  unfold dput1
  split
  · exact dput_len ..
  · omega
theorem dputs_len : ∀ (ys : List D) (kds : List (D × D)), (dputs kds ys).length ≤ kds.length + ys.length
  | [], kds => Nat.le_refl _
  | y :: ys, kds => by
    rw [dputs_cons]
    have h1 := dputs_len ys (dput1 kds y)
    have h2 := dput1_len kds y
    simp only [List.length_cons]
    omega
theorem pairs_of : ∀ {ds : List D} {vs : List V}, Rps K H O vs ds → ds.all isPairK = true → ∃ (ps : List Addr) (kvs : List (Key × V)), vs = ps.map V.ref ∧ Paired (fun p kv => SqT K H p [kV kv.1, kv.2]) ps kvs ∧
    ∀ (kv0 : List (Key × V)) (kd0 : List (D × D)), RpKs K H O kv0 kd0 → RpKs K H O (mergeK kv0 kvs) (dputs kd0 ds)
  | [], _, h, _ => by
    cases h
    exact ⟨[], [], rfl, .nil, fun _ _ r => r⟩
  | d :: ds, _, h, c => by
    cases h with
    | @cons v vs _ _ a b =>
    rw [List.all_cons, Bool.and_eq_true] at c
    obtain ⟨ps, kvs, e, hp, f⟩ := pairs_of b c.2
    have c1 := c.1
    unfold isPairK at c1
    split at c1
    · rename_i k x
      cases a with
      | tup s r =>
      rename_i a xs
      cases r with
      | cons hk r1 =>
      cases r1 with
      | cons hx r2 =>
      cases r2
      obtain ⟨key, rfl⟩ := key_of c1 hk
      refine ⟨a :: ps, (key, _) :: kvs, by rw [e]; rfl, .cons s hp, fun kv0 kd0 r0 => ?_⟩
      exact f _ _ (dput_of hk hx r0)
    · cases c1
theorem rps_keys : ∀ {kvs : List (Key × V)} {kds : List (D × D)}, RpKs K H O kvs kds → Rps K H O (kvs.map fun kv => kV kv.1) (kds.map (·.1))
  | [], _, h => by cases h; exact .nil
  | (q, v0) :: r, _, h => by
    cases h with
    | cons a b c => exact .cons a (rps_keys c)
end Ev
set_option Elab.async false
set_option linter.all false
set_option maxRecDepth 100000
set_option maxHeartbeats 4000000
/-! Ev, part 5: built-ins on values. -/
namespace Ev
open PySem PySem.Spec PyProof.Rows L2

section
variable {X : Cx} {pins : List (Addr × Obj)} {σ : L2.St} {H : Hp} {s : Shared} {O : AS}
mutual
/-- plain data are read in the heap itself -/
theorem Rp.reads (I : Inv X pins σ H s) : ∀ (d : D) (v : V) (u : Value), Rp X.K H O v d → RelV v u → ∃ as, Reads s.heap u d as
  | .none, _, _, h, r => by cases h; cases r; exact ⟨_, .none⟩
  | .bool b, _, _, h, r => by cases h; cases r; exact ⟨_, .bool b⟩
  | .int i, _, _, h, r => by cases h; obtain ⟨t, rfl⟩ := r; exact ⟨_, .int i t⟩
  | .str x, _, _, h, r => by cases h; obtain ⟨t, rfl⟩ := r; exact ⟨_, .str x t⟩
  | .list ds, _, _, h, r => by
    cases h with
    | @lst a xs _ _ hs ha =>
      cases r
      obtain ⟨its, rv, ⟨o, n, ho, hc, _, hd⟩, _⟩ := I.list (.inl hs)
      obtain ⟨as, hr⟩ := Rps.reads I ds _ its ha rv
      exact ⟨_, .list ho hc hd hr⟩
  | .tuple ds, _, _, h, r => by
    cases h with
    | tup hs ha =>
      cases r
      obtain ⟨its, rv, ⟨o, ho, hc, n, hd⟩, _⟩ := I.tuple hs
      obtain ⟨as, hr⟩ := Rps.reads I ds _ its ha rv
      exact ⟨_, .tuple ho hc hd hr⟩
  | .dict kds, _, _, h, r => by
    cases h with
    | @dic a kvs _ _ hs ha =>
      cases r
      obtain ⟨_, _, vs, rel, o, es, ep, e1, e2, e3, _, pr, _⟩ := I.hok a _ hs
      obtain ⟨as, bs, hr, hr2⟩ := RpKs.reads I kds kvs vs es.toList ha rel pr
      exact ⟨_, .dict e1 e2.1 e3 hr hr2⟩
theorem Rps.reads (I : Inv X pins σ H s) : ∀ (ds : List D) (vs : List V) (us : List Value), Rps X.K H O vs ds → Vals vs us → ∃ as, ReadsAll s.heap us ds as
  | [], _, _, h, r => by cases h; cases r; exact ⟨_, .nil⟩
  | d :: ds, _, _, h, r => by
    cases h with
    | cons h1 h2 =>
      cases r with
      | cons r1 r2 =>
        obtain ⟨as, q1⟩ := Rp.reads I d _ _ h1 r1
        obtain ⟨bs, q2⟩ := Rps.reads I ds _ _ h2 r2
        exact ⟨_, .cons q1 q2⟩
theorem RpKs.reads (I : Inv X pins σ H s) : ∀ (ds : List (D × D)) (kvs : List (Key × V)) (vs : List (Key × Value)) (es : List DictEntry), RpKs X.K H O kvs ds → KV kvs vs → Pairs (mixKind X.prog X.w) es vs →
    ∃ as bs, ReadsAll s.heap (es.map fun x => x.key) (ds.map fun x => x.1) as ∧ ReadsAll s.heap (es.map fun x => x.val) (ds.map fun x => x.2) bs
  | [], _, _, _, h, r, p => by cases h; cases r; cases p; exact ⟨_, _, .nil, .nil⟩
  | (e, d) :: ds, _, _, _, h, r, p => by
    cases h with
    | @cons k v rr _ _ _ h0 h1 h2 =>
      cases r with
      | @cons _ q _ qs r1 r2 =>
        obtain ⟨qk, qv⟩ := q
        obtain ⟨r1a, r1b⟩ := r1
        cases p with
        | @cons en _ es _ p1 p2 p3 =>
          obtain ⟨as, bs, q1, q2⟩ := RpKs.reads I ds _ _ _ h2 r2 p3
          have hk : RelV (kV k) en.key := by
            have r1a' : k = qk := r1a
            subst r1a'
            rcases keyIs_shape p1 with ⟨i, t, e1, e2⟩ | ⟨x, t, e1, e2⟩
            · have e1' : k = Sum.inl i := e1
              subst e1'; exact ⟨t, e2⟩
            · have e1' : k = Sum.inr x := e1
              subst e1'; exact ⟨t, e2⟩
          have hv : RelV v en.val := by
            have p2' : en.val = qv := p2
            rw [p2']; exact r1b
          obtain ⟨a1, z1⟩ := Rp.reads I e _ _ h0 hk
          obtain ⟨b1, z2⟩ := Rp.reads I d _ _ h1 hv
          exact ⟨_, _, .cons z1 q1, .cons z2 q2⟩
end
theorem Rq.reads (I : Inv X pins σ H s) (d : D) (v : V) (u : Value) (h : Rq X.K H O v d) (r : RelV v u) : ∃ as, Reads s.heap u d as := by
  cases d with
  | list ds =>
    obtain ⟨a, xs, rfl, sq, rs⟩ := rq_sq h
    cases r
    obtain ⟨its, rv, ⟨o, n, ho, hc, _, hd⟩, _⟩ := I.list sq
    obtain ⟨as, hr⟩ := Rps.reads I ds _ its rs rv
    exact ⟨_, .list ho hc hd hr⟩
  | dict kds =>
    obtain ⟨a, kvs, rfl, hs, ha⟩ := h
    cases r
    obtain ⟨_, _, vs, rel, o, es, ep, e1, e2, e3, _, pr, _⟩ := I.hok a _ hs
    obtain ⟨as, bs, hr, hr2⟩ := RpKs.reads I kds kvs vs es.toList ha rel pr
    exact ⟨_, .dict e1 e2.1 e3 hr hr2⟩
  | _ => exact Rp.reads I _ _ _ h r
mutual
/-- where no list is: off the table of modules -/
theorem Rp.readsN (I : Inv X pins σ H s) : ∀ (d : D) (v : V) (u : Value), noList d = true → Rp X.K H O v d → RelV v u → ∃ as, Reads s.heap u d as ∧ sysModules ∉ as
  | .none, _, _, _, h, r => by cases h; cases r; exact ⟨_, .none, List.not_mem_nil⟩
  | .bool b, _, _, _, h, r => by cases h; cases r; exact ⟨_, .bool b, List.not_mem_nil⟩
  | .int i, _, _, _, h, r => by cases h; obtain ⟨t, rfl⟩ := r; exact ⟨_, .int i t, List.not_mem_nil⟩
  | .str x, _, _, _, h, r => by cases h; obtain ⟨t, rfl⟩ := r; exact ⟨_, .str x t, List.not_mem_nil⟩
  | .list ds, _, _, z, h, r => by simp [noList] at z
  | .tuple ds, _, _, z, h, r => by
    cases h with
    | tup hs ha =>
      cases r
      obtain ⟨its, rv, ⟨o, ho, hc, n, hd⟩, _⟩ := I.tuple hs
      obtain ⟨as, hr, off⟩ := Rps.readsN I ds _ its (by simpa only [noList] using z) ha rv
      exact ⟨_, .tuple ho hc hd hr, off⟩
  | .dict kds, _, _, z, h, r => by
    cases h with
    | @dic a kvs _ _ hs ha =>
      cases r
      obtain ⟨_, ne, vs, rel, o, es, ep, e1, e2, e3, _, pr, _⟩ := I.hok a _ hs
      obtain ⟨as, bs, hr, hr2, o1, o2⟩ := RpKs.readsN I kds kvs vs es.toList (by simpa only [noList] using z) ha rel pr
      refine ⟨_, .dict e1 e2.1 e3 hr hr2, fun q => ?_⟩
      rcases List.mem_append.mp q with q | q
      · rcases List.mem_cons.mp q with q | q
        · exact (beq_eq_false_iff_ne.mp ne) q.symm
        · exact o1 q
      · exact o2 q
theorem Rps.readsN (I : Inv X pins σ H s) : ∀ (ds : List D) (vs : List V) (us : List Value), noList.noLists ds = true → Rps X.K H O vs ds → Vals vs us → ∃ as, ReadsAll s.heap us ds as ∧ sysModules ∉ as
  | [], _, _, _, h, r => by cases h; cases r; exact ⟨_, .nil, List.not_mem_nil⟩
  | d :: ds, _, _, z, h, r => by
    simp only [noList.noLists, Bool.and_eq_true] at z
    cases h with
    | cons h1 h2 =>
      cases r with
      | cons r1 r2 =>
        obtain ⟨as, q1, o1⟩ := Rp.readsN I d _ _ z.1 h1 r1
        obtain ⟨bs, q2, o2⟩ := Rps.readsN I ds _ _ z.2 h2 r2
        exact ⟨_, .cons q1 q2, fun q => (List.mem_append.mp q).elim o1 o2⟩
theorem RpKs.readsN (I : Inv X pins σ H s) : ∀ (ds : List (D × D)) (kvs : List (Key × V)) (vs : List (Key × Value)) (es : List DictEntry), noList.noListK ds = true → RpKs X.K H O kvs ds → KV kvs vs → Pairs (mixKind X.prog X.w) es vs →
    ∃ as bs, ReadsAll s.heap (es.map fun x => x.key) (ds.map fun x => x.1) as ∧ ReadsAll s.heap (es.map fun x => x.val) (ds.map fun x => x.2) bs ∧ sysModules ∉ as ∧ sysModules ∉ bs
  | [], _, _, _, _, h, r, p => by cases h; cases r; cases p; exact ⟨_, _, .nil, .nil, List.not_mem_nil, List.not_mem_nil⟩
  | (e, d) :: ds, _, _, _, z, h, r, p => by
    simp only [noList.noListK, Bool.and_eq_true] at z
    cases h with
    | @cons k v rr _ _ _ h0 h1 h2 =>
      cases r with
      | @cons _ q _ qs r1 r2 =>
        obtain ⟨qk, qv⟩ := q
        obtain ⟨r1a, r1b⟩ := r1
        cases p with
        | @cons en _ es _ p1 p2 p3 =>
          obtain ⟨as, bs, q1, q2, o1, o2⟩ := RpKs.readsN I ds _ _ _ z.2 h2 r2 p3
          have hk : RelV (kV k) en.key := by
            have r1a' : k = qk := r1a
            subst r1a'
            rcases keyIs_shape p1 with ⟨i, t, e1, e2⟩ | ⟨x, t, e1, e2⟩
            · have e1' : k = Sum.inl i := e1
              subst e1'; exact ⟨t, e2⟩
            · have e1' : k = Sum.inr x := e1
              subst e1'; exact ⟨t, e2⟩
          have hv : RelV v en.val := by
            have p2' : en.val = qv := p2
            rw [p2']; exact r1b
          obtain ⟨a1, z1, o3⟩ := Rp.readsN I e _ _ z.1.1 h0 hk
          obtain ⟨b1, z2, o4⟩ := Rp.readsN I d _ _ z.1.2 h1 hv
          exact ⟨_, _, .cons z1 q1, .cons z2 q2, fun q => (List.mem_append.mp q).elim o3 o1, fun q => (List.mem_append.mp q).elim o4 o2⟩
end
theorem Rq.readsN (I : Inv X pins σ H s) (d : D) (v : V) (u : Value) (z : noList d = true) (h : Rq X.K H O v d) (r : RelV v u) : ∃ as, Reads s.heap u d as ∧ sysModules ∉ as := by
  cases d with
  | list ds => simp [noList] at z
  | dict kds =>
    obtain ⟨a, kvs, rfl, hs, ha⟩ := h
    cases r
    obtain ⟨_, ne, vs, rel, o, es, ep, e1, e2, e3, _, pr, _⟩ := I.hok a _ hs
    obtain ⟨as, bs, hr, hr2, o1, o2⟩ := RpKs.readsN I kds kvs vs es.toList (by simpa only [noList] using z) ha rel pr
    refine ⟨_, .dict e1 e2.1 e3 hr hr2, fun q => ?_⟩
    rcases List.mem_append.mp q with q | q
    · rcases List.mem_cons.mp q with q | q
      · exact (beq_eq_false_iff_ne.mp ne) q.symm
      · exact o1 q
    · exact o2 q
  | _ => exact Rp.readsN I _ _ _ z h r
end

theorem showOk_of {d : D} (h : showOk d = true) : d.showable = true ∧ d.depth < 64 ∧ d.shown.length ≤ sizeLine ∧ (d.hasDict = false ∨ noList d = true) := by
  unfold showOk at h
  simp only [Bool.and_eq_true, Bool.or_eq_true, decide_eq_true_eq, Bool.not_eq_true'] at h
  exact ⟨h.1.1.1, h.1.1.2, fits_le h.1.2, h.2⟩

section
variable {X : Cx}
theorem repr_ok (hu : X.A.units + 100 < cLine) (hg : X.A.guards = some []) : CallR X (.builtin "repr") (fun xs H Q => ∃ O x d, xs = [x] ∧ Rq X.K H O x d ∧ showOk d = true ∧ Q (.str d.shown) H) := by
  intro pins s σ H xs us Q I r h
  obtain ⟨O, x, d, rfl, hd, ok, q⟩ := h
  obtain ⟨u, rfl, ru⟩ := vals1 r
  obtain ⟨h1, h2, h3, h4⟩ := showOk_of ok
  obtain ⟨as, rd, off⟩ : ∃ as, Reads s.heap u d as ∧ (d.hasDict = true → sysModules ∉ as) := by
    rcases h4 with h4 | h4
    · obtain ⟨as, rd⟩ := hd.reads I d x u ru
      exact ⟨as, rd, PyData.noDict_hsm h4⟩
    · obtain ⟨as, rd, off⟩ := hd.readsN I d x u h4 ru
      exact ⟨as, rd, fun _ => off⟩
  have deep : ∀ a, u = .ref a → wpAny (model X.prog X.w) X.A (call (.builtin "repr") [u]) (EP X pins σ Q) X.xe s := fun a e => by
    subst e
    exact repr_of_reads' rd h1 off hg (by omega) (fun _ _ e => e) (fun h' t tk hk => ⟨.str d.shown, H, I.kept hk, ⟨_, rfl⟩, q⟩) h3
  cases d with
  | none => cases rd; exact PySem.P.repr_of_none ⟨.str _, H, I.tok _, ⟨_, rfl⟩, q⟩
  | bool b => cases rd; exact PySem.P.repr_of_bool ⟨.str _, H, I.tok _, ⟨_, rfl⟩, by simpa only [PyData.shown] using q⟩
  | int i => cases rd; exact PySem.P.repr_of_int (by simpa [PyData.showable] using h1) ⟨.str _, H, I.tok _, ⟨_, rfl⟩, by simpa only [PyData.shown] using q⟩
  | str y => cases rd; exact PySem.P.repr_of_str ⟨.str _, H, I.tok _, ⟨_, rfl⟩, by simpa only [PyData.shown] using q⟩ (by simpa only [PyData.shown] using h3)
  | list ds => obtain ⟨a, xs, rfl, _, _⟩ := rq_sq hd; exact deep a ru
  | tuple ds => obtain ⟨a, xs, rfl, _, _⟩ := rq_tp hd; exact deep a ru
  | dict ds => obtain ⟨a, xs, rfl, _, _⟩ := hd; exact deep a ru

/-! isinstance -/
theorem tyx_of {K : PySem.W.Frag} {H : Hp} {O : AS} {v : V} {d : D} (h : Rq K H O v d) : TyX K H v (.type (tyName d)) := by
  cases d with
  | none => cases h; exact .base .non
  | bool b => cases h; exact .base (.bl b)
  | int i => cases h; exact .base (.int i)
  | str y =>
    have h : Rp K H O v (.str y) := h
    cases h; exact .base (.str y)
  | list ds =>
    obtain ⟨a, xs, rfl, s, _⟩ := h
    rcases s with s | ⟨o, s⟩
    · exact .base (.lst s)
    · exact .base (.frz s)
  | tuple ds =>
    obtain ⟨a, xs, rfl, s, _⟩ := rq_tp h
    rcases s with (s | ⟨o, s⟩) | ⟨o, its, n, s, c, _⟩
    · exact .base (.tup s)
    · exact .fTuple s
    · exact .kTuple s c
  | dict ds =>
    obtain ⟨a, xs, rfl, s, _⟩ := h
    exact .base (.dK s)
end
end Ev
namespace Ev
open PySem PySem.Spec PyProof.Rows L2
def tyOk (ty : String) : Bool := ty == "int" || ty == "bool" || ty == "tuple" || ty == "str" || ty == "list" || ty == "dict"
theorem kit_is {K : PySem.W.Frag} (d : D) {ty : String} (h : tyOk ty = true) : PySem.W.kitOne K (.type (tyName d)) (.type ty) = some (isiD d ty) := by
  simp only [tyOk, Bool.or_eq_true, beq_iff_eq] at h
  rcases h with ((((h | h) | h) | h) | h) | h <;> subst h <;> cases d <;> first | rfl | (with_unfolding_all rfl)
end Ev
namespace Ev
open PySem PySem.Spec PyProof.Rows L2
variable {K : PySem.W.Frag} {H H' : Hp} {O O' : AS}

def pmVal : Pm → Value
  | .len => .builtin "len" | .abs => .builtin "abs" | .int => .type "int" | .tuple => .type "tuple" | .list => .type "list" | .sum => .builtin "sum" | .max => .builtin "max" | .min => .builtin "min"
  | .max2 => .builtin "max" | .min2 => .builtin "min" | .sorted => .builtin "sorted" | .repr => .builtin "repr" | .str => .type "str" | .all => .builtin "all" | .any => .builtin "any" | .bool => .type "bool" | .dict => .type "dict"
def pmName : Pm → Str
  | .len => "len" | .abs => "abs" | .int => "int" | .tuple => "tuple" | .list => "list" | .sum => "sum" | .max => "max" | .min => "min"
  | .max2 => "max" | .min2 => "min" | .sorted => "sorted" | .repr => "repr" | .str => "str" | .all => "all" | .any => "any" | .bool => "bool" | .dict => "dict"
theorem pm_boot (p : Pm) : bootBuiltins (pmName p) = some (pmVal p) := by cases p <;> decide +kernel

theorem asPairs_eq : ∀ {ds : List D} {ps : List (Int × Int)}, asPairs ds = some ps → ds = ps.map pairD
  | [], _, h => by cases h; rfl
  | .tuple [.int a, .int b] :: r, ps, h => by
    simp only [asPairs, Option.map_eq_some_iff] at h
    obtain ⟨qs, h1, h2⟩ := h
    subst h2
    rw [asPairs_eq h1]
    rfl
  | d :: r, ps, h => by
    unfold asPairs at h
    split at h
    · rename_i e; cases e
    · rename_i a b r' e
      cases e
      simp only [Option.map_eq_some_iff] at h
      obtain ⟨qs, h1, h2⟩ := h
      subst h2
      rw [asPairs_eq h1]
      rfl
    · cases h
theorem insI_perm (x : Int) : ∀ l : List Int, (insI x l).Perm (x :: l)
  | [] => .refl _
  | y :: r => by
    unfold insI
    split
    · exact .refl _
    · exact (List.Perm.cons y (insI_perm x r)).trans (List.Perm.swap x y r)
theorem sortI_perm : ∀ l : List Int, (sortI l).Perm l
  | [] => .refl _
  | x :: r => (insI_perm x (sortI r)).trans (List.Perm.cons x (sortI_perm r))
theorem insI_sorted {x : Int} : ∀ {l : List Int}, l.Pairwise (· ≤ ·) → (insI x l).Pairwise (· ≤ ·)
  | [], _ => by simp [insI]
  | y :: r, h => by
    obtain ⟨h1, h2⟩ := List.pairwise_cons.mp h
    unfold insI
    split
    · rename_i c
      refine List.pairwise_cons.mpr ⟨fun z hz => ?_, h⟩
      rcases List.mem_cons.mp hz with e | e
      · rw [e]; exact c
      · exact Int.le_trans c (h1 z e)
    · rename_i c
      refine List.pairwise_cons.mpr ⟨fun z hz => ?_, insI_sorted h2⟩
      rcases List.mem_cons.mp ((insI_perm x r).mem_iff.mp hz) with e | e
      · rw [e]; omega
      · exact h1 z e
theorem sortI_sorted : ∀ l : List Int, (sortI l).Pairwise (· ≤ ·)
  | [] => .nil
  | _ :: r => insI_sorted (sortI_sorted r)
theorem sortI_is {ns ys : List Int} (h1 : ys.Perm ns) (h2 : ys.Pairwise (· ≤ ·)) : ys = sortI ns :=
  (h1.trans (sortI_perm ns).symm).eq_of_pairwise (fun x y _ _ p q => Int.le_antisymm p q) h2 (sortI_sorted ns)
theorem keys_ints : ∀ {kvs : List (Key × V)} {kds : List (D × D)} {ns : List Int}, RpKs K H O kvs kds → asInts (kds.map (·.1)) = some ns → kvs.map (·.1) = ns.map Sum.inl
  | [], _, ns, h, e => by
    cases h
    simp only [List.map_nil, asInts, Option.some.injEq] at e
    subst e
    rfl
  | (k, v) :: r, _, ns, h, e => by
    cases h with
    | @cons _ _ _ e1 d1 s a b c =>
      cases e1 with
      | int i =>
        simp only [List.map_cons, asInts, Option.map_eq_some_iff] at e
        obtain ⟨ms, h1, h2⟩ := e
        subst h2
        have ih := keys_ints c h1
        rw [List.map_cons, List.map_cons, ih]
        cases k with
        | inl j => cases a; rfl
        | inr j => cases a
      | _ => simp [asInts] at e

section
variable {X : Cx}
theorem paired1 {α β : Type} {F : α → β → Prop} {xs : List α} {d : β} (h : Paired F xs [d]) : ∃ x, xs = [x] ∧ F x d := by
  cases h with
  | cons a b => cases b; exact ⟨_, rfl, a⟩
theorem paired2 {α β : Type} {F : α → β → Prop} {xs : List α} {d e : β} (h : Paired F xs [d, e]) : ∃ x y, xs = [x, y] ∧ F x d ∧ F y e := by
  cases h with
  | cons a b =>
    cases b with
    | cons b c => cases c; exact ⟨_, _, rfl, a, b⟩
theorem prim_ok (hc : X.calm = true) (hu : X.A.units + 100 < cLine) (hg : X.A.guards = some []) (p : Pm) : CallR X (pmVal p) (rDn X.K (prim p)) := by
  intro pins s σ H xs us Q I rx h
  obtain ⟨O, ds, r, hp, e, q⟩ := h
  have hl := hp.length
  cases p with
  | len =>
    cases ds with
    | nil => simp [prim] at e
    | cons d ds =>
      cases ds with
      | cons _ _ => cases d <;> simp [prim] at e
      | nil =>
        obtain ⟨x, rfl, hd⟩ := paired1 hp
        cases d with
        | list ds =>
          obtain ⟨a, vs, rfl, sq, rs⟩ := rq_sq hd
          simp only [prim, Option.some.injEq] at e; subst e
          exact call_len pins s σ H _ us Q I rx ⟨_, vs.length, rfl, .inl ⟨vs, sq, rfl⟩, q _ _ (Same.refl _) (by rw [rs.len]; exact .int _)⟩
        | tuple ds =>
          obtain ⟨a, vs, rfl, sq, rs⟩ := rq_tp hd
          simp only [prim, Option.some.injEq] at e; subst e
          exact call_len pins s σ H _ us Q I rx ⟨_, vs.length, rfl, .inr ⟨vs, sq, rfl⟩, q _ _ (Same.refl _) (by rw [rs.len]; exact .int _)⟩
        | dict ds =>
          obtain ⟨a, vs, rfl, sq, rs⟩ := hd
          simp only [prim, Option.some.injEq] at e; subst e
          exact call_lenD pins s σ H _ us Q I rx ⟨a, vs, rfl, sq, q _ _ (Same.refl _) (by rw [rs.len]; exact .int _)⟩
        | str y =>
          have hd : Rp X.K H O x (.str y) := hd
          cases hd with
          | str _ l =>
          simp only [prim, Option.some.injEq] at e; subst e
          exact call_len pins s σ H _ us Q I rx ⟨_, y.length, rfl, ⟨l, rfl⟩, q _ _ (Same.refl _) (.int _)⟩
        | _ => simp [prim] at e
  | abs =>
    cases ds with
    | nil => simp [prim] at e
    | cons d ds =>
      cases ds with
      | cons _ _ => cases d <;> simp [prim] at e
      | nil =>
        obtain ⟨x, rfl, hd⟩ := paired1 hp
        cases d <;> simp only [prim, Option.some.injEq, reduceCtorEq] at e
        subst e; cases hd
        exact call_abs pins s σ H _ us Q I rx ⟨_, rfl, q _ _ (Same.refl _) (.int _)⟩
  | int =>
    cases ds with
    | nil => simp [prim] at e
    | cons d ds =>
      cases ds with
      | cons _ _ => cases d <;> simp [prim] at e
      | nil =>
        obtain ⟨x, rfl, hd⟩ := paired1 hp
        simp only [prim, Option.map_eq_some_iff] at e
        obtain ⟨i, e1, e2⟩ := e
        subst e2
        cases d <;> simp only [inum, Option.some.injEq, reduceCtorEq] at e1
        · subst e1; cases hd
          exact call_int1 pins s σ H _ us Q I rx (.inr ⟨_, rfl, q _ _ (Same.refl _) (.int _)⟩)
        · subst e1; cases hd
          exact call_int1 pins s σ H _ us Q I rx (.inl ⟨_, rfl, q _ _ (Same.refl _) (.int _)⟩)
  | tuple =>
    cases ds with
    | nil => simp [prim] at e
    | cons d ds =>
      cases ds with
      | cons _ _ => cases d <;> simp [prim] at e
      | nil =>
        obtain ⟨x, rfl, hd⟩ := paired1 hp
        cases d with
        | list ds =>
          obtain ⟨a, vs, rfl, sq, rs⟩ := rq_sq hd
          simp only [prim, Option.some.injEq] at e; subst e
          exact call_tuple_of pins s σ H _ us Q I rx ⟨a, vs, rfl, .inl ⟨sq, fun l n => q _ _ (same_up n) (rp_tup n rs)⟩⟩
        | tuple ds =>
          obtain ⟨a, vs, rfl, sq, rs⟩ := rq_tp hd
          simp only [prim, Option.some.injEq] at e; subst e
          exact call_tuple_of pins s σ H _ us Q I rx ⟨a, vs, rfl, .inr ⟨sq, q _ _ (Same.refl _) (.tup sq rs)⟩⟩
        | dict ds =>
          obtain ⟨a, vs, rfl, sq, rs⟩ := hd
          simp only [prim, Option.some.injEq] at e; subst e
          exact call_tuple_dK hc pins s σ H _ us Q I rx ⟨a, vs, rfl, sq, fun p n => q _ _ (same_up n) (rp_tup n (rps_keys rs))⟩
        | _ => simp [prim] at e
  | dict =>
    cases ds with
    | nil => simp [prim] at e
    | cons d ds =>
      cases ds with
      | cons _ _ => cases d <;> simp [prim] at e
      | nil =>
        obtain ⟨x, rfl, hd⟩ := paired1 hp
        cases d with
        | list ds =>
          obtain ⟨a, vs, rfl, sq, rs⟩ := rq_sq hd
          simp only [prim] at e
          split at e
          · rename_i hk
            cases e
            obtain ⟨ps, kvs, rfl, hpp, f⟩ := pairs_of rs hk
            refine call_dictP hc pins s σ H _ us Q I rx ⟨a, ps, kvs, rfl, sq, hpp, fun p n => q _ _ (same_up n) ?_⟩
            exact ⟨p, rfl, n, _, upd_same, RpKs.mv (Mv.new (same_up n) n) _ _ (f [] [] .nil)⟩
          · cases e
        | _ => simp [prim] at e
  | list =>
    cases ds with
    | nil => simp [prim] at e
    | cons d ds =>
      cases ds with
      | cons _ _ => cases d <;> simp [prim] at e
      | nil =>
        obtain ⟨x, rfl, hd⟩ := paired1 hp
        cases d with
        | list ds =>
          obtain ⟨a, vs, rfl, sq, rs⟩ := rq_sq hd
          simp only [prim, Option.some.injEq] at e; subst e
          exact call_list_of pins s σ H _ us Q I rx ⟨a, vs, rfl, .inl sq, fun l n => q _ _ (same_up n) (res_lst n rs)⟩
        | tuple ds =>
          obtain ⟨a, vs, rfl, sq, rs⟩ := rq_tp hd
          simp only [prim, Option.some.injEq] at e; subst e
          exact call_list_of pins s σ H _ us Q I rx ⟨a, vs, rfl, .inr sq, fun l n => q _ _ (same_up n) (res_lst n rs)⟩
        | _ => simp [prim] at e
  | sum =>
    cases ds with
    | nil => simp [prim] at e
    | cons d ds =>
      cases ds with
      | cons _ _ => cases d <;> simp [prim] at e
      | nil =>
        obtain ⟨x, rfl, hd⟩ := paired1 hp
        cases d <;> simp only [prim, Option.map_eq_some_iff, reduceCtorEq] at e
        obtain ⟨ns, e1, e2⟩ := e
        subst e2
        obtain ⟨a, vs, rfl, sq, rs⟩ := rq_sq hd
        have ev := rs.asInts e1
        subst ev
        exact cr_sum hc pins s σ H _ us Q I rx ⟨a, ns, rfl, sq, q _ _ (Same.refl _) (.int _)⟩
  | max =>
    cases ds with
    | nil => simp [prim] at e
    | cons d ds =>
      cases ds with
      | cons _ _ =>
        cases d with
        | list l => cases l with
          | nil => simp [prim] at e
          | cons d _ => cases d <;> simp [prim] at e
        | tuple l => cases l with
          | nil => simp [prim] at e
          | cons d _ => cases d <;> simp [prim] at e
        | _ => simp [prim] at e
      | nil =>
        obtain ⟨x, rfl, hd⟩ := paired1 hp
        cases d with
        | list l => cases l with
          | nil => simp [prim] at e
          | cons d l =>
            cases d with
            | int i =>
              simp only [prim, Option.map_eq_some_iff] at e
              obtain ⟨ns, e1, e2⟩ := e
              subst e2
              obtain ⟨a, vs, rfl, sq, rs⟩ := rq_sq hd
              have ev : vs = (i :: ns).map V.int := rs.asInts (ns := i :: ns) (by simp only [asInts, e1, Option.map_some])
              subst ev
              refine cr_max hc pins s σ H _ us Q I rx ⟨a, i :: ns, rfl, sq, by simp, fun m m1 m2 => ?_⟩
              rw [max_is m1 m2]
              exact q _ _ (Same.refl _) (.int _)
            | _ => simp [prim] at e
        | tuple l => cases l with
          | nil => simp [prim] at e
          | cons d l =>
            cases d with
            | int i =>
              simp only [prim, Option.map_eq_some_iff] at e
              obtain ⟨ns, e1, e2⟩ := e
              subst e2
              obtain ⟨a, vs, rfl, sq, rs⟩ := rq_tp hd
              have ev : vs = (i :: ns).map V.int := rs.asInts (ns := i :: ns) (by simp only [asInts, e1, Option.map_some])
              subst ev
              exact cr_maxT hc hu pins s σ H _ us Q I rx ⟨a, i, ns, rfl, sq, q _ _ (Same.refl _) (.int _)⟩
            | _ => simp [prim] at e
        | _ => simp [prim] at e
  | min =>
    cases ds with
    | nil => simp [prim] at e
    | cons d ds =>
      cases ds with
      | cons _ _ =>
        cases d with
        | list l => cases l with
          | nil => simp [prim] at e
          | cons d _ => cases d <;> simp [prim] at e
        | tuple l => cases l with
          | nil => simp [prim] at e
          | cons d _ => cases d <;> simp [prim] at e
        | _ => simp [prim] at e
      | nil =>
        obtain ⟨x, rfl, hd⟩ := paired1 hp
        cases d with
        | list l => cases l with
          | nil => simp [prim] at e
          | cons d l =>
            cases d with
            | int i =>
              simp only [prim, Option.map_eq_some_iff] at e
              obtain ⟨ns, e1, e2⟩ := e
              subst e2
              obtain ⟨a, vs, rfl, sq, rs⟩ := rq_sq hd
              have ev : vs = (i :: ns).map V.int := rs.asInts (ns := i :: ns) (by simp only [asInts, e1, Option.map_some])
              subst ev
              refine cr_min hc pins s σ H _ us Q I rx ⟨a, i :: ns, rfl, sq, by simp, fun m m1 m2 => ?_⟩
              rw [min_is m1 m2]
              exact q _ _ (Same.refl _) (.int _)
            | _ => simp [prim] at e
        | tuple l => cases l with
          | nil => simp [prim] at e
          | cons d l =>
            cases d with
            | int i =>
              simp only [prim, Option.map_eq_some_iff] at e
              obtain ⟨ns, e1, e2⟩ := e
              subst e2
              obtain ⟨a, vs, rfl, sq, rs⟩ := rq_tp hd
              have ev : vs = (i :: ns).map V.int := rs.asInts (ns := i :: ns) (by simp only [asInts, e1, Option.map_some])
              subst ev
              exact cr_minT hc hu pins s σ H _ us Q I rx ⟨a, i, ns, rfl, sq, q _ _ (Same.refl _) (.int _)⟩
            | _ => simp [prim] at e
        | _ => simp [prim] at e
  | max2 =>
    cases ds with
    | nil => simp [prim] at e
    | cons d ds =>
      cases ds with
      | nil => cases d <;> simp [prim] at e
      | cons d2 ds =>
        cases ds with
        | cons _ _ => cases d <;> cases d2 <;> simp [prim] at e
        | nil =>
          obtain ⟨x, y, rfl, hd, hd2⟩ := paired2 hp
          cases d <;> cases d2 <;> simp only [prim, Option.some.injEq, reduceCtorEq] at e
          subst e; cases hd; cases hd2
          exact call_max2 hc pins s σ H _ us Q I rx ⟨_, _, rfl, q _ _ (Same.refl _) (.int _)⟩
  | min2 =>
    cases ds with
    | nil => simp [prim] at e
    | cons d ds =>
      cases ds with
      | nil => cases d <;> simp [prim] at e
      | cons d2 ds =>
        cases ds with
        | cons _ _ => cases d <;> cases d2 <;> simp [prim] at e
        | nil =>
          obtain ⟨x, y, rfl, hd, hd2⟩ := paired2 hp
          cases d <;> cases d2 <;> simp only [prim, Option.some.injEq, reduceCtorEq] at e
          subst e; cases hd; cases hd2
          exact call_min2 hc pins s σ H _ us Q I rx ⟨_, _, rfl, q _ _ (Same.refl _) (.int _)⟩
  | sorted =>
    cases ds with
    | nil => simp [prim] at e
    | cons d ds =>
      cases ds with
      | cons _ _ => cases d <;> simp [prim] at e
      | nil =>
        obtain ⟨x, rfl, hd⟩ := paired1 hp
        cases d <;> simp only [prim, reduceCtorEq] at e
        · split at e
          · rename_i ns e1
            split at e
            · rename_i h64
              cases e
              obtain ⟨a, vs, rfl, sq, rs⟩ := rq_sq hd
              have ev := rs.asInts e1
              subst ev
              refine cr_sorted pins s σ H _ us Q I rx ⟨a, ns, rfl, sq, h64, fun ys p p1 p2 n => ?_⟩
              rw [sortI_is p1 p2]
              exact q _ _ (same_up n) (res_lst n (rps_ints _))
            · cases e
          · split at e
            · rename_i ps e1
              split at e
              · cases e
                obtain ⟨a, vs, rfl, sq, rs⟩ := rq_sq hd
                rw [asPairs_eq e1] at rs
                exact cr_sortPL pins s σ H _ us Q I rx ⟨_, _, ps, O, rfl, sq, rs, fun ys p r1 r2 n => q _ _ (same_up n) (res_lst n r1)⟩
              · cases e
            · split at e
              · rename_i rows e1
                split at e
                · rename_i ok
                  cases e
                  obtain ⟨a, vs, rfl, sq, rs⟩ := rq_sq hd
                  rw [asRows_eq e1] at rs
                  exact cr_sortRows pins s σ H _ us Q I rx ⟨_, _, rows, _, O, rfl, sq, rs, ok, fun ys p r1 n => q _ _ (same_up n) (res_lst n r1)⟩
                · cases e
              · cases e
        · split at e
          · rename_i ps e1
            split at e
            · cases e
              have hd : Rp X.K H O x (.tuple _) := hd
              cases hd with
              | tup sq rs =>
                rw [asPairs_eq e1] at rs
                exact cr_sortPT pins s σ H _ us Q I rx ⟨_, _, ps, O, rfl, sq, rs, fun ys p r1 r2 n => q _ _ (same_up n) (res_lst n r1)⟩
            · cases e
          · cases e
        · split at e
          · rename_i ns e1
            split at e
            · rename_i h64
              cases e
              obtain ⟨a, vs, rfl, sq, rs⟩ := hd
              refine call_sortedDI hc pins s σ H _ us Q I rx ⟨a, vs, ns, rfl, .inl sq, keys_ints rs e1, h64, fun ys p p1 p2 n => ?_⟩
              rw [sortI_is p1 p2]
              exact q _ _ (same_up n) (res_lst n (rps_ints _))
            · cases e
          · cases e
  | repr =>
    cases ds with
    | nil => simp [prim] at e
    | cons d ds =>
      cases ds with
      | cons _ _ => simp [prim] at e
      | nil =>
        obtain ⟨x, rfl, hd⟩ := paired1 hp
        simp only [prim] at e
        split at e
        · rename_i ok
          cases e
          exact repr_ok hu hg pins s σ H _ us Q I rx ⟨O, x, d, rfl, hd, ok, q _ _ (Same.refl _) (.str _ (showOk_of ok).2.2.1)⟩
        · cases e
  | all =>
    cases ds with
    | nil => simp [prim] at e
    | cons d ds =>
      cases ds with
      | cons _ _ => cases d <;> simp [prim] at e
      | nil =>
        obtain ⟨x, rfl, hd⟩ := paired1 hp
        cases d <;> simp only [prim, Option.map_eq_some_iff, reduceCtorEq] at e
        obtain ⟨ns, e1, e2⟩ := e
        subst e2
        obtain ⟨a, vs, rfl, sq, rs⟩ := rq_sq hd
        have ev := rs.asBools e1
        subst ev
        exact cr_all hc pins s σ H _ us Q I rx ⟨a, ns, rfl, sq, q _ _ (Same.refl _) (.bl _)⟩
  | any =>
    cases ds with
    | nil => simp [prim] at e
    | cons d ds =>
      cases ds with
      | cons _ _ => cases d <;> simp [prim] at e
      | nil =>
        obtain ⟨x, rfl, hd⟩ := paired1 hp
        cases d <;> simp only [prim, Option.map_eq_some_iff, reduceCtorEq] at e
        obtain ⟨ns, e1, e2⟩ := e
        subst e2
        obtain ⟨a, vs, rfl, sq, rs⟩ := rq_sq hd
        have ev := rs.asBools e1
        subst ev
        exact cr_any hc pins s σ H _ us Q I rx ⟨a, ns, rfl, sq, q _ _ (Same.refl _) (.bl _)⟩
  | str =>
    cases ds with
    | nil => simp [prim] at e
    | cons d ds =>
      cases ds with
      | cons _ _ => cases d <;> simp [prim] at e
      | nil =>
        obtain ⟨x, rfl, hd⟩ := paired1 hp
        cases d <;> simp only [prim, reduceCtorEq] at e
        split at e
        · rename_i hq
          cases e
          cases hd
          exact call_str_int pins s σ H _ us Q I rx ⟨_, rfl, hq, q _ _ (Same.refl _) (.str _ (int_text_fits hq))⟩
        · cases e
  | bool => simp [prim] at e
end
end Ev
set_option Elab.async false
set_option linter.all false
set_option maxRecDepth 100000
set_option maxHeartbeats 4000000
/-! Ev, part 6: how slots and values at hand stand in the heap. -/
namespace Ev
open PySem PySem.Spec PyProof.Rows L2
variable {K : PySem.W.Frag} {H H' H1 H2 : Hp} {O O' B W W' W1 : AS} {σ : L2.St} {ρ ρ' : Rho}

abbrev Itm := V × R
def ItV (K : PySem.W.Frag) (H : Hp) (B W : AS) (v : V) : Bool → D → Prop
  | false, d => Rp K H (AV B W) v d
  | true, d => ∃ p, v = .ref p ∧ W p ∧ Cont K H (AV B W) p d
def ItOk (K : PySem.W.Frag) (H : Hp) (B W : AS) (σ : L2.St) (x : Itm) : Prop := match x.2 with
  | .val o d => ItV K H B W x.1 o d
  | .loc i => σ[i]? = some (some x.1)

structure Wd (K : PySem.W.Frag) (H : Hp) (B W : AS) (σ : L2.St) (ρ : Rho) (τ : List Itm) : Prop where
  len : ρ.length = σ.length
  dis : ∀ a, W a → ¬ B a
  bd : ∀ a, B a → ∃ o, H a = some o
  slot : ∀ i o d, look ρ i = some (o, d) → ∃ v, σ[i]? = some (some v) ∧ ItV K H B W v o d
  tmp : ∀ x ∈ τ, ItOk K H B W σ x
  ap : ∀ i j di dj v, i ≠ j → look ρ i = some (true, di) → look ρ j = some (true, dj) → σ[i]? = some (some v) → σ[j]? ≠ some (some v)
  apT : ∀ i d v, look ρ i = some (true, d) → σ[i]? = some (some v) → ∀ x ∈ τ, ∀ e, x.2 = .val true e → x.1 ≠ v
  apS : τ.Pairwise fun x y => ∀ d e, x.2 = .val true d → y.2 = .val true e → x.1 ≠ y.1
  wd : ∀ a, W a → ∃ o, H a = some o

theorem look_set {ρ : Rho} {i j : Nat} {p : Option (Bool × D)} : look (ρ.set i p) j = if i = j ∧ i < ρ.length then p else look ρ j := by
  unfold look
  by_cases e : i = j
  · subst e
    by_cases h : i < ρ.length
    · rw [List.getElem?_set_self h, if_pos ⟨rfl, h⟩]
      cases p <;> rfl
    · rw [List.getElem?_eq_none (by simpa using h), if_neg (fun z => h z.2), List.getElem?_eq_none (by simpa using h)]
  · rw [List.getElem?_set_ne e, if_neg (fun z => e z.1)]
theorem look_lt {ρ : Rho} {i : Nat} {p : Bool × D} (h : look ρ i = some p) : i < ρ.length := by
  unfold look at h
  by_cases c : i < ρ.length
  · exact c
  · rw [List.getElem?_eq_none (by omega)] at h
    cases h

theorem ItV.rq {v : V} {o : Bool} {d : D} (h : ItV K H B W v o d) : Rq K H (AV B W) v d := by
  cases o with
  | false => exact Rp.rq h
  | true => obtain ⟨p, rfl, _, c⟩ := h; exact c.rq
theorem ItV.there {v : V} {d : D} (h : ItV K H B W v true d) : ∃ p o, v = .ref p ∧ H p = some o ∧ W p := by
  obtain ⟨p, rfl, w, c⟩ := h
  obtain ⟨o, e⟩ := c.there
  exact ⟨p, o, rfl, e, w⟩
theorem Wd.rq {τ : List Itm} (w : Wd K H B W σ ρ τ) {x : Itm} (hx : x ∈ τ) {d : D} (e : rdR ρ x.2 = some d) : Rq K H (AV B W) x.1 d := by
  have h := w.tmp x hx
  obtain ⟨v, r⟩ := x
  cases r with
  | val o d' =>
    simp only [rdR, Option.some.injEq] at e
    subst e
    exact ItV.rq h
  | loc i =>
    simp only [rdR, Option.map_eq_some_iff] at e
    obtain ⟨⟨o, d'⟩, e1, e2⟩ := e
    subst e2
    obtain ⟨v', h1, h2⟩ := w.slot i o d' e1
    have h : σ[i]? = some (some v) := h
    rw [h] at h1
    cases h1
    exact h2.rq
/-- fewer values at hand -/
theorem Wd.sub {τ τ' : List Itm} (w : Wd K H B W σ ρ τ) (s : τ'.Sublist τ) : Wd K H B W σ ρ τ' :=
  ⟨w.len, w.dis, w.bd, w.slot, fun x hx => w.tmp x (s.subset hx), w.ap, fun i d v h1 h2 x hx => w.apT i d v h1 h2 x (s.subset hx), w.apS.sublist s, w.wd⟩
theorem Wd.pop {x : Itm} {τ : List Itm} (w : Wd K H B W σ ρ (x :: τ)) : Wd K H B W σ ρ τ := w.sub (List.sublist_cons_self ..)

/-- the heap moves; what is one's own is kept and stays one's own -/
theorem ItV.go {v : V} {o : Bool} {d : D} (s : Stp H W H' W') (k : ∀ p u, o = true → v = .ref p → W p → H p = some u → H' p = some u ∧ W' p) (h : ItV K H B W v o d) : ItV K H' B W' v o d := by
  cases o with
  | false => exact Rp.mv s.mv _ _ h
  | true =>
    obtain ⟨p, rfl, w, c⟩ := h
    obtain ⟨u, e⟩ := c.there
    obtain ⟨k1, k2⟩ := k p u rfl rfl w e
    exact ⟨p, rfl, k2, c.mv s.mv fun o e' => by rw [e] at e'; cases e'; exact k1⟩
/-- nothing that stands is changed -/
theorem Wd.grow {τ : List Itm} (w : Wd K H B W σ ρ τ) (e : Same H H') : Wd K H' B W σ ρ τ := by
  have s : Stp H W H' W := .ofSame e
  have go : ∀ {v o d}, ItV K H B W v o d → ItV K H' B W v o d := fun h => h.go s fun p u _ _ hw hu => ⟨e _ _ hu, hw⟩
  refine ⟨w.len, w.dis, fun a h => let ⟨o, q⟩ := w.bd a h; ⟨o, e _ _ q⟩, fun i o d h => let ⟨v, h1, h2⟩ := w.slot i o d h; ⟨v, h1, go h2⟩, fun x hx => ?_, w.ap, w.apT, w.apS, fun a h => let ⟨o, q⟩ := w.wd a h; ⟨o, e _ _ q⟩⟩
  have := w.tmp x hx
  obtain ⟨v, r⟩ := x
  cases r with
  | val o d => exact go this
  | loc i => exact this
/-- a value has come -/
theorem Wd.add {τ : List Itm} (w : Wd K H B W σ ρ τ) (e : Same H H') {v : V} {o : Bool} {d : D} (r : Res K H H' (AV B W) v o d) :
    ∃ W', Stp H W H' W' ∧ Wd K H' B W' σ ρ ((v, .val o d) :: τ) := by
  cases o with
  | false =>
    have w1 := w.grow e
    refine ⟨W, .ofSame e, w1.len, w1.dis, w1.bd, w1.slot, fun x hx => ?_, w1.ap, fun i d v h1 h2 x hx => ?_, .cons (fun y _ d e h => by cases h) w1.apS, w1.wd⟩
    · rcases List.mem_cons.mp hx with z | z
      · subst z; exact r
      · exact w1.tmp x z
    · rcases List.mem_cons.mp hx with z | z
      · subst z; intro e h; cases h
      · exact w1.apT i d v h1 h2 x z
  | true =>
    obtain ⟨p, rfl, n, c⟩ := r
    have nw : ∀ {v' : V} {d' : D}, ItV K H B W v' true d' → v' ≠ .ref p := fun h z => by
      obtain ⟨q, o, e1, e2, _⟩ := h.there
      rw [e1] at z
      cases z
      rw [n] at e2; cases e2
    have s : Stp H W H' (fun a => W a ∨ a = p) := ⟨fun a o h _ => e _ _ h, fun a xs h => e _ _ h, fun a o u h => e _ _ h, fun a h => e.free h, fun a h => h.elim .inl fun z => .inr (by rw [z]; exact n)⟩
    have av : ∀ a, (AV B W a ∨ a = p) → AV B (fun a => W a ∨ a = p) a := fun a h => by
      rcases h with (h | h) | h
      · exact .inl h
      · exact .inr (.inl h)
      · exact .inr (.inr h)
    have av' : ∀ a, AV B (fun a => W a ∨ a = p) a → (AV B W a ∨ a = p) := fun a h => by
      rcases h with h | h | h
      · exact .inl (.inl h)
      · exact .inl (.inr h)
      · exact .inr h
    have go : ∀ {v o d}, ItV K H B W v o d → ItV K H' B (fun a => W a ∨ a = p) v o d := fun h => h.go s fun q u _ _ hw hu => ⟨e _ _ hu, .inl hw⟩
    refine ⟨_, s, w.len, fun a h b => ?_, fun a h => let ⟨o, q⟩ := w.bd a h; ⟨o, e _ _ q⟩, fun i o d h => let ⟨v, h1, h2⟩ := w.slot i o d h; ⟨v, h1, go h2⟩, fun x hx => ?_, w.ap, fun i d' v h1 h2 x hx => ?_, .cons (fun y hy d1 e1 z1 z2 => ?_) w.apS, fun a h => ?_⟩
    · rcases h with h | h
      · exact w.dis a h b
      · obtain ⟨o, q⟩ := w.bd a b
        rw [h, n] at q; cases q
    · rcases List.mem_cons.mp hx with z | z
      · subst z
        exact ⟨p, rfl, .inr rfl, c.mv (Mv.less av') fun _ q => q⟩
      · have := w.tmp x z
        obtain ⟨v, r⟩ := x
        cases r with
        | val o d => exact go this
        | loc i => exact this
    · rcases List.mem_cons.mp hx with z | z
      · subst z
        intro e1 _
        obtain ⟨v', q1, q2⟩ := w.slot i true d' h1
        rw [h2] at q1; cases q1
        exact (nw q2).symm
      · exact w.apT i d' v h1 h2 x z
    · have := w.tmp y hy
      obtain ⟨v', r'⟩ := y
      have z2' : r' = .val true e1 := z2
      subst z2'
      exact fun q => nw this q.symm
    · rcases h with h | h
      · obtain ⟨o, q⟩ := w.wd a h
        exact ⟨o, e _ _ q⟩
      · obtain ⟨o, q⟩ := c.there
        rw [h]
        exact ⟨o, q⟩

/-- p is one's own no more -/
theorem less_mv {p : Addr} : Stp H W H (fun a => W a ∧ a ≠ p) := .drop fun _ h => h.1
theorem ItV.less {v : V} {o : Bool} {d : D} {p : Addr} (n : o = true → v ≠ .ref p) (h : ItV K H B W v o d) : ItV K H B (fun a => W a ∧ a ≠ p) v o d :=
  h.go less_mv fun q u ho hv hw hu => ⟨hu, hw, fun z => n ho (by rw [hv, z])⟩
theorem Cont.given {p : Addr} {d : D} (c : Cont K H (AV B W) p d) (n : ¬ B p) : Rp K H (AV B (fun a => W a ∧ a ≠ p)) (.ref p) d :=
  (c.mv (less_mv (p := p)).mv fun _ e => e).rp fun z => z.elim n fun z => z.2 rfl
theorem Wd.release {τ : List Itm} {v : V} {o : Bool} {d : D} (w : Wd K H B W σ ρ ((v, .val o d) :: τ)) : ∃ W', Stp H W H W' ∧ Wd K H B W' σ ρ ((v, .val false d) :: τ) := by
  cases o with
  | false => exact ⟨W, .refl, w⟩
  | true =>
    obtain ⟨p, e, wp, c⟩ := w.tmp _ List.mem_cons_self
    have e : v = .ref p := e
    subst e
    have w0 := w.pop
    have h0 := List.pairwise_cons.mp w.apS
    refine ⟨_, less_mv (p := p), w.len, fun a h => w.dis a h.1, w.bd, fun i o d' h => ?_, fun x hx => ?_, w.ap, fun i d' v h1 h2 x hx => ?_, .cons (fun y hy d1 e1 z1 z2 => by cases z1) h0.2, fun a h => w.wd a h.1⟩
    · obtain ⟨v', h1, h2⟩ := w.slot i o d' h
      refine ⟨v', h1, h2.less fun ho z => ?_⟩
      subst ho
      exact w.apT i d' v' h h1 _ List.mem_cons_self d rfl z.symm
    · rcases List.mem_cons.mp hx with z | z
      · subst z
        exact c.given (w.dis p wp)
      · have := w.tmp x (List.mem_cons_of_mem _ z)
        obtain ⟨v', r'⟩ := x
        cases r' with
        | val o d' => exact ItV.less (fun ho q => by
            subst ho
            exact h0.1 _ z d d' rfl rfl q.symm) this
        | loc i => exact this
    · rcases List.mem_cons.mp hx with z | z
      · subst z; intro e h; cases h
      · exact w0.apT i d' v h1 h2 x z
/-- a slot's own object is handed out -/
theorem Wd.give {τ : List Itm} {i : Nat} {d : D} (w : Wd K H B W σ ρ τ) (h : look ρ i = some (true, d)) : ∃ W', Stp H W H W' ∧ Wd K H B W' σ (ρ.set i (some (false, d))) τ := by
  obtain ⟨v, hv, p, rfl, wp, c⟩ := w.slot i true d h
  have hi := look_lt h
  have old : ∀ {j o d'}, look (ρ.set i (some (false, d))) j = some (o, d') → (j = i ∧ o = false ∧ d' = d) ∨ (i ≠ j ∧ look ρ j = some (o, d')) := fun {j o d'} q => by
    rw [look_set] at q
    by_cases e : i = j ∧ i < ρ.length
    · rw [if_pos e] at q
      cases q
      exact .inl ⟨e.1.symm, rfl, rfl⟩
    · rw [if_neg e] at q
      exact .inr ⟨fun z => e ⟨z, hi⟩, q⟩
  refine ⟨_, less_mv (p := p), by rw [List.length_set]; exact w.len, fun a h => w.dis a h.1, w.bd, fun j o d' q => ?_, fun x hx => ?_, fun a b da db v' ne h1 h2 e1 => ?_, fun j d' v' h1 h2 x hx => ?_, w.apS, fun a h => w.wd a h.1⟩
  · rcases old q with ⟨rfl, rfl, rfl⟩ | ⟨ne, q⟩
    · exact ⟨.ref p, hv, c.given (w.dis p wp)⟩
    · obtain ⟨v', h1, h2⟩ := w.slot j o d' q
      refine ⟨v', h1, h2.less fun ho z => ?_⟩
      subst ho; subst z
      exact w.ap i j d d' (.ref p) ne h q hv h1
  · have := w.tmp x hx
    obtain ⟨v', r'⟩ := x
    cases r' with
    | val o d' => exact ItV.less (fun ho q => by
        subst ho
        exact w.apT i d (.ref p) h hv _ hx d' rfl q) this
    | loc j => exact this
  · rcases old h1 with ⟨_, z, _⟩ | ⟨_, h1⟩
    · cases z
    rcases old h2 with ⟨_, z, _⟩ | ⟨_, h2⟩
    · cases z
    exact w.ap a b da db v' ne h1 h2 e1
  · rcases old h1 with ⟨_, z, _⟩ | ⟨_, h1⟩
    · cases z
    exact w.apT j d' v' h1 h2 x hx
theorem look_set_same {ρ : Rho} {i : Nat} {d : D} (h : look ρ i = some (false, d)) : ρ.set i (some (false, d)) = ρ := by
  unfold look at h
  have hi : i < ρ.length := look_lt (ρ := ρ) (p := (false, d)) h
  rw [List.getElem?_eq_getElem hi] at h
  have : ρ[i] = some (false, d) := by
    cases q : ρ[i] with
    | none => rw [q] at h; cases h
    | some p => rw [q] at h; simp only [Option.some.injEq] at h; rw [h]
  rw [← this]
  exact List.set_getElem_self hi
/-- a value leaves the hand: plain from now on -/
theorem Wd.esc {τ : List Itm} {v : V} {r : R} {d : D} (w : Wd K H B W σ ρ ((v, r) :: τ)) (e : escR ρ r = some (d, ρ')) : ∃ W', Stp H W H W' ∧ Wd K H B W' σ ρ' ((v, .val false d) :: τ) := by
  cases r with
  | val o d' =>
    simp only [escR, Option.some.injEq, Prod.mk.injEq] at e
    obtain ⟨rfl, rfl⟩ := e
    exact w.release
  | loc i =>
    simp only [escR] at e
    cases q : look ρ i with
    | none => rw [q] at e; cases e
    | some p =>
      obtain ⟨o, d'⟩ := p
      rw [q] at e
      simp only [Option.some.injEq, Prod.mk.injEq] at e
      obtain ⟨rfl, rfl⟩ := e
      have hv : σ[i]? = some (some v) := w.tmp _ List.mem_cons_self
      have fin : ∀ {W1 : AS}, Wd K H B W1 σ (ρ.set i (some (false, d'))) τ → Wd K H B W1 σ (ρ.set i (some (false, d'))) ((v, .val false d') :: τ) := fun {W1} w1 => by
        have l : look (ρ.set i (some (false, d'))) i = some (false, d') := by rw [look_set, if_pos ⟨rfl, look_lt q⟩]
        obtain ⟨v', h1, h2⟩ := w1.slot i false d' l
        rw [hv] at h1; cases h1
        refine ⟨w1.len, w1.dis, w1.bd, w1.slot, fun x hx => ?_, w1.ap, fun j d2 v2 h1 h2 x hx => ?_, .cons (fun y _ d e h => by cases h) w1.apS, w1.wd⟩
        · rcases List.mem_cons.mp hx with z | z
          · subst z; exact h2
          · exact w1.tmp x z
        · rcases List.mem_cons.mp hx with z | z
          · subst z; intro e h; cases h
          · exact w1.apT j d2 v2 h1 h2 x z
      cases o with
      | true =>
        obtain ⟨W', s, w1⟩ := w.pop.give q
        exact ⟨W', s, fin w1⟩
      | false =>
        have e0 := look_set_same q
        refine ⟨W, .refl, fin ?_⟩
        rw [e0]
        exact w.pop
end Ev
set_option Elab.async false
set_option linter.all false
set_option maxRecDepth 100000
set_option maxHeartbeats 4000000
/-! Ev, part 7: stores. -/
namespace Ev
open PySem PySem.Spec PyProof.Rows L2
variable {K : PySem.W.Frag} {H H' H1 H2 : Hp} {O O' B W W' W1 : AS} {σ : L2.St} {ρ ρ' : Rho}

def NoLoc (τ : List Itm) : Prop := ∀ x ∈ τ, isLocR x.2 = false
theorem NoLoc.ok {τ : List Itm} (n : NoLoc τ) {σ' : L2.St} (h : ∀ x ∈ τ, ItOk K H B W σ x) : ∀ x ∈ τ, ItOk K H B W σ' x := fun x hx => by
  have q := h x hx
  have m := n x hx
  obtain ⟨v, r⟩ := x
  cases r with
  | val o d => exact q
  | loc i => cases m
/-- slot i takes the value at hand -/
theorem Wd.put {τ : List Itm} {v : V} {o : Bool} {d : D} {i : Nat} (n : NoLoc τ) (hi : i < ρ.length) (w : Wd K H B W σ ρ ((v, .val o d) :: τ)) : Wd K H B W (σ.set i (some v)) (ρ.set i (some (o, d))) τ := by
  have hs : i < σ.length := by rw [← w.len]; exact hi
  have w0 := w.pop
  have h0 := List.pairwise_cons.mp w.apS
  have hd : ItV K H B W v o d := w.tmp _ List.mem_cons_self
  have old : ∀ {j o' d'}, look (ρ.set i (some (o, d))) j = some (o', d') → (j = i ∧ o' = o ∧ d' = d) ∨ (i ≠ j ∧ look ρ j = some (o', d')) := fun {j o' d'} q => by
    rw [look_set] at q
    by_cases e : i = j ∧ i < ρ.length
    · rw [if_pos e] at q
      cases q
      exact .inl ⟨e.1.symm, rfl, rfl⟩
    · rw [if_neg e] at q
      exact .inr ⟨fun z => e ⟨z, hi⟩, q⟩
  have at_i : (σ.set i (some v))[i]? = some (some v) := List.getElem?_set_self hs
  have at_j : ∀ {j}, i ≠ j → (σ.set i (some v))[j]? = σ[j]? := fun ne => List.getElem?_set_ne ne
  refine ⟨by rw [List.length_set, List.length_set]; exact w.len, w.dis, w.bd, fun j o' d' q => ?_, n.ok w0.tmp, fun a b da db v' ne h1 h2 e1 => ?_, fun j d' v' h1 h2 x hx e he => ?_, w0.apS, w.wd⟩
  · rcases old q with ⟨rfl, rfl, rfl⟩ | ⟨ne, q⟩
    · exact ⟨v, at_i, hd⟩
    · obtain ⟨v', h1, h2⟩ := w.slot j o' d' q
      exact ⟨v', by rw [at_j ne]; exact h1, h2⟩
  · rcases old h1 with ⟨rfl, ho, hda⟩ | ⟨n1, g1⟩
    · rcases old h2 with ⟨z, _⟩ | ⟨n2, g2⟩
      · exact absurd z.symm ne
      · rw [at_i] at e1
        cases e1
        rw [at_j n2]
        intro z
        exact w.apT b db v g2 z _ List.mem_cons_self d (by rw [← ho]) rfl
    · rw [at_j n1] at e1
      rcases old h2 with ⟨rfl, ho, hdb⟩ | ⟨n2, g2⟩
      · rw [at_i]
        intro z
        cases z
        exact w.apT a da v g1 e1 _ List.mem_cons_self d (by rw [← ho]) rfl
      · rw [at_j n2]
        exact w.ap a b da db v' ne g1 g2 e1
  · rcases old h1 with ⟨rfl, ho, hd'⟩ | ⟨n1, h1⟩
    · rw [at_i] at h2
      cases h2
      subst ho
      exact fun z => h0.1 x hx d e rfl he z.symm
    · rw [at_j n1] at h2
      exact w0.apT j d' v' h1 h2 x hx e he
/-- slot i's own object is written -/
theorem Wd.wr {τ : List Itm} {i : Nat} {d d' : D} {p : Addr} (w : Wd K H B W σ ρ τ) (h : look ρ i = some (true, d)) (hp : σ[i]? = some (some (.ref p)))
    (k : ∀ b o, b ≠ p → H b = some o → H' b = some o) (tup : ∀ xs, H p ≠ some (.tup xs)) (frz : ∀ o u, H p ≠ some (.frz o u)) (dom : ∀ b, H' b = none → H b = none)
    (c : Rp K H (AV B W) .non .none → Cont K H' (AV B W) p d') : Stp H W H' W ∧ Wd K H' B W σ (ρ.set i (some (true, d'))) τ := by
  obtain ⟨v, hv, p', e, wp, c0⟩ := w.slot i true d h
  subst e
  rw [hp] at hv
  cases hv
  have hi := look_lt h
  have s : Stp H W H' W := ⟨fun a o e n => k a o (fun z => n (by rw [z]; exact wp)) e, fun a xs e => k a _ (fun z => tup xs (by rw [← z]; exact e)) e, fun a o u e => k a _ (fun z => frz o u (by rw [← z]; exact e)) e, dom, fun a h => .inl h⟩
  have go : ∀ {v o d}, (o = true → v ≠ .ref p) → ItV K H B W v o d → ItV K H' B W v o d := fun {v o d} ne q => q.go s fun q' u ho hv hw hu => ⟨k q' u (fun z => ne ho (by rw [hv, z])) hu, hw⟩
  have old : ∀ {j o' e}, look (ρ.set i (some (true, d'))) j = some (o', e) → (j = i ∧ o' = true ∧ e = d') ∨ (i ≠ j ∧ look ρ j = some (o', e)) := fun {j o' e} q => by
    rw [look_set] at q
    by_cases e : i = j ∧ i < ρ.length
    · rw [if_pos e] at q
      cases q
      exact .inl ⟨e.1.symm, rfl, rfl⟩
    · rw [if_neg e] at q
      exact .inr ⟨fun z => e ⟨z, hi⟩, q⟩
  refine ⟨s, by rw [List.length_set]; exact w.len, w.dis, fun a h => ?_, fun j o' e q => ?_, fun x hx => ?_, fun a b da db v' ne h1 h2 e1 => ?_, fun j e v' h1 h2 x hx => ?_, w.apS, fun a h => ?_⟩
  · obtain ⟨o, q⟩ := w.bd a h
    cases q' : H' a with
    | some o' => exact ⟨o', rfl⟩
    | none => rw [dom a q'] at q; cases q
  · rcases old q with ⟨rfl, rfl, rfl⟩ | ⟨ne, q⟩
    · exact ⟨.ref p, hp, p, rfl, wp, c .non⟩
    · obtain ⟨v', h1, h2⟩ := w.slot j o' e q
      refine ⟨v', h1, go (fun ho z => ?_) h2⟩
      subst ho; subst z
      exact w.ap i j d e (.ref p) ne h q hp h1
  · have := w.tmp x hx
    obtain ⟨v', r'⟩ := x
    cases r' with
    | val o e => exact go (fun ho z => by
        subst ho
        exact w.apT i d (.ref p) h hp _ hx e rfl z) this
    | loc j => exact this
  · have b1 : ∃ da', look ρ a = some (true, da') := by
      rcases old h1 with ⟨rfl, _, _⟩ | ⟨_, h1⟩
      · exact ⟨d, h⟩
      · exact ⟨da, h1⟩
    have b2 : ∃ db', look ρ b = some (true, db') := by
      rcases old h2 with ⟨rfl, _, _⟩ | ⟨_, h2⟩
      · exact ⟨d, h⟩
      · exact ⟨db, h2⟩
    obtain ⟨da', b1⟩ := b1
    obtain ⟨db', b2⟩ := b2
    exact w.ap a b da' db' v' ne b1 b2 e1
  · rcases old h1 with ⟨rfl, _, _⟩ | ⟨_, h1⟩
    · exact w.apT j d v' h h2 x hx
    · exact w.apT j e v' h1 h2 x hx
  · obtain ⟨o, q⟩ := w.wd a h
    cases q' : H' a with
    | some o' => exact ⟨o', rfl⟩
    | none => rw [dom a q'] at q; cases q

/-- slots are forgotten -/
theorem wipeR_len (ρ : Rho) : ∀ vs : List Nat, (wipeR ρ vs).length = ρ.length
  | [] => rfl
  | v :: vs => by unfold wipeR; rw [List.length_set, wipeR_len ρ vs]
theorem look_wipe {ρ : Rho} {j : Nat} {p : Bool × D} : ∀ {vs : List Nat}, look (wipeR ρ vs) j = some p → look ρ j = some p ∧ j ∉ vs
  | [], h => ⟨h, by simp⟩
  | v :: vs, h => by
    unfold wipeR at h
    rw [look_set] at h
    split at h
    · cases h
    · rename_i e
      obtain ⟨h1, h2⟩ := look_wipe (vs := vs) h
      refine ⟨h1, ?_⟩
      rw [List.mem_cons]
      rintro (z | z)
      · exact e ⟨z.symm, by rw [← z, wipeR_len]; exact look_lt h1⟩
      · exact h2 z
theorem wipe_at {σ : L2.St} {j : Nat} : ∀ {vs : List Nat}, j ∉ vs → (wipe σ vs)[j]? = σ[j]?
  | [], _ => rfl
  | v :: vs, h => by
    unfold wipe
    rw [List.getElem?_set_ne (fun z => h (by rw [z]; exact List.mem_cons_self))]
    exact wipe_at fun z => h (List.mem_cons_of_mem _ z)
theorem Wd.wipe {τ : List Itm} (n : NoLoc τ) (w : Wd K H B W σ ρ τ) (vs : List Nat) : Wd K H B W (wipe σ vs) (wipeR ρ vs) τ := by
  refine ⟨by rw [wipeR_len, wipe_length]; exact w.len, w.dis, w.bd, fun i o d h => ?_, n.ok w.tmp, fun i j di dj v ne h1 h2 e1 => ?_, fun i d v h1 h2 => ?_, w.apS, w.wd⟩
  · obtain ⟨h1, h2⟩ := look_wipe h
    obtain ⟨v, a, b⟩ := w.slot i o d h1
    exact ⟨v, by rw [wipe_at h2]; exact a, b⟩
  · obtain ⟨a1, a2⟩ := look_wipe h1
    obtain ⟨b1, b2⟩ := look_wipe h2
    rw [wipe_at a2] at e1
    rw [wipe_at b2]
    exact w.ap i j di dj v ne a1 b1 e1
  · obtain ⟨a1, a2⟩ := look_wipe h1
    rw [wipe_at a2] at h2
    exact w.apT i d v a1 h2
end Ev
set_option Elab.async false
set_option linter.all false
set_option maxRecDepth 100000
set_option maxHeartbeats 4000000
/-! Ev, part 8: arguments, what an own def promises, its call. -/
namespace Ev
open PySem PySem.Spec PyProof.Rows L2
variable {K : PySem.W.Frag} {H H' H1 H2 : Hp} {O O' B W W' W1 : AS} {σ : L2.St} {ρ ρ' : Rho}

def relR : R → R
  | .val _ d => .val false d
  | .loc i => .loc i
def relI (x : Itm) : Itm := (x.1, relR x.2)
theorem Wd.perm {τ τ' : List Itm} (p : τ.Perm τ') (w : Wd K H B W σ ρ τ) : Wd K H B W σ ρ τ' :=
  ⟨w.len, w.dis, w.bd, w.slot, fun x hx => w.tmp x (p.mem_iff.mpr hx), w.ap, fun i d v h1 h2 x hx => w.apT i d v h1 h2 x (p.mem_iff.mpr hx),
    (p.pairwise_iff fun {x y} h d e h1 h2 z => h e d h2 h1 z.symm).mp w.apS, w.wd⟩
theorem Wd.release1 {τ : List Itm} {x : Itm} (w : Wd K H B W σ ρ (x :: τ)) : ∃ W', Stp H W H W' ∧ Wd K H B W' σ ρ (relI x :: τ) := by
  obtain ⟨v, r⟩ := x
  cases r with
  | val o d => exact w.release
  | loc i => exact ⟨W, .refl, w⟩
theorem Wd.releases : ∀ {τ : List Itm} (as : List Itm) {W : AS}, Wd K H B W σ ρ (as ++ τ) → ∃ W', Stp H W H W' ∧ Wd K H B W' σ ρ (as.map relI ++ τ)
  | τ, [], W, w => ⟨W, .refl, w⟩
  | τ, x :: as, W, w => by
    obtain ⟨W1, s1, w1⟩ := Wd.release1 (τ := as ++ τ) w
    have p : (relI x :: (as ++ τ)).Perm (as ++ (relI x :: τ)) := by
      rw [show relI x :: (as ++ τ) = [relI x] ++ as ++ τ by simp]
      rw [show as ++ (relI x :: τ) = as ++ [relI x] ++ τ by simp]
      exact List.Perm.append_right _ List.perm_append_comm
    obtain ⟨W2, s2, w2⟩ := Wd.releases as (w1.perm p)
    refine ⟨W2, s1.trans s2, w2.perm ?_⟩
    rw [show (x :: as).map relI ++ τ = [relI x] ++ as.map relI ++ τ by simp]
    rw [show as.map relI ++ (relI x :: τ) = as.map relI ++ [relI x] ++ τ by simp]
    exact List.Perm.append_right _ List.perm_append_comm
theorem rdR_rel {ρ : Rho} {r : R} : rdR ρ (relR r) = rdR ρ r := by cases r <;> rfl
theorem rdRs_rel {ρ : Rho} : ∀ {rs : List R}, rdRs ρ (rs.map relR) = rdRs ρ rs
  | [] => rfl
  | r :: rs => by simp only [List.map_cons, rdRs, rdR_rel, rdRs_rel (rs := rs)]
/-- released -/
def Plain (x : Itm) : Prop := ∀ d, x.2 ≠ .val true d
theorem plain_rel (x : Itm) : Plain (relI x) := fun d h => by
  obtain ⟨v, r⟩ := x
  cases r <;> cases h

/-- the addresses that are lent -/
def Lent (as : List Itm) : AS := fun a => ∃ x ∈ as, (∃ i, x.2 = .loc i) ∧ x.1 = .ref a
def Bar (B W : AS) (as : List Itm) : AS := fun a => AV B W a ∧ ¬ Lent as a
theorem Wd.arg1 {τ as : List Itm} (w : Wd K H B W σ ρ τ) {x : Itm} (hx : x ∈ τ) (ha : x ∈ as) (pl : Plain x) {d : D} (e : rdR ρ x.2 = some d) : Rp K H (Bar B W as) x.1 d := by
  have h := w.tmp x hx
  obtain ⟨v, r⟩ := x
  cases r with
  | val o d' =>
    simp only [rdR, Option.some.injEq] at e
    subst e
    cases o with
    | true => exact absurd rfl (pl d')
    | false => exact Rp.mv (Mv.less fun a z => z.1) _ _ h
  | loc i =>
    simp only [rdR, Option.map_eq_some_iff] at e
    obtain ⟨⟨o, d'⟩, e1, e2⟩ := e
    subst e2
    obtain ⟨v', h1, h2⟩ := w.slot i o d' e1
    have h : σ[i]? = some (some v) := h
    rw [h] at h1
    cases h1
    cases o with
    | false => exact Rp.mv (Mv.less fun a z => z.1) _ _ h2
    | true =>
      obtain ⟨p, rfl, wp, c⟩ := h2
      exact (c.mv (Mv.less (O' := Bar B W as) fun a z => z.1) fun _ q => q).rp fun z => z.2 ⟨_, ha, ⟨i, rfl⟩, rfl⟩
theorem Wd.argsOk {τ as : List Itm} (w : Wd K H B W σ ρ τ) : ∀ {l : List Itm} {ds : List D}, (∀ x ∈ l, x ∈ τ ∧ x ∈ as ∧ Plain x) → rdRs ρ (l.map (·.2)) = some ds → Rps K H (Bar B W as) (l.map (·.1)) ds
  | [], ds, _, e => by
    simp only [List.map_nil, rdRs, Option.some.injEq] at e
    subst e
    exact .nil
  | x :: l, ds, h, e => by
    simp only [List.map_cons, rdRs] at e
    cases q : rdR ρ x.2 with
    | none => rw [q] at e; cases e
    | some d =>
      rw [q] at e
      cases q2 : rdRs ρ (l.map (·.2)) with
      | none => rw [q2] at e; cases e
      | some ds' =>
        rw [q2] at e
        cases e
        obtain ⟨h1, h2, h3⟩ := h x List.mem_cons_self
        exact .cons (w.arg1 h1 h2 h3 q) (Wd.argsOk w (fun y hy => h y (List.mem_cons_of_mem _ hy)) q2)
theorem bar_there {as : List Itm} {τ : List Itm} (w : Wd K H B W σ ρ τ) : ∀ a, Bar B W as a → ∃ o, H a = some o := fun a h => h.1.elim (w.bd a) (w.wd a)

/-! ### what an own def promises -/
/-- values, plain, off B; behind it nothing that stood is changed -/
def spA (K : PySem.W.Frag) (fn : List D → Option ((Bool × D) × D)) : Sp := fun vs H Q _ => ∃ (B : AS) (ds : List D) (out : (Bool × D) × D), (∀ a, B a → ∃ o, H a = some o) ∧ Rps K H B vs ds ∧ fn ds = some out ∧ ∀ v H', Same H H' → Res K H H' B v out.1.1 out.1.2 → Q v H'
/-- the first one is a list of the caller's own, which it changes -/
def spM (K : PySem.W.Frag) (fn : List D → Option ((Bool × D) × D)) : Sp := fun vs H Q _ => ∃ (B : AS) (s : Addr) (xs vr : List V) (ds dr ds' : List D) (out : Bool × D), vs = .ref s :: vr ∧ H s = some (.lst xs) ∧ ¬ B s ∧ (∀ a, B a → ∃ o, H a = some o) ∧ Rps K H (fun a => B a ∨ a = s) xs ds ∧
  Rps K H (fun a => B a ∨ a = s) vr dr ∧ fn (.list ds :: dr) = some (out, .list ds') ∧
  ∀ v H' ys, (∀ b o, b ≠ s → H b = some o → H' b = some o) → H' s = some (.lst ys) → Rps K H' (fun a => B a ∨ a = s) ys ds' → Res K H H' (fun a => B a ∨ a = s) v out.1 out.2 → Q v H'
def spF (K : PySem.W.Frag) (F : Fn) : Sp := match F.chg with
  | false => spA K F.fn
  | true => spM K F.fn

structure FnG (P : Program) (w : World) (K : PySem.W.Frag) (mg : Str → Option Value) (base : Heap) (k : Nat) (f : Addr) (fd : FuncData) (ps : List Str) (F : Fn) : Prop where
  run : ∀ (A : Around) (outer : List Env) (s : Shared) (H : Hp) (args : Args) (us : List Value) (vs : List V) (Q : VK), Room k A → A.guards = some [] → Env0 P w K mg base A outer s H → BindsTo s fd args (ps.zip us) → Vals vs us →
    vs.length = ps.length → spF K F vs H Q E0 → codeAny (model P w) A (.call (.ref f) args) (CR CX0 outer P w H s Q E0) s
/-- an own def as a body sees it -/
structure Own (X : Cx) (x : Str) (F : Fn) : Prop where
  ex : ∃ (f : Addr) (fd : FuncData) (ps : List Str) (k : Nat), FnG X.prog X.w X.K X.mg X.base k f fd ps F ∧ X.mg x = some (.ref f) ∧ PySem.W.keepIn X.K (.ref f) = true ∧ Binds X.K fd ps [] ∧ Room k X.A ∧ (∀ ds r, F.fn ds = some r → ds.length = ps.length)

section
variable {X : Cx} {x : Str} {F : Fn}
theorem Own.call (W : Own X x F) (hg : X.A.guards = some []) {p pos : Pos} {e : Expr} {es : List Expr} {t : TA} (hk : Gl X x) (ha : PA X (e :: es) t) (hdb : (x == ("__debug__" : Str)) = false)
    (he : starEach (e :: es) X.env = (false, eval e X.env) :: starEach es X.env) (hpl : (backTo pos (starEach es X.env)).any (·.1) = false) (hlen : ∀ vs H Q, spF X.K F vs H Q E0 → ∀ ps : List Str, (∀ ds r, F.fn ds = some r → ds.length = ps.length) → vs.length = ps.length) :
    PE X (.Call (.Name x p) (e :: es) [] pos) (fun σ H Q => t σ H fun vs H1 => spF X.K F vs H1 Q E0) := by
  obtain ⟨f, fd, ps, k, G, hm, hkp, hb, hr, hl⟩ := W.ex
  refine ⟨fun pins s σ H Q I h => ?_⟩
  refine wpAny_Call_Name_kw (ld_glob I hk hm ?_ hdb)
  refine PySem.W.callWith_K (h₀ := X.base) I.ok.mod.kin hkp (thn (ha.run pos pins s σ H _ I h) fun us s1 ⟨vs, H1, I1, r, q⟩ => ⟨I1.kIn, ?_⟩) he hpl
  have h1 := hlen _ _ _ q ps hl
  have h2 : (us ++ []).length = ps.length := by rw [List.append_nil, ← r.length]; exact h1
  have b0 := hb s1 us I1.kIn h2
  rw [List.append_nil] at b0
  refine wpAny_call (codeAny_mono (G.run X.A X.stack s1 H1 ⟨us, []⟩ us vs Q hr hg I1.env0 b0 r h1 q) fun r s' hq => ?_)
  cases r with
  | error e => exact False.elim hq
  | ok fl =>
    cases fl with
    | ret u => exact I1.after hq
    | next => exact False.elim hq
    | brk => exact False.elim hq
    | cont => exact False.elim hq
end
theorem spF_len {F : Fn} : ∀ vs H Q, spF K F vs H Q E0 → ∀ ps : List Str, (∀ ds r, F.fn ds = some r → ds.length = ps.length) → vs.length = ps.length := fun vs H Q h ps hl => by
  unfold spF at h
  cases c : F.chg with
  | false =>
    rw [c] at h
    obtain ⟨B, ds, out, _, r, e, _⟩ := h
    rw [r.len]
    exact hl _ _ e
  | true =>
    rw [c] at h
    obtain ⟨B, s, xs, vr, ds, dr, ds', out, rfl, _, _, _, _, r, e, _⟩ := h
    have := hl _ _ e
    rw [List.length_cons, r.len]
    exact this
end Ev
set_option Elab.async false
set_option linter.all false
set_option maxRecDepth 100000
set_option maxHeartbeats 4000000
/-! Ev, part 9: when a text of the model says what a term of the language says. -/
namespace Ev
open PySem PySem.Spec PyProof.Rows L2

def isVis (sc : Scope) (x : Str) : Bool := match sc.names.lookup x with
  | some .local => true
  | some .cell => true
  | some .free => true
  | _ => false
def isGl (sc : Scope) (x : Str) : Bool := decide (sc.names.lookup x = some .globalImplicit)
def okNm (x : Str) : Bool := !(x == ("__debug__" : Str)) && !(x == ("__classdict__" : Str)) && decide (x ≠ ("__name__" : Str))
def notStar : Expr → Bool
  | .Starred .. => false
  | _ => true
def notSl : Expr → Bool
  | .Slice .. => false
  | _ => true
def noNm (f : Str) (sc : Scope) : Bool := isGl sc f && okNm f
def plainT : Expr → Bool
  | .UnaryOp .Not _ _ => false
  | .BoolOp .. => false
  | .IfExp .. => false
  | .Compare .. => false
  | _ => true
def mtName : Mt → Str
  | .append => "append" | .extend => "extend" | .popAt => "pop" | .pop => "pop"
def chkT (b : Bool) (N : List Str) (sc : Scope) : Tg → Expr → Bool
  | .name i, .Name x _ => decide (N[i]? = some x) && decide (sc.names.lookup x = some .local ∨ (b = true ∧ sc.names.lookup x = some .cell))
  | .pair u v, .Tuple [x, y] _ _ => chkT b N sc u x && chkT b N sc v y
  | .trip u v w, .Tuple [x, y, z] _ _ => chkT b N sc u x && chkT b N sc v y && chkT b N sc w z
  | .quad u v w t, .Tuple [x, y, z, q] _ _ => chkT b N sc u x && chkT b N sc v y && chkT b N sc w z && chkT b N sc t q
  | _, _ => false
variable (Cs : List (Str × Int)) (Bs : List Str) (N : List Str)
mutual
def chk (sc : Scope) : E → Expr → Bool
  | .var i, x => match x with
    | .Name y _ => decide (N[i]? = some y) && isVis sc y && okNm y
    | _ => false
  | .int i, x => match x with
    | .Constant (.int j) _ _ => decide (i = j)
    | _ => false
  | .bl b, x => match x with
    | .Constant (.bool c) _ _ => b == c
    | _ => false
  | .non, x => match x with
    | .Constant .none _ _ => true
    | _ => false
  | .str s, x => match x with
    | .Constant (.str t) _ _ => decide (s = t) && fits s.length
    | _ => false
  | .cst y i, x => match x with
    | .Name z _ => decide (y = z) && noNm y sc && decide ((y, i) ∈ Cs)
    | _ => false
  | .op o a b, x => match x with
    | .BinOp l p r _ => decide (p = opOf o) && chk sc a l && chk sc b r
    | _ => false
  | .neg a, x => match x with
    | .UnaryOp .USub l _ => chk sc a l
    | _ => false
  | .not a, x => match x with
    | .UnaryOp .Not l _ => chk sc a l
    | _ => false
  | .and a b, x => match x with
    | .BoolOp .And (l :: r :: rs) p => chk sc a l && (match rs with
      | [] => chk sc b r
      | q :: qs => chk sc b (.BoolOp .And (r :: q :: qs) p))
    | _ => false
  | .or a b, x => match x with
    | .BoolOp .Or (l :: r :: rs) p => chk sc a l && (match rs with
      | [] => chk sc b r
      | q :: qs => chk sc b (.BoolOp .Or (r :: q :: qs) p))
    | _ => false
  | .cmp c a b, x => match x with
    | .Compare l [p] [r] _ => decide (p = copOf c) && chk sc a l && chk sc b r && !(behindInMarks p r)
    | _ => false
  | .chain c1 c2 a b c, x => match x with
    | .Compare l [p, q] [m, r] _ => decide (p = copOf c1) && decide (q = copOf c2) && chk sc a l && chk sc b m && chk sc c r && !(lastMarks [p, q] [m, r])
    | _ => false
  | .isC ng a, x => match x with
    | .Compare l [p] [.Constant .none _ _] _ => decide (p = if ng then .IsNot else .Is) && chk sc a l
    | _ => false
  | .isB ng c a, x => match x with
    | .Compare l [p] [.Constant (.bool d) _ _] _ => decide (p = if ng then .IsNot else .Is) && decide (c = d) && chk sc a l
    | _ => false
  | .ite c a b, x => match x with
    | .IfExp t l r _ => chkTe sc c t && chk sc a l && chk sc b r
    | _ => false
  | .tup es, x => match x with
    | .Tuple xs _ _ => chks sc es xs
    | _ => false
  | .lst es, x => match x with
    | .List xs _ => chks sc es xs
    | _ => false
  | .dnew, x => match x with
    | .Dict [] [] _ => true
    | _ => false
  | .dic1 k v, x => match x with
    | .Dict [some (.Constant (.int i) _ _)] [.Constant (.int j) _ _] _ => decide (i = k) && decide (j = v)
    | _ => false
  | .rev a, x => match x with
    | .Subscript l (.Slice none none (some (.UnaryOp .USub (.Constant (.int i) _ _) _)) _) _ => decide (i = 1) && chk sc a l
    | _ => false
  | .revL a, x => match x with
    | .Subscript l (.Slice none none (some (.UnaryOp .USub (.Constant (.int i) _ _) _)) _) _ => decide (i = 1) && chk sc a l
    | _ => false
  | .lrep a b, x => match x with
    | .BinOp l p r _ => decide (p = .Mult) && chk sc a l && chk sc b r
    | _ => false
  | .ix a b, x => match x with
    | .Subscript l r _ => chk sc a l && chk sc b r && notSl r
    | _ => false
  | .sl a lo hi, x => match x with
    | .Subscript l (.Slice p q none _) _ => chk sc a l && chkO sc lo p && chkO sc hi q
    | _ => false
  | .prim p es, x => match x with
    | .Call (.Name f _) (y :: ys) [] _ => decide (f = pmName p) && noNm f sc && decide (f ∈ Bs) && chks sc es (y :: ys)
    | _ => false
  | .isi a ty, x => match x with
    | .Call (.Name f _) [y, .Name t _] [] _ => decide (f = "isinstance") && noNm f sc && decide (f ∈ Bs) && chk sc a y && notStar y && decide (t = Str.ofString ty) && noNm t sc && decide (t ∈ Bs) && tyOk ty
    | _ => false
  | .maxd a, x => match x with
    | .Call (.Name f _) [y] [⟨some k, .Constant .none _ _, _⟩] _ => decide (f = "max") && noNm f sc && decide (f ∈ Bs) && chk sc a y && notStar y && decide (k = "default")
    | _ => false
  | .maxe a b, x => match x with
    | .Call (.Name f _) [y] [⟨some k, z, _⟩] _ => decide (f = "max") && noNm f sc && decide (f ∈ Bs) && chk sc a y && notStar y && decide (k = "default") && chk sc b z
    | _ => false
  | .lrng a, x => match x with
    | .Call (.Name f _) [.Call (.Name g _) [y] [] _] [] _ => decide (f = "list") && noNm f sc && decide (f ∈ Bs) && decide (g = "range") && noNm g sc && decide (g ∈ Bs) && chk sc a y && notStar y
    | _ => false
  | .trng a, x => match x with
    | .Call (.Name f _) [.Call (.Name g _) [y] [] _] [] _ => decide (f = "tuple") && noNm f sc && decide (f ∈ Bs) && decide (g = "range") && noNm g sc && decide (g ∈ Bs) && chk sc a y && notStar y
    | _ => false
  | .trng2 a b, x => match x with
    | .Call (.Name f _) [.Call (.Name g _) [y, z] [] _] [] _ => decide (f = "tuple") && noNm f sc && decide (f ∈ Bs) && decide (g = "range") && noNm g sc && decide (g ∈ Bs) && chk sc a y && notStar y && chk sc b z && notStar z
    | _ => false
  | .call g es, x => match x with
    | .Call (.Name f _) (y :: ys) [] _ => decide (f = g) && noNm f sc && chks sc es (y :: ys)
    | _ => false
  | .callm g i es, x => match x with
    | .Call (.Name f _) (.Name v _ :: ys) [] _ => decide (f = g) && noNm f sc && decide (N[i]? = some v) && isVis sc v && okNm v && chks sc es ys
    | _ => false
  | .callf g a es, x => match x with
    | .Call (.Name f _) (y :: ys) [] _ => decide (f = g) && noNm f sc && notStar y && chk sc a y && chks sc es ys
    | _ => false
  | .dget i k, x => match x with
    | .Call (.Attribute (.Name v _) nm ap) [y] [] cp => decide (nm = "get") && decide (N[i]? = some v) && isVis sc v && okNm v && chk sc k y && notStar y && (ap.endLine == cp.line)
    | _ => false
  | .dgetd i k z, x => match x with
    | .Call (.Attribute (.Name v _) nm ap) [y, q] [] cp => decide (nm = "get") && decide (N[i]? = some v) && isVis sc v && okNm v && chk sc k y && notStar y && chk sc z q && notStar q && (ap.endLine == cp.line)
    | _ => false
  | .dpop i k, x => match x with
    | .Call (.Attribute (.Name v _) nm ap) [y] [] cp => decide (nm = "pop") && decide (N[i]? = some v) && isVis sc v && okNm v && chk sc k y && notStar y && (ap.endLine == cp.line)
    | _ => false
  | .ditems i, x => match x with
    | .Call (.Name f _) [.Call (.Attribute (.Name v _) nm ap) [] [] cp] [] _ => decide (f = "list") && noNm f sc && decide (f ∈ Bs) && decide (nm = "items") && decide (N[i]? = some v) && isVis sc v && okNm v && (ap.endLine == cp.line)
    | _ => false
  | .sset a, x => match x with
    | .Call (.Name f _) [.Call (.Name h _) [y] [] _] [] _ => decide (f = "sorted") && noNm f sc && decide (f ∈ Bs) && decide (h = "set") && noNm h sc && decide (h ∈ Bs) && chk sc a y && notStar y
    | _ => false
  | .mind a, x => match x with
    | .Call (.Name f _) [y] [⟨some k, .Constant .none _ _, _⟩] _ => decide (f = "min") && noNm f sc && decide (f ∈ Bs) && chk sc a y && notStar y && decide (k = "default")
    | _ => false
  | .meth m i es, x => match x with
    | .Call (.Attribute (.Name v _) nm ap) ys [] cp => decide (nm = mtName m) && decide (N[i]? = some v) && isVis sc v && okNm v && chks sc es ys && (ap.endLine == cp.line) && decide (ys.length = if m = .pop then 0 else 1)
    | _ => false
  | .comp vs tg it cd elt, x => match x with
    | .ListComp e [⟨t, i, ifs, 0⟩] s _ => chkI sc it t i && chkT false N (relS s sc) tg t && chkC (relS s sc) cd ifs && chk (relS s sc) elt e && blkC N sc s (vs.map fun v => (N.getD v (Str.ofString ""), v)) && decide (vs.Nodup) && (tgs tg).all (fun i => vs.contains i)
    | _ => false
  | .dcomp vs tg it cd k v, x => match x with
    | .DictComp e e2 [⟨t, i, ifs, 0⟩] s _ => chkI sc it t i && chkT false N (relS s sc) tg t && chkC (relS s sc) cd ifs && chk (relS s sc) k e && blkC N sc s (vs.map fun v => (N.getD v (Str.ofString ""), v)) && decide (vs.Nodup) && (tgs tg).all (fun i => vs.contains i) && chk (relS s sc) v e2
    | _ => false
  | .stuck, x => match x with
    | .ListComp .. => false
    | .SetComp .. => false
    | .DictComp .. => false
    | _ => true
def chks (sc : Scope) : Es → List Expr → Bool
  | .nil, [] => true
  | .cons e es, x :: xs => notStar x && chk sc e x && chks sc es xs
  | _, _ => false
def chkO (sc : Scope) : Es → Option Expr → Bool
  | .nil, none => true
  | .cons e .nil, some x => chk sc e x
  | _, _ => false
def chkTe (sc : Scope) : Te → Expr → Bool
  | .not a, x => match x with
    | .UnaryOp .Not l _ => chkTe sc a l
    | _ => false
  | .and a b, x => match x with
    | .BoolOp .And (l :: r :: rs) p => chkTe sc a l && (match rs with
      | [] => chkTe sc b r
      | q :: qs => chkTe sc b (.BoolOp .And (r :: q :: qs) p))
    | _ => false
  | .or a b, x => match x with
    | .BoolOp .Or (l :: r :: rs) p => chkTe sc a l && (match rs with
      | [] => chkTe sc b r
      | q :: qs => chkTe sc b (.BoolOp .Or (r :: q :: qs) p))
    | _ => false
  | .val e, x => chk sc e x && (plainT x || (match x with
    | .Compare .. => true
    | _ => false))
def chkC (sc : Scope) : Tes → List Expr → Bool
  | .nil, [] => true
  | .one t, [x] => chkTe sc t x
  | _, _ => false
def chkI (sc : Scope) : It → Expr → Expr → Bool
  | .seq e, _, x => chk sc e x && (match x with
    | .Set .. => false
    | _ => true)
  | .rng a, _, x => match x with
    | .Call (.Name f _) [y] [] _ => decide (f = "range") && noNm f sc && decide (f ∈ Bs) && chk sc a y && notStar y
    | _ => false
  | .rng2 a b, _, x => match x with
    | .Call (.Name f _) [y, z] [] _ => decide (f = "range") && noNm f sc && decide (f ∈ Bs) && chk sc a y && notStar y && chk sc b z && notStar z
    | _ => false
  | .enum e, t, x => match t, x with
    | .Tuple .., .Call (.Name f _) [y] [] _ => decide (f = "enumerate") && noNm f sc && decide (f ∈ Bs) && chk sc e y && notStar y
    | _, _ => false
  | .zip a b, t, x => match t, x with
    | .Tuple .., .Call (.Name f _) [y, z] [] _ => decide (f = "zip") && noNm f sc && decide (f ∈ Bs) && chk sc a y && notStar y && chk sc b z && notStar z
    | _, _ => false
end
def isLc : Expr → Bool
  | .ListComp .. => true
  | .SetComp .. => true
  | .DictComp .. => true
  | _ => false
/-- a comprehension on its name's own line, the name a local of the block -/
def swp (sc : Scope) (x : Str) (px : Pos) : Expr → Bool
  | .ListComp _ _ s p => decide (sc.names.lookup x = some .local) && px.line == p.line && !(s.names.any fun (n, k) => n == x && (k == .local || k == .cell))
  | .DictComp _ _ _ s p => decide (sc.names.lookup x = some .local) && px.line == p.line && !(s.names.any fun (n, k) => n == x && (k == .local || k == .cell))
  | _ => false
mutual
def chkS (sc : Scope) : S → Stmt → Bool
  | .asg i e, x => match x with
    | .Assign [.Name v pv] y p => decide (N[i]? = some v) && decide (sc.names.lookup v = some .local ∨ sc.names.lookup v = some .cell) && chk Cs Bs N sc e y && (!(isLc y) || decide (sc.names.lookup v = some .cell) || swp sc v pv y)
    | _ => false
  | .asgT t e, x => match x with
    | .Assign [.Tuple ts k pt] y p => chkT true N sc t (.Tuple ts k pt) && chk Cs Bs N sc e y && !(isLc y) && (match y with
      | .Tuple .. => false
      | _ => true)
    | _ => false
  | .par i j a b, x => match x with
    | .Assign [.Tuple [.Name u pu, .Name v pv] k pt] (.Tuple [y, z] k2 p2) p => decide (i ≠ j) && decide (N[i]? = some u) && decide (N[j]? = some v) && decide (sc.names.lookup u = some .local) && decide (sc.names.lookup v = some .local) && chk Cs Bs N sc a y && chk Cs Bs N sc b z && notStar y && notStar z &&
        (pu.line == pv.line) && !(u == v) && !([y, z].all (foldedForSure 8)) && !([y, z].all (constantsAlone 8))
    | _ => false
  | .parT i j a b, x => match x with
    | .Assign [.Tuple [.Name u pu, .Name v pv] k pt] (.Tuple [y, z] k2 p2) p => decide (i ≠ j) && decide (N[i]? = some u) && decide (N[j]? = some v) && decide (sc.names.lookup u = some .local ∨ sc.names.lookup u = some .cell) && decide (sc.names.lookup v = some .local ∨ sc.names.lookup v = some .cell) &&
        decide (sc.names.lookup u = some .cell ∨ sc.names.lookup v = some .cell) && chk Cs Bs N sc a y && chk Cs Bs N sc b z && notStar y && notStar z
    | _ => false
  | .setix i a e, x => match x with
    | .Assign [.Subscript (.Name v _) y _] z _ => decide (N[i]? = some v) && isVis sc v && okNm v && chk Cs Bs N sc a y && chk Cs Bs N sc e z && notSl y && !(isLc z)
    | _ => false
  | .aug i o e, x => match x with
    | .AugAssign (.Name v _) p y _ => decide (p = opOf o) && decide (N[i]? = some v) && decide (sc.names.lookup v = some .local ∨ sc.names.lookup v = some .cell) && chk Cs Bs N sc e y
    | _ => false
  | .expr e, x => match x with
    | .Expr y _ => chk Cs Bs N sc e y && !(isLc y)
    | _ => false
  | .ret e, x => match x with
    | .Return (some y) _ => chk Cs Bs N sc e y
    | _ => false
  | .retN, x => match x with
    | .Return none _ => true
    | _ => false
  | .ifs c a b, x => match x with
    | .If t y z _ => chkTe Cs Bs N sc c t && chkSs sc a y && chkSs sc b z
    | _ => false
  | .for_ t it body, x => match x with
    | .For tg i b [] _ => chkT true N sc t tg && chkI Cs Bs N sc it tg i && chkSs sc body b
    | _ => false
  | .while_ c body, x => match x with
    | .While t b [] _ => chkTe Cs Bs N sc c t && chkSs sc body b
    | _ => false
  | .brk, x => match x with
    | .Break _ => true
    | _ => false
  | .cont, x => match x with
    | .Continue _ => true
    | _ => false
  | .pass, x => match x with
    | .Pass _ => true
    | _ => false
  | .stuck, _ => true
def chkSs (sc : Scope) : Ss → List Stmt → Bool
  | .nil, [] => true
  | .cons s ss, x :: xs => chkS sc s x && chkSs sc ss xs
  | _, _ => false
end
end Ev
set_option Elab.async false
set_option linter.all false
set_option maxRecDepth 100000
set_option maxHeartbeats 4000000
/-! Ev, part 10: expressions. -/
namespace Ev
open PySem PySem.Spec PyProof.Rows L2

structure Good (G : Sig) (X : Cx) : Prop where
  calm : X.calm = true
  nd : X.N.Nodup
  un : X.A.units + 200 < cLine
  gd : X.A.guards = some []
  pass : PassesOwn (model X.prog X.w) X.A X.env X.xe
  fns : ∀ x F, G.fns x = some F → Own X x F
  csts : ∀ p ∈ G.csts, ∃ t, X.mg p.1 = some (.int p.2 t)
  blts : ∀ x ∈ G.blts, X.mg x = none

/-! ### readings -/
def tE (G : Sig) (K : PySem.W.Frag) (e : E) : TE := fun σ H Q => ∃ (B W : AS) (ρ : Rho) (τ : List Itm) (r : R) (ρ' : Rho), Wd K H B W σ ρ τ ∧ ev G e ρ = some (r, ρ') ∧
  ∀ v H' W', Stp H W H' W' → Wd K H' B W' σ ρ' ((v, r) :: τ) → Q v H'
def tEs (G : Sig) (K : PySem.W.Frag) (es : Es) : TA := fun σ H Q => ∃ (B W : AS) (ρ : Rho) (τ : List Itm) (rs : List R) (ρ' : Rho), Wd K H B W σ ρ τ ∧ evs G es ρ = some (rs, ρ') ∧
  ∀ vs H' W', Stp H W H' W' → vs.length = rs.length → Wd K H' B W' σ ρ' ((vs.zip rs).reverse ++ τ) → Q vs H'
def tT (G : Sig) (K : PySem.W.Frag) (t : Te) : TT := fun σ H Q => ∃ (B W : AS) (ρ : Rho) (τ : List Itm) (b : Bool) (ρ' : Rho), Wd K H B W σ ρ τ ∧ evT G t ρ = some (b, ρ') ∧
  ∀ H' W', Stp H W H' W' → Wd K H' B W' σ ρ' τ → Q b H'
def tC (G : Sig) (K : PySem.W.Frag) (t : Tes) : TT := fun σ H Q => ∃ (B W : AS) (ρ : Rho) (τ : List Itm) (b : Bool) (ρ' : Rho), Wd K H B W σ ρ τ ∧ evC G t ρ = some (b, ρ') ∧
  ∀ H' W', Stp H W H' W' → Wd K H' B W' σ ρ' τ → Q b H'

section
variable {X : Cx} {x : Expr} {t t' : TE}
theorem PE.imp (h : PE X x t) (i : ∀ σ H Q, t' σ H Q → t σ H Q) : PE X x t' := ⟨fun pins s σ H Q I q => h.run pins s σ H Q I (i σ H Q q)⟩
theorem PT.imp {t t' : TT} (h : PT X x t) (i : ∀ σ H Q, t' σ H Q → t σ H Q) : PT X x t' := ⟨fun pins s σ H Q I q => h.run pins s σ H Q I (i σ H Q q)⟩
theorem PA.imp {xs : List Expr} {t t' : TA} (h : PA X xs t) (i : ∀ σ H Q, t' σ H Q → t σ H Q) : PA X xs t' := ⟨fun pos pins s σ H Q I q => h.run pos pins s σ H Q I (i σ H Q q)⟩
end

/-! ### stars -/
theorem star1 {e : Expr} {es : List Expr} {env : Env} (h : notStar e = true) : starEach (e :: es) env = (false, eval e env) :: starEach es env := by
  cases e <;> first | rfl | cases h
def noStars (es : List Expr) : Bool := es.all notStar
theorem stars_all {env : Env} : ∀ {es : List Expr}, noStars es = true → starEach es env = es.map fun e => (false, eval e env)
  | [], _ => rfl
  | e :: es, h => by
    unfold noStars at h
    rw [List.all_cons, Bool.and_eq_true] at h
    rw [star1 h.1, stars_all (es := es) h.2]
    rfl
theorem back_any {pos : Pos} {env : Env} {es : List Expr} (h : noStars es = true) : (backTo pos (starEach es env)).any (·.1) = false := by
  rw [stars_all h]
  clear h
  induction es with
  | nil => rfl
  | cons e es ih => exact ih
theorem back_all {pos : Pos} {env : Env} {es : List Expr} (h : noStars es = true) : (backTo pos (starEach es env)).all (fun x => !x.1) = true := by
  rw [stars_all h]
  clear h
  induction es with
  | nil => rfl
  | cons e es ih => exact ih
theorem chks_stars {G : Sig} {N : List Str} {sc : Scope} : ∀ {es : Es} {xs : List Expr}, chks G.csts G.blts N sc es xs = true → noStars xs = true
  | .nil, [], _ => rfl
  | .nil, _ :: _, h => by simp [chks] at h
  | .cons _ _, [], h => by simp [chks] at h
  | .cons e es, x :: xs, h => by
    simp only [chks, Bool.and_eq_true] at h
    unfold noStars
    rw [List.all_cons, h.1.1, Bool.true_and]
    exact chks_stars (es := es) h.2

theorem inj2 {α β : Type} {a c : α} {b d : β} (h : some (a, b) = some (c, d)) : a = c ∧ b = d := by
  cases h
  exact ⟨rfl, rfl⟩
theorem resP {K : PySem.W.Frag} {H H' : Hp} {O : AS} {v : V} {d : D} (h : Rp K H' O v d) : Res K H H' O v false d := h
/-! ### the state through a row of values -/
section
variable {K : PySem.W.Frag} {H H' : Hp} {B W : AS} {σ : L2.St} {ρ : Rho} {τ : List Itm}
theorem hd_mem {x : Itm} : x ∈ x :: τ := List.mem_cons_self
theorem Wd.fin {v : V} {o : Bool} {d : D} {Q : VK} {W0 : AS} {H0 : Hp} {B : AS} {ρ : Rho} (w : Wd K H B W σ ρ τ) (s0 : Stp H0 W0 H W) (e : Same H H') (r : Res K H H' (AV B W) v o d)
    (q : ∀ v H' W', Stp H0 W0 H' W' → Wd K H' B W' σ ρ ((v, .val o d) :: τ) → Q v H') : Q v H' := by
  obtain ⟨W', s, w'⟩ := w.add e r
  exact q v H' W' (s0.trans s) w'
end

section
variable {G : Sig} {X : Cx} {l r m x y : Expr} {p : Pos} {a b c : E}

theorem visOf {sc : Scope} {x : Str} (h : isVis sc x = true) : Vis sc x := by
  unfold isVis at h
  split at h <;> first | exact .inl (by assumption) | exact .inr (.inl (by assumption)) | exact .inr (.inr (by assumption)) | cases h
theorem nmOf {x : Str} (h : okNm x = true) : (x == ("__debug__" : Str)) = false ∧ (x == ("__classdict__" : Str)) = false ∧ x ≠ "__name__" := by
  unfold okNm at h
  simp only [Bool.and_eq_true, Bool.not_eq_true', decide_eq_true_eq] at h
  exact ⟨h.1.1, h.1.2, h.2⟩
theorem glOf {X : Cx} {x : Str} (h : noNm x X.env.scope = true) : Gl X x ∧ (x == ("__debug__" : Str)) = false ∧ x ≠ "__name__" := by
  unfold noNm isGl at h
  simp only [Bool.and_eq_true, decide_eq_true_eq] at h
  exact ⟨h.1, (nmOf h.2).1, (nmOf h.2).2.2⟩

theorem k_var {i : Nat} {y : Str} (hN : X.N[i]? = some y) (hv : isVis X.env.scope y = true) (hn : okNm y = true) : PE X (.Name y p) (tE G X.K (.var i)) := by
  refine PE.imp (pe_var hN (visOf hv) (nmOf hn).1 (nmOf hn).2.1) fun σ H Q h => ?_
  obtain ⟨B, W, ρ, τ, r, ρ', w, e, q⟩ := h
  simp only [ev] at e
  split at e
  · rename_i d hl
    cases e
    obtain ⟨v, h1, h2⟩ := w.slot _ _ _ hl
    refine ⟨v, h1, q v H W .refl ?_⟩
    refine ⟨w.len, w.dis, w.bd, w.slot, fun z hz => ?_, w.ap, fun j d' v' h3 h4 z hz => ?_, .cons (fun _ _ d e z => by cases z) w.apS, w.wd⟩
    · rcases List.mem_cons.mp hz with z | z
      · subst z; exact h1
      · exact w.tmp _ z
    · rcases List.mem_cons.mp hz with z | z
      · subst z; intro e h; cases h
      · exact w.apT j d' v' h3 h4 _ z
  · rename_i d hl
    cases e
    obtain ⟨v, h1, h2⟩ := w.slot _ _ _ hl
    exact ⟨v, h1, w.fin .refl (Same.refl _) (resP h2) q⟩
  · cases e
theorem k_const {v : V} {d : D} {e : E} (h : PE X x (L2.tC v)) (he : ∀ ρ, ev G e ρ = some (.val false d, ρ)) (hr : ∀ H O, Rp X.K H O v d) : PE X x (tE G X.K e) := by
  refine PE.imp h fun σ H Q h => ?_
  obtain ⟨B, W, ρ, τ, r, ρ', w, e, q⟩ := h
  rw [he] at e
  cases e
  exact w.fin .refl (Same.refl _) (resP (hr _ _)) q
theorem k_op (g : Good G X) {o : O2} (ha : PE X l (tE G X.K a)) (hb : PE X r (tE G X.K b)) : PE X (.BinOp l (opOf o) r p) (tE G X.K (.op o a b)) := by
  refine PE.imp (pe_op (op2_ok (by have := g.un; omega) o) ha hb) fun σ H Q h => ?_
  obtain ⟨B, W, ρ, τ, r, ρ', w, e, q⟩ := h
  simp only [ev, Option.bind_eq_bind, Option.bind_eq_some_iff, Prod.exists] at e
  obtain ⟨ra, ρ1, e1, rb, ρ2, e2, da, e3, db, e4, o', d', e5, e6⟩ := e
  obtain ⟨rfl, rfl⟩ := inj2 e6
  refine ⟨B, W, ρ, τ, ra, ρ1, w, e1, fun v1 H1 W1 s1 w1 => ⟨B, W1, ρ1, _, rb, ρ2, w1, e2, fun v2 H2 W2 s2 w2 => ?_⟩⟩
  exact ⟨_, da, db, _, w2.rq (List.mem_cons_of_mem _ hd_mem) e3, w2.rq hd_mem e4, e5, fun v H' sm rs => w2.pop.pop.fin (s1.trans s2) sm rs q⟩
theorem k_neg (g : Good G X) (ha : PE X l (tE G X.K a)) : PE X (.UnaryOp .USub l p) (tE G X.K (.neg a)) := by
  refine PE.imp (pe_un un_neg ha) fun σ H Q h => ?_
  obtain ⟨B, W, ρ, τ, r, ρ', w, e, q⟩ := h
  simp only [ev, Option.bind_eq_bind, Option.bind_eq_some_iff, Prod.exists] at e
  obtain ⟨ra, ρ1, e1, da, e3, e4⟩ := e
  split at e4
  · rename_i i
    obtain ⟨rfl, rfl⟩ := inj2 e4
    refine ⟨B, W, ρ, τ, ra, ρ1, w, e1, fun v1 H1 W1 s1 w1 => ?_⟩
    have hr := w1.rq hd_mem e3
    cases hr
    exact ⟨i, rfl, w1.pop.fin s1 (Same.refl _) (resP (.int _)) q⟩
  · cases e4
theorem k_not (g : Good G X) (ha : PE X l (tE G X.K a)) : PE X (.UnaryOp .Not l p) (tE G X.K (.not a)) := by
  refine PE.imp (pe_notT ha) fun σ H Q h => ?_
  obtain ⟨B, W, ρ, τ, r, ρ', w, e, q⟩ := h
  simp only [ev, Option.bind_eq_bind, Option.bind_eq_some_iff, Prod.exists] at e
  obtain ⟨ra, ρ1, e1, da, e3, t, e4, e5⟩ := e
  obtain ⟨rfl, rfl⟩ := inj2 e5
  refine ⟨B, W, ρ, τ, ra, ρ1, w, e1, fun v1 H1 W1 s1 w1 => ?_⟩
  exact ⟨t, truth_tru (w1.rq hd_mem e3) e4, w1.pop.fin s1 (Same.refl _) (resP (.bl _)) q⟩
theorem truth_v {K : PySem.W.Frag} {H : Hp} {O : AS} {v : V} {d : D} {t : Bool} (h : Rp K H O v d) (e : truth d = some t) : TruV K v H t := truth_tru h.rq e
/-- a value that leaves the hand at once -/
theorem esc_fin {K : PySem.W.Frag} {H : Hp} {B W : AS} {σ : L2.St} {ρ ρ2 : Rho} {τ : List Itm} {v : V} {r : R} {d : D} (w : Wd K H B W σ ρ ((v, r) :: τ)) (e : escR ρ r = some (d, ρ2)) :
    ∃ W', Stp H W H W' ∧ Wd K H B W' σ ρ2 ((v, .val false d) :: τ) ∧ Rp K H (AV B W') v d := by
  obtain ⟨W', s, w'⟩ := w.esc e
  exact ⟨W', s, w', w'.tmp _ List.mem_cons_self⟩
theorem k_and (ha : PE X l (tE G X.K a)) {rs : List Expr} (hb : PE X (.BoolOp .And (r :: rs) p) (tE G X.K b)) : PE X (.BoolOp .And (l :: r :: rs) p) (tE G X.K (.and a b)) := by
  refine PE.imp (pe_andT ha hb) fun σ H Q h => ?_
  obtain ⟨B, W, ρ, τ, r, ρ', w, e, q⟩ := h
  simp only [ev, Option.bind_eq_bind, Option.bind_eq_some_iff, Prod.exists] at e
  obtain ⟨ra, ρ1, e1, da, ρ2, e2, t, e3, e4⟩ := e
  refine ⟨B, W, ρ, τ, ra, ρ1, w, e1, fun v1 H1 W1 s1 w1 => ?_⟩
  obtain ⟨W2, s2, w2, rp⟩ := esc_fin w1 e2
  refine ⟨t, truth_v rp e3, ?_⟩
  split at e4
  · rename_i ht
    rw [if_pos ht]
    exact ⟨B, W2, ρ2, τ, r, ρ', w2.pop, e4, fun v H' W' s w => q v H' W' ((s1.trans s2).trans s) w⟩
  · rename_i ht
    rw [if_neg ht]
    obtain ⟨rfl, rfl⟩ := inj2 e4
    exact q _ _ _ (s1.trans s2) w2
theorem k_or (ha : PE X l (tE G X.K a)) {rs : List Expr} (hb : PE X (.BoolOp .Or (r :: rs) p) (tE G X.K b)) : PE X (.BoolOp .Or (l :: r :: rs) p) (tE G X.K (.or a b)) := by
  refine PE.imp (pe_orT ha hb) fun σ H Q h => ?_
  obtain ⟨B, W, ρ, τ, r, ρ', w, e, q⟩ := h
  simp only [ev, Option.bind_eq_bind, Option.bind_eq_some_iff, Prod.exists] at e
  obtain ⟨ra, ρ1, e1, da, ρ2, e2, t, e3, e4⟩ := e
  refine ⟨B, W, ρ, τ, ra, ρ1, w, e1, fun v1 H1 W1 s1 w1 => ?_⟩
  obtain ⟨W2, s2, w2, rp⟩ := esc_fin w1 e2
  refine ⟨t, truth_v rp e3, ?_⟩
  split at e4
  · rename_i ht
    rw [if_pos ht]
    obtain ⟨rfl, rfl⟩ := inj2 e4
    exact q _ _ _ (s1.trans s2) w2
  · rename_i ht
    rw [if_neg ht]
    exact ⟨B, W2, ρ2, τ, r, ρ', w2.pop, e4, fun v H' W' s w => q v H' W' ((s1.trans s2).trans s) w⟩
theorem k_cmp (g : Good G X) {c : C2} (ha : PE X l (tE G X.K a)) (hb : PE X r (tE G X.K b)) (hm : behindInMarks (copOf c) r = false) : PE X (.Compare l [copOf c] [r] p) (tE G X.K (.cmp c a b)) := by
  refine PE.imp (pe_cmpR (cmp2_ok (by have := g.un; omega) c) ha hb hm) fun σ H Q h => ?_
  obtain ⟨B, W, ρ, τ, r, ρ', w, e, q⟩ := h
  simp only [ev, Option.bind_eq_bind, Option.bind_eq_some_iff, Prod.exists] at e
  obtain ⟨ra, ρ1, e1, rb, ρ2, e2, da, e3, db, e4, t, e5, e6⟩ := e
  obtain ⟨rfl, rfl⟩ := inj2 e6
  refine ⟨B, W, ρ, τ, ra, ρ1, w, e1, fun v1 H1 W1 s1 w1 => ⟨B, W1, ρ1, _, rb, ρ2, w1, e2, fun v2 H2 W2 s2 w2 => ?_⟩⟩
  exact ⟨_, da, db, _, w2.rq (List.mem_cons_of_mem _ hd_mem) e3, w2.rq hd_mem e4, by unfold cmpR; rw [e5]; rfl, fun v H' sm rs => w2.pop.pop.fin (s1.trans s2) sm rs q⟩
theorem k_chain (g : Good G X) {c1 c2 : C2} (ha : PE X l (tE G X.K a)) (hb : PE X m (tE G X.K b)) (hc : PE X r (tE G X.K c)) (hm : lastMarks [copOf c1, copOf c2] [m, r] = false) :
    PE X (.Compare l [copOf c1, copOf c2] [m, r] p) (tE G X.K (.chain c1 c2 a b c)) := by
  refine PE.imp (pe_chain (cmp2_ok (by have := g.un; omega) c1) (cmp2_ok (by have := g.un; omega) c2) ha hb hc hm) fun σ H Q h => ?_
  obtain ⟨B, W, ρ, τ, r, ρ', w, e, q⟩ := h
  simp only [ev, Option.bind_eq_bind, Option.bind_eq_some_iff, Prod.exists] at e
  obtain ⟨ra, ρ1, e1, rb, ρ2, e2, da, e3, db, e4, t, e5, e6⟩ := e
  refine ⟨B, W, ρ, τ, ra, ρ1, w, e1, fun v1 H1 W1 s1 w1 => ⟨B, W1, ρ1, _, rb, ρ2, w1, e2, fun v2 H2 W2 s2 w2 => ?_⟩⟩
  refine ⟨_, da, db, _, w2.rq (List.mem_cons_of_mem _ hd_mem) e3, w2.rq hd_mem e4, by unfold cmpR; rw [e5]; rfl, fun v H' sm rs => ?_⟩
  have rs : Rp X.K H' (AV B W2) v (.bool t) := rs
  cases rs
  refine ⟨t, rfl, ?_⟩
  split at e6
  · rename_i ht
    rw [if_pos ht]
    simp only [Option.bind_eq_some_iff, Prod.exists] at e6
    obtain ⟨rc, ρ3, e7, db', e8, dc, e9, t2, e10, e11⟩ := e6
    obtain ⟨rfl, rfl⟩ := inj2 e11
    refine ⟨B, W2, ρ2, _, rc, ρ3, w2.grow sm, e7, fun v3 H3 W3 s3 w3 => ?_⟩
    exact ⟨_, db', dc, _, w3.rq (List.mem_cons_of_mem _ hd_mem) e8, w3.rq hd_mem e9, by unfold cmpR; rw [e10]; rfl, fun v H' sm' rs => w3.pop.pop.pop.fin (((s1.trans s2).trans (.ofSame sm)).trans s3) sm' rs q⟩
  · rename_i ht
    rw [if_neg ht]
    obtain ⟨rfl, rfl⟩ := inj2 e6
    exact (w2.grow sm).pop.pop.fin ((s1.trans s2).trans (.ofSame sm)) (Same.refl _) (resP (.bl _)) q
theorem k_ite {t : Te} {z : Expr} (ht : PT X z (tT G X.K t)) (ha : PE X l (tE G X.K a)) (hb : PE X r (tE G X.K b)) : PE X (.IfExp z l r p) (tE G X.K (.ite t a b)) := by
  refine PE.imp (pe_ifExp ht ha hb) fun σ H Q h => ?_
  obtain ⟨B, W, ρ, τ, r, ρ', w, e, q⟩ := h
  simp only [ev, Option.bind_eq_bind, Option.bind_eq_some_iff, Prod.exists] at e
  obtain ⟨k, ρ1, e1, e2⟩ := e
  refine ⟨B, W, ρ, τ, k, ρ1, w, e1, fun H1 W1 s1 w1 => ?_⟩
  split at e2
  · rename_i hk
    rw [if_pos hk]
    exact ⟨B, W1, ρ1, τ, r, ρ', w1, e2, fun v H' W' s w => q v H' W' (s1.trans s) w⟩
  · rename_i hk
    rw [if_neg hk]
    exact ⟨B, W1, ρ1, τ, r, ρ', w1, e2, fun v H' W' s w => q v H' W' (s1.trans s) w⟩
theorem k_ix (g : Good G X) (ha : PE X l (tE G X.K a)) (hb : PE X r (tE G X.K b)) (hs : notSl r = true) : PE X (.Subscript l r p) (tE G X.K (.ix a b)) := by
  have pl : PlainIx r := fun o i => by
    cases r <;> first | rfl | cases hs
  refine PE.imp (pe_ix (index2_ok (by have := g.un; omega)) ha hb pl) fun σ H Q h => ?_
  obtain ⟨B, W, ρ, τ, r, ρ', w, e, q⟩ := h
  simp only [ev, Option.bind_eq_bind, Option.bind_eq_some_iff, Prod.exists] at e
  obtain ⟨ra, ρ1, e1, rb, ρ2, e2, da, e3, db, e4, d, e5, e6⟩ := e
  obtain ⟨rfl, rfl⟩ := inj2 e6
  refine ⟨B, W, ρ, τ, ra, ρ1, w, e1, fun v1 H1 W1 s1 w1 => ⟨B, W1, ρ1, _, rb, ρ2, w1, e2, fun v2 H2 W2 s2 w2 => ?_⟩⟩
  exact ⟨_, da, db, _, w2.rq (List.mem_cons_of_mem _ hd_mem) e3, w2.rq hd_mem e4, by simp only [e5, Option.map_some]; rfl, fun v H' sm rs => w2.pop.pop.fin (s1.trans s2) sm rs q⟩
end
end Ev
set_option Elab.async false
set_option linter.all false
set_option maxRecDepth 100000
set_option maxHeartbeats 4000000
/-! Ev, part 11: rows of expressions, displays, calls. -/
namespace Ev
open PySem PySem.Spec PyProof.Rows L2

section
variable {K : PySem.W.Frag} {H H' : Hp} {B W : AS} {σ : L2.St}
theorem perm_mid {α : Type} (a : α) (l t : List α) : (l ++ (a :: t)).Perm (a :: (l ++ t)) := List.perm_middle
theorem zip_rev {v : V} {r : R} {vs : List V} {rs : List R} {τ : List Itm} : (((v :: vs).zip (r :: rs)).reverse ++ τ) = (vs.zip rs).reverse ++ ((v, r) :: τ) := by
  simp [List.zip_cons_cons]
theorem Wd.escs : ∀ (vs : List V) (rs : List R) (ds : List D) (ρ ρ2 : Rho) (W : AS) (τ : List Itm), vs.length = rs.length → Wd K H B W σ ρ ((vs.zip rs).reverse ++ τ) → escRs rs ρ = some (ds, ρ2) →
    ∃ W', Stp H W H W' ∧ Wd K H B W' σ ρ2 ((vs.zip (ds.map (R.val false))).reverse ++ τ) ∧ ds.length = vs.length
  | [], [], ds, ρ, ρ2, W, τ, _, w, e => by
    simp only [escRs, Option.some.injEq, Prod.mk.injEq] at e
    obtain ⟨rfl, rfl⟩ := e
    exact ⟨W, .refl, w, rfl⟩
  | [], _ :: _, _, _, _, _, _, h, _, _ => by simp at h
  | _ :: _, [], _, _, _, _, _, h, _, _ => by simp at h
  | v :: vs, r :: rs, ds, ρ, ρ2, W, τ, h, w, e => by
    simp only [escRs] at e
    cases q : escR ρ r with
    | none => rw [q] at e; cases e
    | some p =>
      obtain ⟨d, ρ1⟩ := p
      rw [q] at e
      cases q2 : escRs rs ρ1 with
      | none => simp only [q2] at e; cases e
      | some p2 =>
        obtain ⟨ds', ρ3⟩ := p2
        simp only [q2, Option.some.injEq, Prod.mk.injEq] at e
        obtain ⟨rfl, rfl⟩ := e
        rw [zip_rev] at w
        obtain ⟨W1, s1, w1⟩ := (w.perm (perm_mid _ _ _)).esc q
        obtain ⟨W2, s2, w2, hl⟩ := Wd.escs vs rs ds' ρ1 ρ3 W1 ((v, .val false d) :: τ) (by simpa using h) (w1.perm (perm_mid _ _ _).symm) q2
        refine ⟨W2, s1.trans s2, ?_, by simp [hl]⟩
        rw [List.map_cons, zip_rev]
        exact w2
theorem Wd.rps {ρ : Rho} {τ : List Itm} (w : Wd K H B W σ ρ τ) : ∀ (vs : List V) (ds : List D), ds.length = vs.length → (∀ x ∈ vs.zip (ds.map (R.val false)), x ∈ τ) → Rps K H (AV B W) vs ds
  | [], [], _, _ => .nil
  | [], _ :: _, h, _ => by simp at h
  | _ :: _, [], h, _ => by simp at h
  | v :: vs, d :: ds, h, m => by
    have h1 := w.tmp _ (m (v, .val false d) (by simp))
    exact .cons h1 (Wd.rps w vs ds (by simpa using h) fun x hx => m x (by simp only [List.map_cons, List.zip_cons_cons]; exact List.mem_cons_of_mem _ hx))
theorem Wd.rps' {ρ : Rho} {τ : List Itm} {vs : List V} {ds : List D} (w : Wd K H B W σ ρ ((vs.zip (ds.map (R.val false))).reverse ++ τ)) (h : ds.length = vs.length) : Rps K H (AV B W) vs ds ∧ Wd K H B W σ ρ τ :=
  ⟨w.rps vs ds h fun x hx => List.mem_append_left _ (List.mem_reverse.mpr hx), w.sub (List.sublist_append_right ..)⟩
/-- values that are read -/
theorem Wd.rqs {ρ : Rho} {τ : List Itm} (w : Wd K H B W σ ρ τ) : ∀ (vs : List V) (rs : List R) (ds : List D), vs.length = rs.length → (∀ x ∈ vs.zip rs, x ∈ τ) → rdRs ρ rs = some ds → Paired (fun x d => Rq K H (AV B W) x d) vs ds
  | [], [], ds, _, _, e => by
    simp only [rdRs, Option.some.injEq] at e
    subst e
    exact .nil
  | [], _ :: _, _, h, _, _ => by simp at h
  | _ :: _, [], _, h, _, _ => by simp at h
  | v :: vs, r :: rs, ds, h, m, e => by
    simp only [rdRs] at e
    cases q : rdR ρ r with
    | none => rw [q] at e; cases e
    | some d =>
      rw [q] at e
      cases q2 : rdRs ρ rs with
      | none => rw [q2] at e; cases e
      | some ds' =>
        rw [q2] at e
        cases e
        exact .cons (w.rq (m (v, r) (by simp)) q) (Wd.rqs w vs rs ds' (by simpa using h) (fun x hx => m x (by simp only [List.zip_cons_cons]; exact List.mem_cons_of_mem _ hx)) q2)
theorem Wd.rqs' {ρ : Rho} {τ : List Itm} {vs : List V} {rs : List R} {ds : List D} (w : Wd K H B W σ ρ ((vs.zip rs).reverse ++ τ)) (h : vs.length = rs.length) (e : rdRs ρ rs = some ds) : Paired (fun x d => Rq K H (AV B W) x d) vs ds ∧ Wd K H B W σ ρ τ :=
  ⟨w.rqs vs rs ds h (fun x hx => List.mem_append_left _ (List.mem_reverse.mpr hx)) e, w.sub (List.sublist_append_right ..)⟩
end

section
variable {G : Sig} {X : Cx} {l r m x y : Expr} {xs : List Expr} {p : Pos} {a b c : E} {es : Es}
theorem j_nil : PA X [] (tEs G X.K .nil) := by
  refine PA.imp pa_nil fun σ H Q h => ?_
  obtain ⟨B, W, ρ, τ, rs, ρ', w, e, q⟩ := h
  simp only [evs, Option.some.injEq, Prod.mk.injEq] at e
  obtain ⟨rfl, rfl⟩ := e
  exact q [] H W .refl rfl w
theorem j_cons (ha : PE X x (tE G X.K a)) (hs : PA X xs (tEs G X.K es)) (n : notStar x = true) : PA X (x :: xs) (tEs G X.K (.cons a es)) := by
  refine PA.imp (pa_cons ha hs (star1 n)) fun σ H Q h => ?_
  obtain ⟨B, W, ρ, τ, rs, ρ', w, e, q⟩ := h
  simp only [evs, Option.bind_eq_bind, Option.bind_eq_some_iff, Prod.exists] at e
  obtain ⟨r, ρ1, e1, rs', ρ2, e2, e3⟩ := e
  obtain ⟨rfl, rfl⟩ := inj2 e3
  refine ⟨B, W, ρ, τ, r, ρ1, w, e1, fun v1 H1 W1 s1 w1 => ⟨B, W1, ρ1, _, rs', ρ2, w1, e2, fun vs H2 W2 s2 hl w2 => ?_⟩⟩
  exact q (v1 :: vs) H2 W2 (s1.trans s2) (by simp [hl]) (by rw [zip_rev]; exact w2)
theorem k_tup {k : Nat} (hs : PA X xs (tEs G X.K es)) : PE X (.Tuple xs k p) (tE G X.K (.tup es)) := by
  refine PE.imp (pe_tup hs) fun σ H Q h => ?_
  obtain ⟨B, W, ρ, τ, r, ρ', w, e, q⟩ := h
  simp only [ev, Option.bind_eq_bind, Option.bind_eq_some_iff, Prod.exists] at e
  obtain ⟨rs, ρ1, e1, ds, ρ2, e2, e3⟩ := e
  split at e3
  · rename_i hf
    obtain ⟨rfl, rfl⟩ := inj2 e3
    refine ⟨B, W, ρ, τ, rs, ρ1, w, e1, fun vs H1 W1 s1 hl w1 => ?_⟩
    obtain ⟨W2, s2, w2, hd⟩ := Wd.escs vs rs ds ρ1 ρ2 W1 τ hl w1 e2
    obtain ⟨rp, w3⟩ := w2.rps' hd
    exact ⟨by rw [← hd]; exact fits_le hf, fun p n => w3.fin (s1.trans s2) (same_up n) (resP (rp_tup n rp)) q⟩
  · cases e3
theorem k_lst (hs : PA X xs (tEs G X.K es)) : PE X (.List xs p) (tE G X.K (.lst es)) := by
  refine PE.imp (pe_lst hs) fun σ H Q h => ?_
  obtain ⟨B, W, ρ, τ, r, ρ', w, e, q⟩ := h
  simp only [ev, Option.bind_eq_bind, Option.bind_eq_some_iff, Prod.exists] at e
  obtain ⟨rs, ρ1, e1, ds, ρ2, e2, e3⟩ := e
  split at e3
  · rename_i hf
    obtain ⟨rfl, rfl⟩ := inj2 e3
    refine ⟨B, W, ρ, τ, rs, ρ1, w, e1, fun vs H1 W1 s1 hl w1 => ?_⟩
    obtain ⟨W2, s2, w2, hd⟩ := Wd.escs vs rs ds ρ1 ρ2 W1 τ hl w1 e2
    obtain ⟨rp, w3⟩ := w2.rps' hd
    exact ⟨by rw [← hd]; exact fits_le hf, fun p n => w3.fin (s1.trans s2) (same_up n) (res_lst n rp) q⟩
  · cases e3
theorem k_dnew : PE X (.Dict [] [] p) (tE G X.K .dnew) := by
  refine PE.imp pe_dnewK fun σ H Q h => ?_
  obtain ⟨B, W, ρ, τ, r, ρ', w, e, q⟩ := h
  simp only [ev, Option.some.injEq, Prod.mk.injEq] at e
  obtain ⟨rfl, rfl⟩ := e
  exact fun d n => w.fin .refl (same_up n) (show Res X.K H _ (AV B W) (.ref d) true (.dict []) from ⟨d, rfl, n, [], upd_same, .nil⟩) q
theorem k_dic1 {k v : Int} {i1 i2 : Nat} {p1 p2 : Pos} : PE X (.Dict [some (.Constant (.int k) i1 p1)] [.Constant (.int v) i2 p2] p) (tE G X.K (.dic1 k v)) := by
  refine PE.imp (pe_disp (pps_cons pe_int pe_int pps_nil) rfl rfl (by simp) (by simp)) fun σ H Q h => ?_
  obtain ⟨B, W, ρ, τ, r, ρ', w, e, q⟩ := h
  simp only [ev, Option.some.injEq, Prod.mk.injEq] at e
  obtain ⟨rfl, rfl⟩ := e
  refine fun d n => ⟨upd_same, [(Sum.inl k, .int v)], rfl, by simp, ?_⟩
  rw [upd_upd]
  exact w.fin .refl (same_up n) (show Res X.K H _ (AV B W) (.ref d) true (.dict [(.int k, .int v)]) from ⟨d, rfl, n, [(Sum.inl k, .int v)], upd_same, .cons (.int k) (.int v) .nil⟩) q
theorem k_rev {i1 : Nat} {p1 p2 p3 : Pos} (ha : PE X l (tE G X.K a)) : PE X (.Subscript l (.Slice none none (some (.UnaryOp .USub (.Constant (.int 1) i1 p1) p2)) p3) p) (tE G X.K (.rev a)) := by
  refine PE.imp (pe_rev ha) fun σ H Q h => ?_
  obtain ⟨B, W, ρ, τ, r, ρ', w, e, q⟩ := h
  simp only [ev, Option.bind_eq_bind, Option.bind_eq_some_iff, Prod.exists] at e
  obtain ⟨ra, ρ1, e1, da, e3, e4⟩ := e
  split at e4
  · rename_i xs
    obtain ⟨rfl, rfl⟩ := inj2 e4
    refine ⟨B, W, ρ, τ, ra, ρ1, w, e1, fun v1 H1 W1 s1 w1 => ?_⟩
    have hr : Rp X.K H1 _ v1 (.tuple xs) := w1.rq hd_mem e3
    cases hr with
    | tup sq rs => exact ⟨_, _, rfl, sq, fun p n => w1.pop.fin s1 (same_up n) (resP (rp_tup n rs.rev)) q⟩
  · cases e4
theorem k_revL {i1 : Nat} {p1 p2 p3 : Pos} (ha : PE X l (tE G X.K a)) : PE X (.Subscript l (.Slice none none (some (.UnaryOp .USub (.Constant (.int 1) i1 p1) p2)) p3) p) (tE G X.K (.revL a)) := by
  refine PE.imp (pe_revL ha) fun σ H Q h => ?_
  obtain ⟨B, W, ρ, τ, r, ρ', w, e, q⟩ := h
  simp only [ev, Option.bind_eq_bind, Option.bind_eq_some_iff, Prod.exists] at e
  obtain ⟨ra, ρ1, e1, da, e3, e4⟩ := e
  split at e4
  · rename_i xs
    obtain ⟨rfl, rfl⟩ := inj2 e4
    refine ⟨B, W, ρ, τ, ra, ρ1, w, e1, fun v1 H1 W1 s1 w1 => ?_⟩
    obtain ⟨a, vs, rfl, sq, rs⟩ := rq_sq (w1.rq hd_mem e3)
    exact ⟨_, _, rfl, sq, fun p n => w1.pop.fin s1 (same_up n) (res_lst n rs.rev) q⟩
  · cases e4
theorem k_lrep (g : Good G X) (ha : PE X l (tE G X.K a)) (hb : PE X r (tE G X.K b)) : PE X (.BinOp l .Mult r p) (tE G X.K (.lrep a b)) := by
  refine PE.imp (pe_op op_rep ha hb) fun σ H Q h => ?_
  obtain ⟨B, W, ρ, τ, r, ρ', w, e, q⟩ := h
  simp only [ev, Option.bind_eq_bind, Option.bind_eq_some_iff, Prod.exists] at e
  obtain ⟨ra, ρ1, e1, rb, ρ2, e2, db, e4, e5⟩ := e
  split at e5
  · rename_i xs k
    split at e5
    · rename_i hf
      obtain ⟨rfl, rfl⟩ := inj2 e5
      refine ⟨B, W, ρ, τ, _, ρ1, w, e1, fun v1 H1 W1 s1 w1 => ⟨B, W1, ρ1, _, rb, ρ2, w1, e2, fun v2 H2 W2 s2 w2 => ?_⟩⟩
      have hk := w2.rq hd_mem e4
      cases hk
      obtain ⟨p, ep, wp, vs, hp, rs⟩ : ItV X.K H2 B W2 v1 true (.list xs) := w2.tmp _ (List.mem_cons_of_mem _ hd_mem)
      subst ep
      have hz : vs.length * k.toNat ≤ sizeLine := by
        have a1 : vs.length * k.toNat ≤ 1000 * 1000 := Nat.mul_le_mul (by rw [rs.len]; exact hf.1) (by omega)
        rw [sizeLine_eq]; omega
      exact ⟨p, k, vs, rfl, rfl, hp, by omega, by omega, hz, fun z n => w2.pop.pop.fin (s1.trans s2) (same_up n) (res_lst n (rs.rep _)) q⟩
    · cases e5
  · cases e5
theorem k_prim (g : Good G X) {pm : Pm} (hs : PA X (y :: xs) (tEs G X.K es)) (st : noStars (y :: xs) = true) (hn : noNm (pmName pm) X.env.scope = true) (hb : pmName pm ∈ G.blts) : PE X (.Call (.Name (pmName pm) p) (y :: xs) [] p') (tE G X.K (.prim pm es)) := by
  obtain ⟨gl, n1, n2⟩ := glOf hn
  have hm := g.blts _ hb
  have st2 : notStar y = true ∧ noStars xs = true := by
    unfold noStars at st ⊢
    rw [List.all_cons, Bool.and_eq_true] at st
    exact st
  have base : PE X (.Call (.Name (pmName pm) p) (y :: xs) [] p') (tCB (rDn X.K (prim pm)) (tEs G X.K es)) := by
    have ok := prim_ok g.calm (by have := g.un; omega) g.gd pm
    have bt := pm_boot pm
    cases hv : pmVal pm with
    | builtin id =>
      rw [hv] at ok bt
      exact pe_callB ok gl hm bt hs n2 n1 (star1 st2.1) (back_any st2.2)
    | type id =>
      rw [hv] at ok bt
      exact pe_callTy ok gl hm bt hs n2 n1 (star1 st2.1) (back_any st2.2)
    | _ => cases pm <;> cases hv
  refine PE.imp base fun σ H Q h => ?_
  obtain ⟨B, W, ρ, τ, r, ρ', w, e, q⟩ := h
  simp only [ev, Option.bind_eq_bind, Option.bind_eq_some_iff, Prod.exists] at e
  obtain ⟨rs, ρ1, e1, ds, e2, o, d, e3, e4⟩ := e
  obtain ⟨rfl, rfl⟩ := inj2 e4
  refine ⟨B, W, ρ, τ, rs, ρ1, w, e1, fun vs H1 W1 s1 hl w1 => ?_⟩
  obtain ⟨rq, w2⟩ := w1.rqs' hl e2
  exact ⟨_, ds, _, rq, e3, fun v H' sm rs => w2.fin s1 sm rs q⟩
def tPt (G : Sig) (K : PySem.W.Frag) (es : Es) : TO := fun σ H Q => ∃ (B W : AS) (ρ : Rho) (τ : List Itm) (rs : List R) (ρ' : Rho) (ds : List D) (i : Option Int), Wd K H B W σ ρ τ ∧ evs G es ρ = some (rs, ρ') ∧ rdRs ρ' rs = some ds ∧ part ds = some i ∧
  ∀ H' W', Stp H W H' W' → Wd K H' B W' σ ρ' τ → Q i H'
theorem PO.imp {o : Option Expr} {t t' : TO} (h : PO X o t) (i : ∀ σ H Q, t' σ H Q → t σ H Q) : PO X o t' := ⟨fun pins s σ H Q I q => h.run pins s σ H Q I (i σ H Q q)⟩
theorem j_none : PO X none (tPt G X.K .nil) := by
  refine PO.imp po_none fun σ H Q h => ?_
  obtain ⟨B, W, ρ, τ, rs, ρ', ds, i, w, e, e2, e3, q⟩ := h
  simp only [evs, Option.some.injEq, Prod.mk.injEq] at e
  obtain ⟨rfl, rfl⟩ := e
  simp only [rdRs, Option.some.injEq] at e2
  subst e2
  simp only [part, Option.some.injEq] at e3
  subst e3
  exact q H W .refl w
theorem j_some (hl : PE X l (tE G X.K a)) : PO X (some l) (tPt G X.K (.cons a .nil)) := by
  refine PO.imp (po_some hl) fun σ H Q h => ?_
  obtain ⟨B, W, ρ, τ, rs, ρ', ds, i, w, e, e2, e3, q⟩ := h
  simp only [evs, Option.bind_eq_bind, Option.bind_eq_some_iff, Prod.exists] at e
  obtain ⟨r, ρ1, e1, rs', ρ2, e4, e5⟩ := e
  obtain ⟨rfl, rfl⟩ := inj2 e4
  obtain ⟨rfl, rfl⟩ := inj2 e5
  refine ⟨B, W, ρ, τ, r, _, w, e1, fun v H1 W1 s1 w1 => ?_⟩
  simp only [rdRs] at e2
  cases hr : rdR ρ1 r with
  | none => rw [hr] at e2; cases e2
  | some d =>
    rw [hr] at e2
    simp only [Option.some.injEq] at e2
    subst e2
    cases d <;> simp only [part, reduceCtorEq, Option.some.injEq] at e3
    subst e3
    have h := w1.rq hd_mem hr
    cases h
    exact ⟨_, rfl, q H1 W1 s1 w1.pop⟩
theorem k_sl {lo hi : Es} {o1 o2 : Option Expr} {p2 : Pos} (ha : PE X l (tE G X.K a)) (h1 : PO X o1 (tPt G X.K lo)) (h2 : PO X o2 (tPt G X.K hi)) : PE X (.Subscript l (.Slice o1 o2 none p2) p) (tE G X.K (.sl a lo hi)) := by
  refine PE.imp (pe_slice slice2_ok ha h1 h2) fun σ H Q h => ?_
  obtain ⟨B, W, ρ, τ, r, ρ', w, e, q⟩ := h
  simp only [ev, Option.bind_eq_bind, Option.bind_eq_some_iff, Prod.exists] at e
  obtain ⟨ra, ρ1, e1, rl, ρ2, e2, dl, e3, i, e4, rh, ρ3, e5, dh, e6, j, e7, da, e8, o, d, e9, e10⟩ := e
  obtain ⟨rfl, rfl⟩ := inj2 e10
  refine ⟨B, W, ρ, τ, ra, ρ1, w, e1, fun v1 H1 W1 s1 w1 => ⟨B, W1, ρ1, _, rl, ρ2, dl, i, w1, e2, e3, e4, fun H2 W2 s2 w2 => ⟨B, W2, ρ2, _, rh, ρ3, dh, j, w2, e5, e6, e7, fun H3 W3 s3 w3 => ?_⟩⟩⟩
  exact ⟨_, da, _, w3.rq hd_mem e8, e9, fun v H' sm rs => w3.pop.fin ((s1.trans s2).trans s3) sm rs q⟩
theorem k_isi (g : Good G X) {ty : String} {p1 p2 : Pos} (ha : PE X y (tE G X.K a)) (st : notStar y = true) (hn : noNm "isinstance" X.env.scope = true) (hb : (Str.ofString "isinstance") ∈ G.blts) (tn : noNm (Str.ofString ty) X.env.scope = true) (tb : Str.ofString ty ∈ G.blts) (tk : tyOk ty = true) :
    PE X (.Call (.Name "isinstance" p1) [y, .Name (Str.ofString ty) p2] [] p) (tE G X.K (.isi a ty)) := by
  obtain ⟨gl, n1, n2⟩ := glOf hn
  obtain ⟨gl2, m1, m2⟩ := glOf tn
  have bt : bootBuiltins (Str.ofString ty) = some (.type ty) := by
    simp only [tyOk, Bool.or_eq_true, beq_iff_eq] at tk
    rcases tk with ((((h | h) | h) | h) | h) | h <;> subst h <;> decide +kernel
  have ht : PE X (.Name (Str.ofString ty) p2) (L2.tC (.ty ty)) := pe_bltn gl2 (g.blts _ tb) bt rfl m2 m1
  refine PE.imp (pe_callB call_isi gl (g.blts _ hb) boot_isinstance (pa_cons ha (pa_cons ht pa_nil) (star1 st)) n2 n1 (star1 st) rfl) fun σ H Q h => ?_
  obtain ⟨B, W, ρ, τ, r, ρ', w, e, q⟩ := h
  simp only [ev, Option.bind_eq_bind, Option.bind_eq_some_iff, Prod.exists] at e
  obtain ⟨ra, ρ1, e1, da, e3, e4⟩ := e
  obtain ⟨rfl, rfl⟩ := inj2 e4
  refine ⟨B, W, ρ, τ, ra, ρ1, w, e1, fun v1 H1 W1 s1 w1 => ?_⟩
  exact ⟨v1, .ty ty, _, _, isiD da ty, rfl, .ty ty, tyx_of (w1.rq hd_mem e3), kit_is da tk, w1.pop.fin s1 (Same.refl _) (resP (.bl _)) q⟩
theorem k_maxd (g : Good G X) {p1 kp kp2 : Pos} {k0 : Nat} (ha : PE X y (tE G X.K a)) (st : notStar y = true) (hn : noNm "max" X.env.scope = true) (hb : (Str.ofString "max") ∈ G.blts) :
    PE X (.Call (.Name "max" p1) [y] [⟨some "default", .Constant .none k0 kp, kp2⟩] p) (tE G X.K (.maxd a)) := by
  obtain ⟨gl, n1, n2⟩ := glOf hn
  refine PE.imp (pe_callBK (maxd_ok g.calm) gl (g.blts _ hb) PyProof.Rows.boot_max (pa_cons ha pa_nil (star1 st)) (pk_cons pe_non pk_nil) n2 n1 (by rw [star1 st]; rfl) (by rw [star1 st]; rfl) rfl rfl rfl) fun σ H Q h => ?_
  obtain ⟨B, W, ρ, τ, r, ρ', w, e, q⟩ := h
  simp only [ev, Option.bind_eq_bind, Option.bind_eq_some_iff, Prod.exists] at e
  obtain ⟨ra, ρ1, e1, da, e3, d, e4, e5⟩ := e
  obtain ⟨rfl, rfl⟩ := inj2 e5
  refine ⟨B, W, ρ, τ, ra, ρ1, w, e1, fun v1 H1 W1 s1 w1 => ?_⟩
  exact ⟨_, v1, da, d, rfl, rfl, w1.rq hd_mem e3, e4, fun v hr => w1.pop.fin s1 (Same.refl _) (resP hr) q⟩
theorem k_maxe (g : Good G X) {p1 kp2 : Pos} {z : Expr} {b : E} (ha : PE X y (tE G X.K a)) (hb' : PE X z (tE G X.K b)) (st : notStar y = true) (hn : noNm "max" X.env.scope = true) (hb : (Str.ofString "max") ∈ G.blts) :
    PE X (.Call (.Name "max" p1) [y] [⟨some "default", z, kp2⟩] p) (tE G X.K (.maxe a b)) := by
  obtain ⟨gl, n1, n2⟩ := glOf hn
  refine PE.imp (pe_callBK (maxe_ok g.calm) gl (g.blts _ hb) PyProof.Rows.boot_max (pa_cons ha pa_nil (star1 st)) (pk_cons hb' pk_nil) n2 n1 (by rw [star1 st]; rfl) (by rw [star1 st]; rfl) rfl rfl rfl) fun σ H Q h => ?_
  obtain ⟨B, W, ρ, τ, r, ρ', w, e, q⟩ := h
  simp only [ev, Option.bind_eq_bind, Option.bind_eq_some_iff, Prod.exists] at e
  obtain ⟨ra, ρ1, e1, rb, ρ2, e2, db, ρ3, e3, da, e4, d, e5, e6⟩ := e
  obtain ⟨rfl, rfl⟩ := inj2 e6
  refine ⟨B, W, ρ, τ, ra, ρ1, w, e1, fun v1 H1 W1 s1 w1 => ⟨B, W1, ρ1, _, rb, ρ2, w1, e2, fun v2 H2 W2 s2 w2 => ?_⟩⟩
  obtain ⟨W3, s3, w3, r3⟩ := esc_fin w2 e3
  exact ⟨_, v1, v2, da, db, d, rfl, rfl, w3.rq (List.mem_cons_of_mem _ hd_mem) e4, r3, e5, fun v hr => w3.pop.pop.fin ((s1.trans s2).trans s3) (Same.refl _) (resP hr) q⟩
theorem rps_upTo {K : PySem.W.Frag} {H : Hp} {O : AS} (n : Nat) : Rps K H O (rgV 0 n) (upTo n) := by
  unfold rgV upTo
  have : ((n : Int) - 0).toNat = n := by omega
  rw [this]
  induction (List.range n) with
  | nil => exact .nil
  | cons k l ih =>
    rw [List.map_cons, List.map_cons, show (0 : Int) + (k : Int) = (k : Int) by omega]
    exact .cons (.int _) ih
theorem k_lrng (g : Good G X) {p1 p2 p3 : Pos} (ha : PE X y (tE G X.K a)) (st : notStar y = true) (hn : noNm "list" X.env.scope = true) (hb : (Str.ofString "list") ∈ G.blts) (hn2 : noNm "range" X.env.scope = true) (hb2 : (Str.ofString "range") ∈ G.blts) :
    PE X (.Call (.Name "list" p1) [.Call (.Name "range" p2) [y] [] p3] [] p) (tE G X.K (.lrng a)) := by
  refine PE.imp (pe_listRg g.calm (glOf hn).1 (g.blts _ hb) (prg_1 (glOf hn2).1 (g.blts _ hb2) ha (star1 st)) rfl) fun σ H Q h => ?_
  obtain ⟨B, W, ρ, τ, r, ρ', w, e, q⟩ := h
  simp only [ev, Option.bind_eq_bind, Option.bind_eq_some_iff, Prod.exists] at e
  obtain ⟨ra, ρ1, e1, da, e3, e4⟩ := e
  split at e4
  · rename_i i
    split at e4
    · rename_i hi
      obtain ⟨rfl, rfl⟩ := inj2 e4
      refine ⟨B, W, ρ, τ, ra, ρ1, w, e1, fun v1 H1 W1 s1 w1 => ?_⟩
      have hr := w1.rq hd_mem e3
      cases hr
      refine ⟨i, rfl, RgOk.of_le (Int.le_refl _) (by omega) (by omega) hi.1, fun p n => w1.pop.fin s1 (same_up n) (res_lst n ?_) q⟩
      have := rps_upTo (K := X.K) (H := H1) (O := AV B W1) i.toNat
      rw [show ((i.toNat : Nat) : Int) = i by omega] at this
      exact this
    · cases e4
  · cases e4
theorem k_trng (g : Good G X) {p1 p2 p3 : Pos} (ha : PE X y (tE G X.K a)) (st : notStar y = true) (hn : noNm "tuple" X.env.scope = true) (hb : (Str.ofString "tuple") ∈ G.blts) (hn2 : noNm "range" X.env.scope = true) (hb2 : (Str.ofString "range") ∈ G.blts) :
    PE X (.Call (.Name "tuple" p1) [.Call (.Name "range" p2) [y] [] p3] [] p) (tE G X.K (.trng a)) := by
  refine PE.imp (pe_tupRg g.calm (glOf hn).1 (g.blts _ hb) (prg_1 (glOf hn2).1 (g.blts _ hb2) ha (star1 st)) rfl) fun σ H Q h => ?_
  obtain ⟨B, W, ρ, τ, r, ρ', w, e, q⟩ := h
  simp only [ev, Option.bind_eq_bind, Option.bind_eq_some_iff, Prod.exists] at e
  obtain ⟨ra, ρ1, e1, da, e3, e4⟩ := e
  split at e4
  · rename_i i
    split at e4
    · rename_i hi
      obtain ⟨rfl, rfl⟩ := inj2 e4
      refine ⟨B, W, ρ, τ, ra, ρ1, w, e1, fun v1 H1 W1 s1 w1 => ?_⟩
      have hr := w1.rq hd_mem e3
      cases hr
      refine ⟨i, rfl, RgOk.of_le (Int.le_refl _) (by omega) (by omega) hi.1, fun p n => w1.pop.fin s1 (same_up n) (resP (rp_tup n ?_)) q⟩
      have := rps_upTo (K := X.K) (H := H1) (O := AV B W1) i.toNat
      rw [show ((i.toNat : Nat) : Int) = i by omega] at this
      exact this
    · cases e4
  · cases e4
theorem rps_from2 {K : PySem.W.Frag} {H : Hp} {O : AS} (i j : Int) : Rps K H O (rgV i j) (from2 i j) := by
  unfold rgV from2
  induction (List.range (j - i).toNat) with
  | nil => exact .nil
  | cons k l ih =>
    rw [List.map_cons, List.map_cons]
    exact .cons (.int _) ih
theorem k_trng2 (g : Good G X) {p1 p2 p3 : Pos} {z : Expr} {b : E} (ha : PE X y (tE G X.K a)) (hb' : PE X z (tE G X.K b)) (st : notStar y = true) (st2 : notStar z = true) (hn : noNm "tuple" X.env.scope = true) (hb : (Str.ofString "tuple") ∈ G.blts) (hn2 : noNm "range" X.env.scope = true) (hb2 : (Str.ofString "range") ∈ G.blts) :
    PE X (.Call (.Name "tuple" p1) [.Call (.Name "range" p2) [y, z] [] p3] [] p) (tE G X.K (.trng2 a b)) := by
  refine PE.imp (pe_tupRg g.calm (glOf hn).1 (g.blts _ hb) (prg_2 (glOf hn2).1 (g.blts _ hb2) ha hb' (star1 st) (star1 st2) (by rw [star1 st2]; rfl)) rfl) fun σ H Q h => ?_
  obtain ⟨B, W, ρ, τ, r, ρ', w, e, q⟩ := h
  simp only [ev, Option.bind_eq_bind, Option.bind_eq_some_iff, Prod.exists] at e
  obtain ⟨ra, ρ1, e1, rb, ρ2, e2, da, e3, db, e4, e5⟩ := e
  split at e5
  · rename_i i j
    split at e5
    · rename_i hi
      obtain ⟨rfl, rfl⟩ := inj2 e5
      refine ⟨B, W, ρ, τ, ra, ρ1, w, e1, fun v1 H1 W1 s1 w1 => ⟨B, W1, ρ1, _, rb, ρ2, w1, e2, fun v2 H2 W2 s2 w2 => ?_⟩⟩
      have hr := w2.rq (List.mem_cons_of_mem _ hd_mem) e3
      have hr2 := w2.rq hd_mem e4
      cases hr
      cases hr2
      exact ⟨i, j, rfl, rfl, RgOk.of_le (by omega) (by omega) (by omega) (by omega), fun p n => w2.pop.pop.fin (s1.trans s2) (same_up n) (resP (rp_tup n (rps_from2 i j))) q⟩
    · cases e5
  · cases e5
end
end Ev
set_option Elab.async false
set_option linter.all false
set_option maxRecDepth 100000
set_option maxHeartbeats 4000000
/-! Ev, part 12: calls of own defs, methods of a list. -/
namespace Ev
open PySem PySem.Spec PyProof.Rows L2

section
variable {K : PySem.W.Frag} {H H' : Hp} {B W : AS} {σ : L2.St}
theorem rel_zip : ∀ {vs : List V} {rs : List R}, (vs.zip rs).map relI = vs.zip (rs.map relR)
  | [], _ => rfl
  | _ :: _, [] => rfl
  | v :: vs, r :: rs => by
    simp only [List.zip_cons_cons, List.map_cons, rel_zip]
    rfl
theorem noLent {vs : List V} {rs : List R} (h : rs.any isLocR = false) : ∀ a, ¬ Lent (vs.zip (rs.map relR)) a := fun a ⟨x, hx, ⟨i, hi⟩, _⟩ => by
  obtain ⟨v, r⟩ := x
  have h2 := (List.of_mem_zip hx).2
  obtain ⟨r0, m, e⟩ := List.mem_map.mp h2
  have hi : r = .loc i := hi
  subst hi
  cases r0 with
  | val o d => cases e
  | loc j =>
    rw [List.any_eq_false] at h
    exact h _ m rfl
theorem Rps.frozen {O O' : AS} {vs : List V} {ds : List D} (f : froz.frozs ds = true) (h : Rps K H O vs ds) : Rps K H O' vs ds := Rps.froz ds vs f h
theorem res_bar {vs : List V} {rs : List R} {v : V} {o : Bool} {d : D} (h : rs.any isLocR = false ∨ frozR (o, d) = true) (r : Res K H H' (Bar B W (vs.zip (rs.map relR))) v o d) : Res K H H' (AV B W) v o d := by
  rcases h with h | h
  · have le : ∀ a, AV B W a → Bar B W (vs.zip (rs.map relR)) a := fun a z => ⟨z, noLent h a⟩
    cases o with
    | false => exact Rp.mv (Mv.less le) _ _ r
    | true =>
      obtain ⟨p, e, n, c⟩ := r
      exact ⟨p, e, n, c.mv (Mv.less fun a z => z.elim (fun z => .inl (le a z)) .inr) fun _ q => q⟩
  · cases o with
    | false => exact Rp.froz _ _ h r
    | true =>
      obtain ⟨p, e, n, c⟩ := r
      cases d with
      | list ds =>
        obtain ⟨xs, e1, e2⟩ := c
        exact ⟨p, e, n, xs, e1, e2.frozen h⟩
      | _ => cases h
theorem Wd.callArgs {ρ : Rho} {τ : List Itm} {vs : List V} {rs : List R} {ds : List D} (w : Wd K H B W σ ρ ((vs.zip rs).reverse ++ τ)) (hl : vs.length = rs.length) (e : rdRs ρ rs = some ds) :
    ∃ W', Stp H W H W' ∧ Wd K H B W' σ ρ τ ∧ Rps K H (Bar B W' (vs.zip (rs.map relR))) vs ds ∧ (∀ a, Bar B W' (vs.zip (rs.map relR)) a → ∃ o, H a = some o) := by
  obtain ⟨W', s, w1⟩ := w.releases
  refine ⟨W', s, w1.sub (List.sublist_append_right ..), ?_, bar_there w1⟩
  have m : ∀ x ∈ vs.zip (rs.map relR), x ∈ ((vs.zip rs).reverse.map relI ++ τ) ∧ x ∈ vs.zip (rs.map relR) ∧ Plain x := fun x hx => by
    refine ⟨List.mem_append_left _ ?_, hx, ?_⟩
    · rw [List.map_reverse, List.mem_reverse, rel_zip]
      exact hx
    · rw [← rel_zip] at hx
      obtain ⟨y, _, e⟩ := List.mem_map.mp hx
      rw [← e]
      exact plain_rel y
  have hl2 : vs.length = (rs.map relR).length := by rw [List.length_map]; exact hl
  have q := w1.argsOk (as := vs.zip (rs.map relR)) (l := vs.zip (rs.map relR)) (ds := ds) m (by
    rw [List.map_snd_zip (by omega), rdRs_rel]
    exact e)
  rw [List.map_fst_zip (by omega)] at q
  exact q
end

section
variable {G : Sig} {X : Cx} {l r m x y : Expr} {xs : List Expr} {p p' : Pos} {a b c : E} {es : Es}
theorem k_call (g : Good G X) {f : Str} (hs : PA X (y :: xs) (tEs G X.K es)) (st : noStars (y :: xs) = true) (hn : noNm f X.env.scope = true) : PE X (.Call (.Name f p) (y :: xs) [] p') (tE G X.K (.call f es)) := by
  obtain ⟨gl, n1, n2⟩ := glOf hn
  have st2 : notStar y = true ∧ noStars xs = true := by
    unfold noStars at st ⊢
    rw [List.all_cons, Bool.and_eq_true] at st
    exact st
  refine ⟨fun pins s σ H Q I h => ?_⟩
  obtain ⟨B, W, ρ, τ, r, ρ', w, e, q⟩ := h
  simp only [ev, Option.bind_eq_bind, Option.bind_eq_some_iff, Prod.exists] at e
  obtain ⟨rs, ρ1, e1, ds, e2, F, e3, o, d, d0, e4, e5⟩ := e
  have O := g.fns f F e3
  refine (O.call g.gd gl hs n1 (star1 st2.1) (back_any st2.2) spF_len).run pins s σ H Q I ⟨B, W, ρ, τ, rs, ρ1, w, e1, fun vs H1 W1 s1 hl w1 => ?_⟩
  split at e5
  · cases e5
  · rename_i hc
    split at e5
    · cases e5
    · rename_i hf
      obtain ⟨rfl, rfl⟩ := inj2 e5
      have hc' : F.chg = false := by simpa using hc
      unfold spF
      rw [hc']
      obtain ⟨W2, s2, w2, rp, bd⟩ := w1.callArgs hl e2
      refine ⟨_, ds, _, bd, rp, e4, fun v H' sm rs' => w2.fin (s1.trans s2) sm (res_bar ?_ rs') q⟩
      by_cases hany : rs.any isLocR = true
      · right
        rw [hany, Bool.true_and] at hf
        simpa using hf
      · left
        simpa using hany
theorem rdRs_loc {ρ : Rho} {i : Nat} {rs : List R} {d : D} {ds : List D} (h1 : rdR ρ (.loc i) = some d) (h2 : rdRs ρ rs = some ds) : rdRs ρ (.loc i :: rs) = some (d :: ds) := by
  simp only [rdRs, h1, h2]
theorem k_callm (g : Good G X) {f : Str} {i : Nat} (hs : PA X (y :: xs) (tEs G X.K (.cons (.var i) es))) (st : noStars (y :: xs) = true) (hn : noNm f X.env.scope = true) : PE X (.Call (.Name f p) (y :: xs) [] p') (tE G X.K (.callm f i es)) := by
  obtain ⟨gl, n1, n2⟩ := glOf hn
  have st2 : notStar y = true ∧ noStars xs = true := by
    unfold noStars at st ⊢
    rw [List.all_cons, Bool.and_eq_true] at st
    exact st
  refine ⟨fun pins s σ H Q I h => ?_⟩
  obtain ⟨B, W, ρ, τ, r, ρ', w, e, q⟩ := h
  simp only [ev] at e
  split at e
  rotate_left
  · cases e
  rename_i x0 h0
  simp only [Option.bind_eq_bind, Option.bind_eq_some_iff, Prod.exists] at e
  obtain ⟨rs, ρ1, e1, ds, e2, F, e3, e4⟩ := e
  split at e4
  rotate_left
  · cases e4
  rename_i x1 h1
  simp only [Option.bind_eq_some_iff, Prod.exists] at e4
  obtain ⟨o, d, d0, e5, e6⟩ := e4
  split at e6
  rotate_left
  · cases e6
  rename_i ds'
  split at e6
  · cases e6
  rename_i hc
  split at e6
  · cases e6
  rename_i hf
  split at e6
  rotate_left
  · cases e6
  rename_i hfz
  obtain ⟨rfl, rfl⟩ := inj2 e6
  have hc' : F.chg = true := by simpa using hc
  have hf' : rs.any isLocR = false := by simpa using hf
  have O := g.fns f F e3
  have e1' : evs G (.cons (.var i) es) ρ = some (.loc i :: rs, ρ1) := by
    simp only [evs, ev, h0, e1, Option.bind_eq_bind, Option.bind_some]
  refine (O.call g.gd gl hs n1 (star1 st2.1) (back_any st2.2) spF_len).run pins s σ H Q I ⟨B, W, ρ, τ, _, ρ1, w, e1', fun vs H1 W1 s1 hl w1 => ?_⟩
  cases vs with
  | nil => simp at hl
  | cons v0 vs =>
    rw [zip_rev] at w1
    have hl2 : vs.length = rs.length := by simpa using hl
    obtain ⟨W2, s2, w2, rp, bd⟩ := w1.callArgs hl2 e2
    have hv0 : σ[i]? = some (some v0) := w2.tmp _ hd_mem
    obtain ⟨v', q1, s', rfl, ws, c⟩ := w2.slot i true _ h1
    rw [hv0] at q1
    cases q1
    obtain ⟨ys, hy, ry⟩ := c
    unfold spF
    rw [hc']
    have hB : ∀ a, AV B W2 a → ((AV B W2 a ∧ a ≠ s') ∨ a = s') := fun a h => by
      by_cases z : a = s'
      · exact .inr z
      · exact .inl ⟨h, z⟩
    have hB' : ∀ a, ((AV B W2 a ∧ a ≠ s') ∨ a = s') → AV B W2 a := fun a h => h.elim (fun h => h.1) fun z => by rw [z]; exact .inr ws
    refine ⟨fun a => AV B W2 a ∧ a ≠ s', s', ys, vs, x1, ds, ds', (o, d), rfl, hy, fun h => h.2 rfl, fun a h => h.1.elim (w2.bd a) (w2.wd a), Rps.mv (Mv.less hB') _ _ ry, Rps.mv (Mv.less fun a h => ⟨hB' a h, noLent hf' a⟩) _ _ rp, e5, fun v H' zs keep hz rz res => ?_⟩
    -- the heap behind, but for the list
    have w3 := w2.pop
    have hne : ∀ b o, H1 b = some o → (∀ xs, o ≠ .lst xs) → b ≠ s' := fun b o e n z => by rw [z, hy] at e; cases e; exact n _ rfl
    let Hn : Hp := fun b => if b = s' then H1 s' else H' b
    have hns : Hn s' = H1 s' := if_pos rfl
    have hno : ∀ b, b ≠ s' → Hn b = H' b := fun b n => if_neg n
    have sm : Same H1 Hn := fun b u e => by
      by_cases z : b = s'
      · rw [z, hns]; rw [z] at e; exact e
      · rw [hno b z]; exact keep b u z e
    have mv : ∀ O : AS, (O s') → Mv X.K H' O Hn O := fun O os => by
      refine ⟨fun a xs h => ?_, fun a xs n h => ?_, fun a kvs n h => ?_, fun _ n _ => n⟩
      · rcases h with (h | ⟨ob, h⟩) | h
        · exact .inl (.inl (by rw [hno a (fun z => by rw [z, hz] at h; cases h)]; exact h))
        · exact .inl (.inr ⟨ob, by rw [hno a (fun z => by rw [z, hz] at h; cases h)]; exact h⟩)
        · exact .inr h
      · have z : a ≠ s' := fun z => n (by rw [z]; exact os)
        rcases h with h | ⟨ob, h⟩
        · exact .inl (by rw [hno a z]; exact h)
        · exact .inr ⟨ob, by rw [hno a z]; exact h⟩
      · have z : a ≠ s' := fun z => n (by rw [z]; exact os)
        rw [hno a z]; exact h
    have res' : Res X.K H1 Hn (AV B W2) v o d := by
      cases o with
      | false => exact Rp.mv (Mv.less hB) _ _ (Rp.mv (mv _ (.inr rfl)) _ _ res)
      | true =>
        obtain ⟨p, e, n, c⟩ := res
        have ps : p ≠ s' := fun z => by rw [z, hy] at n; cases n
        refine ⟨p, e, n, (c.mv (mv _ (.inl (.inr rfl))) fun u e => by rw [hno p ps]; exact e).mv (Mv.less fun a h => ?_) fun _ q => q⟩
        exact h.elim (fun h => .inl (hB a h)) .inr
    obtain ⟨W3, s3, w4⟩ := w3.add sm res'
    have hl4 : look ρ1 i = some (true, .list x1) := h1
    obtain ⟨s4, w5⟩ := w4.wr (H' := H') (d' := .list ds') hl4 hv0 (fun b u z e => by rw [hno b z] at e; exact e) (fun xs e => by rw [hns, hy] at e; cases e) (fun ob u e => by rw [hns, hy] at e; cases e)
      (fun b e => by
        by_cases z : b = s'
        · rw [z, hz] at e; cases e
        · rw [hno b z]; exact e) (fun _ => ⟨zs, hz, rz.frozen hfz⟩)
    exact q v H' W3 (((s1.trans s2).trans s3).trans s4) w5
/-! methods of a list -/
theorem mt_extendRd : MtM X "list.extend" (fun x vs H Q => ∃ l b xs zs, x = .ref l ∧ vs = [.ref b] ∧ H l = some (.lst xs) ∧ Rd H b (.lst zs) ∧ xs.length + zs.length ≤ sizeLine ∧ Q .non (upd H l (.lst (xs ++ zs)))) := by
  intro pins s σ H x vs v us Q I rx rv h
  obtain ⟨l, b, xs, zs, rfl, rfl, hH, hB, hz, q⟩ := h
  cases rx
  obtain ⟨u, rfl, ru⟩ := rv.one
  cases ru
  obtain ⟨z, its, n, r, hl, e⟩ := I.lstM hH
  obtain ⟨z2, its2, n2, r2, e2⟩ := hB.ok I.hok
  have hl2 := r2.length
  have hsz : its.toArray.size + its2.toArray.size ≤ sizeLine := by rw [List.size_toArray, List.size_toArray]; omega
  have hlong : ¬ (!its.toArray.isEmpty && Builtin.List.listTooLong (its.toArray.size + its2.toArray.size)) = true := by
    rw [notLongL hsz, Bool.and_false]
    exact Bool.false_ne_true
  refine call_meets F.slot_list_extend ⟨_, e, rfl⟩ F.entry_list_extend (F.args_list_extend_2 _ _) (AutoSeq1.list_extend_list_list_0 l its.toArray n b its2.toArray n2 hlong (by rw [List.size_toArray]; omega) (by omega)) ⟨e, e2, ?_⟩
  exact ⟨.non, _, I.lset (its' := its ++ its2) hH e (by simp) (r.append r2) (by rw [List.length_append]; omega), rfl, q⟩
def mtId : Mt → String
  | .append => "list.append" | .extend => "list.extend" | .popAt => "list.pop" | .pop => "list.pop"
def rMt (K : PySem.W.Frag) (m : Mt) : V → List V → Hp → VK → Prop := fun x vs H Q => ∃ (l : Addr) (xs : List V) (O : AS) (ds es : List D) (y : D) (ys : List D), x = .ref l ∧ H l = some (.lst xs) ∧ Rps K H O xs ds ∧ Rps K H O vs es ∧ meth m ds es = some (y, ys) ∧
  ∀ v zs, Rp K H O v y → Rps K H O zs ys → Q v (upd H l (.lst zs))
theorem ixN_seq {n : Nat} {i : Int} {k : Nat} (h : ixN n i = some k) : seqIndex? i n = some k ∧ -(n : Int) ≤ i ∧ i < n := by
  unfold ixN at h
  split at h
  · rename_i h0
    split at h
    · rename_i h1
      cases h
      exact ⟨seqIndex_of h0 h1, by omega, h1⟩
    · cases h
  · rename_i h0
    split at h
    · rename_i h1
      cases h
      exact ⟨PySem.seqIndex_neg (by omega) (by omega), h1, by omega⟩
    · cases h
theorem mt_ok (m : Mt) : MtR X (mtId m) (rMt X.K m) := by
  intro pins s σ H x vs v us Q I rx rv h
  obtain ⟨l, xs, O, ds, es, y, ys, rfl, hH, rs, re, e, q⟩ := h
  have hz := (I.lstM hH).1
  cases m with
  | append =>
    cases es with
    | nil => simp [meth] at e
    | cons d es =>
      cases es with
      | cons _ _ => simp [meth] at e
      | nil =>
        simp only [meth] at e
        split at e
        · rename_i hlt
          cases e
          cases re with
          | cons a b =>
            cases b
            exact mt_append pins s σ H _ _ v us Q I rx rv ⟨l, xs, _, rfl, rfl, hH, by rw [rs.len]; exact hlt, q _ _ .non (rs.app (.cons a .nil))⟩
        · cases e
  | extend =>
    cases es with
    | nil => simp [meth] at e
    | cons d es =>
      cases es with
      | cons _ _ => cases d <;> simp [meth] at e
      | nil =>
        cases d with
        | list zs =>
          simp only [meth] at e
          split at e
          · rename_i hlt
            cases e
            cases re with
            | cons a b =>
              cases b
              cases a with
              | lst _ sq rz =>
                exact mt_extendRd pins s σ H _ _ v us Q I rx rv ⟨l, _, xs, _, rfl, rfl, hH, sq, by rw [rs.len, rz.len]; exact fits_le hlt, q _ _ .non (rs.app rz)⟩
          · cases e
        | _ => simp [meth] at e
  | popAt =>
    cases es with
    | nil => simp [meth] at e
    | cons d es =>
      cases es with
      | cons _ _ => cases d <;> simp [meth] at e
      | nil =>
        cases d with
        | int i =>
          simp only [meth] at e
          split at e
          · rename_i k hk
            split at e
            · rename_i z hy
              cases e
              cases re with
              | cons a b =>
                cases b
                cases a
                obtain ⟨w0, hw, rw0⟩ := rs.get hy
                rw [← rs.len] at hk
                obtain ⟨i1, i2, i3⟩ := ixN_seq hk
                have hs : sizeLine = 16777216 := sizeLine_eq
                exact mt_popAt pins s σ H _ _ v us Q I rx rv ⟨l, xs, i, k, w0, rfl, rfl, hH, by omega, by omega, i1, hw, q _ _ rw0 (rs.erase k)⟩
            · cases e
          · cases e
        | _ => simp [meth] at e
  | pop =>
    cases es with
    | cons d es => simp [meth] at e
    | nil =>
      simp only [meth] at e
      split at e
      · rename_i z hy
        cases e
        cases re
        obtain ⟨w0, hw, rw0⟩ := rs.get hy
        exact mt_pop pins s σ H _ _ v us Q I rx rv ⟨l, xs, w0, rfl, rfl, hH, by rw [rs.len]; exact hw, q _ _ rw0 rs.dropLast⟩
      · cases e
end
end Ev
set_option Elab.async false
set_option linter.all false
set_option maxRecDepth 100000
set_option maxHeartbeats 4000000
/-! Ev, part 13: what is walked. enumerate of a tuple. -/
namespace EvN
open PySem PySem.Spec
open PySem.Sem (wp)
open AutoSeq1 (wpAny_loadPart')
theorem meets_enum_tup (l : Addr) (items : Array Value) (n : Nat) (dct : Option Addr) (sl : Array (Option Value)) :
    Meets (Builtin.«enumerate.__new__» ⟨[.type "enumerate", .ref l], []⟩) (fun _ R s => s.heap.get? l = some { cls := .type "tuple", dict := dct, data := .seq items n, slots := sl } ∧
      R (.ok (.ret (.ref (s.heap.push { cls := .type "tuple_iterator", data := .fields #[.ref l, .int 0 0] }).objs.size)))
        { s with heap := (s.heap.push { cls := .type "tuple_iterator", data := .fields #[.ref l, .int 0 0] }).push { cls := .type "enumerate", data := .fields #[.none, .bool false, .ref s.heap.objs.size, rawInt 0, .none, .none] } }) :=
  .of_wp fun prog w A R s h => by
    obtain ⟨hp, g, d, tk, os⟩ := s
    obtain ⟨hl, h⟩ := h
    have hsub := sub_enumerate
    have hT : Heap.IsTuple (Shared.heap ⟨hp, g, d, tk, os⟩) l items := ⟨_, hl, rfl, n, rfl⟩
    wp_walk using wpAny_loadPart' hl
    refine wpAny_stack_any fun st => wpAny_pure ?_
    split
    · rename_i c _ _ _ _ _
      cases (c == Value.type "enumerate")
      · wp_walk using wpAny_loadPart' hl, wpAny_pyIter_tuple hT
        exact ⟨_, rfl, h⟩
      · wp_walk using wpAny_loadPart' hl, wpAny_pyIter_tuple hT
        exact ⟨_, rfl, h⟩
    · wp_walk using wpAny_loadPart' hl, wpAny_pyIter_tuple hT
      exact ⟨_, rfl, h⟩
theorem draws_tup {prog : Program} {w : World} {A : Around} (hh : A.handled = none) (it l : Addr) (hne : l ≠ it) (items : Array Value) :
    Draws prog w A it [it, l] items.size (fun i v => items[i]? = some v) (fun i h => h.IsTupleIter it l i ∧ h.IsTuple l items) where
  live := fun _ _ st => let ⟨o, ho, _⟩ := st.1; ⟨o, ho⟩
  frame := fun _ _ _ st hk => ⟨st.1.at fun o e => hk it (by simp) o e, let ⟨o, e, r⟩ := st.2; ⟨o, hk l (by simp) o e, r⟩⟩
  item := fun i s Q E hi st hQ => by
    refine RZ.nextOf_tuple_item st.1 st.2 (x := items[i]) (by simp [hi]) fun h' hit' hs' => ?_
    exact hQ _ h' s.toks (by simp [hi]) ⟨hit', let ⟨o, e, r⟩ := st.2; ⟨o, (hs'.2 _ hne).trans e, r⟩⟩ hs'
  done := fun s Q E st hE => RZ.nextOf_tuple_end hh st.1 st.2 (by simp) hE
section
variable {prog : Program} {w : World} {A : Around} {E : Value → Shared → Prop} {s : Shared}
theorem call_enum_tup {l : Addr} {items : Array Value} {Q : Value → Shared → Prop} (hL : s.heap.IsTuple l items)
    (h : ∀ h', IsEnum h' (s.heap.objs.size + 1) s.heap.objs.size 0 .none → h'.IsTupleIter s.heap.objs.size l 0 → h'.objs.size = s.heap.objs.size + 2 →
      (∀ b o, s.heap.get? b = some o → h'.get? b = some o) → Q (.ref (s.heap.objs.size + 1)) { s with heap := h' }) :
    wpAny (model prog w) A (call (.type "enumerate") [.ref l]) Q E s := by
  obtain ⟨⟨c, dct, dt, sl⟩, hl, hc, n, hd⟩ := hL
  replace hc : c = .type "tuple" := hc
  replace hd : dt = .seq items n := hd
  subst hc hd
  refine callType_new F.called_enumerate (by decide) (F.typeCall_enumerate_1 _) (F.newCall_enumerate_1 _) (fun obj => F.args_object_init_2 obj _) F.entry_enumerate_new
    (meets_enum_tup l items n dct sl) ⟨hl, ?_⟩
  have hz : (s.heap.push { cls := .type "tuple_iterator", data := .fields #[.ref l, .int 0 0] }).objs.size = s.heap.objs.size + 1 := Heap.size_push ..
  show _ ∧ _
  rw [hz]
  have he : IsEnum ((s.heap.push { cls := .type "tuple_iterator", data := .fields #[.ref l, .int 0 0] }).push
      { cls := .type "enumerate", data := .fields #[.none, .bool false, .ref s.heap.objs.size, rawInt 0, .none, .none] }) (s.heap.objs.size + 1) s.heap.objs.size 0 .none := by
    have := Heap.get?_push_size (s.heap.push { cls := .type "tuple_iterator", data := .fields #[.ref l, .int 0 0] })
      (o := { cls := .type "enumerate", data := .fields #[.none, .bool false, .ref s.heap.objs.size, rawInt 0, .none, .none] }) rfl
    rw [hz] at this
    exact this
  exact ⟨⟨_, he, rfl⟩, h _ he ⟨_, Heap.get?_push_of_some _ (Heap.get?_push_size _ rfl), rfl, rfl⟩ (by rw [Heap.size_push, hz]) fun b o x => Heap.get?_push_of_some _ (Heap.get?_push_of_some _ x)⟩
theorem next_enum_tup_end {e it l : Addr} {i : Nat} {items : Array Value} {old : Value} {Q : Option Value → Shared → Prop} (hh : A.handled = none)
    (he : IsEnum s.heap e it i old) (hit : s.heap.IsTupleIter it l i) (hl : s.heap.IsTuple l items) (hx : items[i]? = none)
    (hQ : ∀ h', Heap.ExtBut it s.heap h' → Q none { s with heap := h' }) : wpAny (model prog w) A (pyNext (.ref e)) Q E s := by
  have ty : s.TypeIs (.ref e) "enumerate" := ⟨_, he, rfl⟩
  unfold pyNext
  refine wpAny_bind (wpAny_attempt (wpAny_callSpecial?_slot (name := Str.ofString "__next__") ty F.slot_enumerate_next ?_))
  refine wpAny_call_entry F.slot_enumerate_next ty F.entry_enumerate_next ?_ (F.args_enumerate_next_1 _)
  refine wpAny_bind (m := field (.ref e) 2) (wpAny_field he rfl (x := .ref it) rfl ?_)
  refine wpAny_bind (RZ.nextOf_tuple_end hh hit hl hx fun h' x k hx' => ?_)
  obtain ⟨o, ho, hc⟩ := hx'
  refine wpAny_bind (wpAny_isInstance (T := "StopIteration") (b := true) ⟨o, ho, hc⟩ isSubtype_stop ?_)
  exact wpAny_pure (hQ _ k)
end
end EvN

namespace Ev
open PySem PySem.Spec PyProof.Rows L2
/-- the tuple at a, its items in new pairs with their places -/
def IteT (K : PySem.W.Frag) (a : Addr) : L2.It :=
  ⟨fun i H => ∃ (xs : List V) (x : V), SqT K H a xs ∧ xs[i]? = some x, fun i H v H' => ∃ T x, v = .ref T ∧ H T = none ∧ H' = upd H T (.tup [.int (i : Nat), x]) ∧ ∀ xs, SqT K H a xs → xs[i]? = some x, fun i H => ∃ xs : List V, SqT K H a xs ∧ xs.length ≤ i⟩
theorem turn_enumT {P : Program} {w : World} {K : PySem.W.Frag} {elts : List Expr} {kk : Nat} {tpos : Pos} (a e it : Addr) :
    Turn P w K (.Tuple elts kk tpos) (IteT K a) [e, it] e (fun i h => (∃ old, IsEnum h e it ((i : Nat) : Int) old) ∧ h.IsTupleIter it a i ∧ e ≠ it ∧ a ≠ it ∧ e ≠ a) where
  mem := by simp
  obj := fun i h st b hb => by
    obtain ⟨⟨old, he⟩, ⟨o, ho, hc, hd⟩, _⟩ := st
    have e' : b = e ∨ b = it := by simpa using hb
    rcases e' with z | z
    · rw [z]; exact ⟨_, he, fun v q => nomatch q⟩
    · rw [z]; exact ⟨o, ho, fun v q => by rw [hd] at q; cases q⟩
  keep := fun i h h' st k => let ⟨⟨old, he⟩, hi, hne⟩ := st; ⟨⟨old, k e (by simp) _ he⟩, hi.at fun o q => k it (by simp) o q, hne⟩
  item := by
    intro X hP hw hK hc i pins s σ H E I hf st hg
    subst hP hw hK
    obtain ⟨⟨old, he⟩, hit, hne, hna, hea⟩ := st
    obtain ⟨xs, x, hq, hx⟩ := hg
    obtain ⟨its, rv, p, hz⟩ := I.tuple hq
    obtain ⟨u, hu, ru⟩ := rv.get hx
    have hel : e < s.heap.objs.size := Heap.lt_size he
    have hil : it < s.heap.objs.size := by obtain ⟨_, q, _⟩ := hit; exact Heap.lt_size q
    have hlt : i < its.toArray.size := by
      rw [List.size_toArray]
      exact (List.getElem?_eq_some_iff.mp hu).1
    have pT : s.heap.IsTuple a its.toArray := p
    refine wpAny_pyNext_enum_itemD (EvN.draws_tup (A := X.A.in1) (by exact I.ok.hd hc) it a hna its.toArray) he ⟨hit, pT⟩ hlt hne (by simp [hne, hea]) fun x' h' tk hx' ho hst' hT hsz hk => ?_
    have ex : x' = u := by
      have hu' : its.toArray[i]? = some u := by simpa using hu
      have hx'' : its.toArray[i]? = some x' := hx'
      rw [hu'] at hx''
      exact (Option.some.inj hx'').symm
    subst ex
    obtain ⟨hit', _⟩ := hst'
    refine ⟨_, rfl, wpAny_letOwnedTupleGo_enum (s := { s with heap := h', toks := tk + 1 }) ho fun h'' he' sb => ?_⟩
    have hT2 : h''.get? s.heap.objs.size = some { cls := .type "tuple", data := .seq #[.int i tk, x'] } := (sb.2 _ (Nat.ne_of_gt hel)).trans hT
    have new : ObjOk X.prog X.w (upd H s.heap.objs.size (.tup [.int (i : Nat), x])) h'' s.heap.objs.size (.tup [.int (i : Nat), x]) :=
      ⟨by show 2 ≤ sizeLine; decide, [.int i tk, x'], .cons ⟨_, rfl⟩ (.cons ru .nil), ⟨_, hT2, rfl, _, rfl⟩⟩
    have I1 : Inv X pins σ (upd H s.heap.objs.size (.tup [.int (i : Nat), x])) { s with heap := h'', toks := tk + 1 } :=
      I.turnedNew (ch := [e, it]) (fun b ob hb q => (sb.2 b (fun z => hb (by simp [z]))).trans (hk b ob (fun z => hb (by simp [z])) (fun z => hb (by simp [z])) q)) hf (Nat.le_refl _) new
    refine ⟨.ref s.heap.objs.size, _, I1, rfl, ⟨_, x, rfl, I.hok.fresh (Nat.le_refl _), rfl, fun ys hy => by rw [I.tuple_inj hy hq]; exact hx⟩, ⟨⟨x', ?_⟩, hit'.at fun o q => (sb.2 it (Ne.symm hne)).trans q, hne, hna, hea⟩, fun b hb => ?_⟩
    · have e1 : ((i + 1 : Nat) : Int) = (i : Int) + 1 := by omega
      rw [e1]
      exact he'
    · have hb' : b < s.heap.objs.size := by
        have e' : b = e ∨ b = it := by simpa using hb
        rcases e' with z | z
        · rw [z]; exact hel
        · rw [z]; exact hil
      rw [upd_ne (Nat.ne_of_lt hb')]
      exact (hf b hb).1
  done := by
    intro X hP hw hK hc i pins s σ H E I hf st hg
    subst hP hw hK
    obtain ⟨⟨old, he⟩, hit, hne, hna, hea⟩ := st
    obtain ⟨xs, hq, hx⟩ := hg
    obtain ⟨its, rv, p, hz⟩ := I.tuple hq
    obtain ⟨f0, f1, f2, f3, f4, f5⟩ := hf it (by simp)
    have hl := rv.length
    have pT : s.heap.IsTuple a its.toArray := p
    exact EvN.next_enum_tup_end (I.ok.hd hc) he hit pT (by simp; omega) fun h' eb => ⟨rfl, I.turned (t' := s.toks) (fun b o hb q => eb b o hb q) f0 f1 f3 f4 f5⟩
  self := fun A i s Q E st h => let ⟨⟨_, he⟩, _⟩ := st; wpAny_pyIter_enum he h

/-! ### what a walk gives, turn by turn -/
/-- the items that J gives while (v, d) stands as plain data -/
def Src (K : PySem.W.Frag) (J : L2.It) (v : V) (d : D) (its : List D) : Prop := ∀ (H : Hp) (O : AS), Rp K H O v d → ∀ i, (∀ e, its[i]? = some e → J.go i H ∧ ∀ x H', J.yld i H x H' → Same H H' ∧ Rp K H' O x e) ∧ (its[i]? = none → J.stop i H)
theorem src_list {K : PySem.W.Frag} {a : Addr} {ds : List D} : Src K (Itl K a) (.ref a) (.list ds) ds := fun H O h i => by
  cases h with
  | @lst _ xs _ no sq r =>
    refine ⟨fun e he => ?_, fun hn => ⟨xs, .inl sq, ?_⟩⟩
    · obtain ⟨v, h1, h2⟩ := r.get he
      refine ⟨⟨xs, v, .inl sq, h1⟩, fun x H' hy => ?_⟩
      obtain ⟨rfl, hy⟩ := hy
      have := hy xs (.inl sq)
      rw [h1] at this
      cases this
      exact ⟨Same.refl _, h2⟩
    · rw [r.len]
      exact List.getElem?_eq_none_iff.mp hn
theorem src_tup {K : PySem.W.Frag} {a : Addr} {ds : List D} : Src K (Itt K a) (.ref a) (.tuple ds) ds := fun H O h i => by
  cases h with
  | @tup _ xs _ sq r =>
    refine ⟨fun e he => ?_, fun hn => ⟨xs, sq, ?_⟩⟩
    · obtain ⟨v, h1, h2⟩ := r.get he
      refine ⟨⟨xs, v, sq, h1⟩, fun x H' hy => ?_⟩
      obtain ⟨rfl, hy⟩ := hy
      have := hy xs sq
      rw [h1] at this
      cases this
      exact ⟨Same.refl _, h2⟩
    · rw [r.len]
      exact List.getElem?_eq_none_iff.mp hn
theorem src_rng {K : PySem.W.Frag} {lo hi : Int} : Src K (Itr lo (hi - lo).toNat) .non .none (from2 lo hi) := fun H O h i => by
  unfold from2
  refine ⟨fun e he => ?_, fun hn => ?_⟩
  · rw [List.getElem?_map, Option.map_eq_some_iff] at he
    obtain ⟨k, h1, h2⟩ := he
    have hl := (List.getElem?_eq_some_iff.mp h1).1
    rw [List.length_range] at hl
    rw [List.getElem?_range hl] at h1
    cases h1
    refine ⟨hl, fun x H' hy => ?_⟩
    obtain ⟨rfl, rfl⟩ := hy
    subst h2
    exact ⟨Same.refl _, .int _⟩
  · have : (hi - lo).toNat ≤ i := by simpa using hn
    exact this
theorem up_from {n : Int} : upTo n.toNat = from2 0 n := by
  unfold upTo from2
  rw [show n - 0 = n by omega]
  apply List.map_congr_left
  intro k _
  rw [show (0 : Int) + (k : Int) = (k : Int) by omega]
theorem src_enum {K : PySem.W.Frag} {a : Addr} {ds : List D} : Src K (Ite K a) (.ref a) (.list ds) (ds.mapIdx fun k x => .tuple [.int k, x]) := fun H O h i => by
  cases h with
  | @lst _ xs _ no sq r =>
    refine ⟨fun e he => ?_, fun hn => ⟨xs, .inl sq, ?_⟩⟩
    · rw [List.getElem?_mapIdx, Option.map_eq_some_iff] at he
      obtain ⟨d, h0, h3⟩ := he
      obtain ⟨v, h1, h2⟩ := r.get h0
      refine ⟨⟨xs, v, .inl sq, h1⟩, fun x H' hy => ?_⟩
      obtain ⟨T, y, rfl, n, rfl, hy⟩ := hy
      have := hy xs (.inl sq)
      rw [h1] at this
      cases this
      subst h3
      exact ⟨same_up n, rp_tup n (.cons (.int _) (.cons h2 .nil))⟩
    · rw [r.len]
      simpa using hn
theorem src_enumT {K : PySem.W.Frag} {a : Addr} {ds : List D} : Src K (IteT K a) (.ref a) (.tuple ds) (ds.mapIdx fun k x => .tuple [.int k, x]) := fun H O h i => by
  cases h with
  | @tup _ xs _ sq r =>
    refine ⟨fun e he => ?_, fun hn => ⟨xs, sq, ?_⟩⟩
    · rw [List.getElem?_mapIdx, Option.map_eq_some_iff] at he
      obtain ⟨d, h0, h3⟩ := he
      obtain ⟨v, h1, h2⟩ := r.get h0
      refine ⟨⟨xs, v, sq, h1⟩, fun x H' hy => ?_⟩
      obtain ⟨T, y, rfl, n, rfl, hy⟩ := hy
      have := hy xs sq
      rw [h1] at this
      cases this
      subst h3
      exact ⟨same_up n, rp_tup n (.cons (.int _) (.cons h2 .nil))⟩
    · rw [r.len]
      simpa using hn

def SrcL (K : PySem.W.Frag) (J : L2.It) (zs : List Itm) (its : List D) : Prop := ∀ (H : Hp) (O : AS), (∀ v d, (v, R.val false d) ∈ zs → Rp K H O v d) → ∀ i, (∀ e, its[i]? = some e → J.go i H ∧ ∀ x H', J.yld i H x H' → Same H H' ∧ Rp K H' O x e) ∧ (its[i]? = none → J.stop i H)
theorem Src.one {K : PySem.W.Frag} {J : L2.It} {v : V} {d : D} {its : List D} (h : Src K J v d its) : SrcL K J [(v, .val false d)] its := fun H O q i => h H O (q v d hd_mem) i
theorem noloc1 {v : V} {d : D} : NoLoc [(v, R.val false d)] := fun z hz => by
  have : z = (v, R.val false d) := by simpa using hz
  rw [this]; rfl
def tI (G : Sig) (K : PySem.W.Frag) (it : It) : TI := fun σ H R => ∃ (B W : AS) (ρ : Rho) (τ : List Itm) (its : List D) (ρ' : Rho), Wd K H B W σ ρ τ ∧ evI G it ρ = some (its, ρ') ∧
  ∀ J zs H' W', Stp H W H' W' → NoLoc zs → Wd K H' B W' σ ρ' (zs ++ τ) → SrcL K J zs its → its.length ≤ sizeLine → R J H'
section
variable {G : Sig} {X : Cx} {l r m x y tg : Expr} {xs : List Expr} {p p' : Pos} {a b c : E} {es : Es}
theorem i_seq (ha : PE X x (tE G X.K a)) : PI X tg x (tI G X.K (.seq a)) := by
  refine ⟨fun pins s σ H R I h => ?_⟩
  obtain ⟨B, W, ρ, τ, its, ρ', w, e, q⟩ := h
  simp only [evI, Option.bind_eq_bind, Option.bind_eq_some_iff, Prod.exists] at e
  obtain ⟨ra, ρ1, e1, d, ρ2, e2, e3⟩ := e
  refine thn (ha.run pins s σ H (fun v H' => ∃ W' , Stp H W H' W' ∧ Wd X.K H' B W' σ ρ2 ((v, .val false d) :: τ)) I ⟨B, W, ρ, τ, ra, ρ1, w, e1, fun v H1 W1 s1 w1 => ?_⟩) fun u s1 hq => ?_
  · obtain ⟨W2, s2, w2⟩ := w1.esc e2
    exact ⟨W2, s1.trans s2, w2⟩
  · obtain ⟨v, H1, I1, rv, W1, st, w1⟩ := hq
    have rp : Rp X.K H1 (AV B W1) v d := w1.tmp _ hd_mem
    cases d with
    | list ds =>
      obtain ⟨rfl, rfl⟩ := inj2 e3
      cases rp with
      | @lst a xs _ no sq rr =>
        cases rv
        obtain ⟨its, rv', pl, hz⟩ := I1.list (.inl sq)
        refine wpAny_pyIter_list pl.isList ?_
        refine ⟨s1.heap.objs.size, [s1.heap.objs.size], _, _, H1, rfl, I1.kept (t' := s1.toks) fun b o e => Heap.get?_push_of_some _ e, turn_list a _, ⟨_, Heap.get?_push_size _ rfl, rfl, rfl⟩, fun b hb => ?_, q _ _ _ _ st noloc1 w1 src_list.one (by rw [← rr.len]; exact hz)⟩
        have e : b = s1.heap.objs.size := by simpa using hb
        subst e
        exact I1.fpOk (Nat.le_refl _) (I1.hok.fresh (Nat.le_refl _))
    | tuple ds =>
      obtain ⟨rfl, rfl⟩ := inj2 e3
      cases rp with
      | @tup a xs _ sq rr =>
        cases rv
        obtain ⟨its, rv', pl, hz⟩ := I1.tuple sq
        refine wpAny_pyIter_tuple (show s1.heap.IsTuple a its.toArray from pl) ?_
        refine ⟨s1.heap.objs.size, [s1.heap.objs.size], _, _, H1, rfl, I1.kept (t' := s1.toks) fun b o e => Heap.get?_push_of_some _ e, turn_tuple a _, ⟨_, Heap.get?_push_size _ rfl, rfl, rfl⟩, fun b hb => ?_, q _ _ _ _ st noloc1 w1 src_tup.one (by rw [← rr.len]; exact hz)⟩
        have e : b = s1.heap.objs.size := by simpa using hb
        subst e
        exact I1.fpOk (Nat.le_refl _) (I1.hok.fresh (Nat.le_refl _))
    | _ => cases e3
theorem i_rng (g : Good G X) (ha : PE X y (tE G X.K a)) (st : notStar y = true) (hn : noNm "range" X.env.scope = true) (hb : (Str.ofString "range") ∈ G.blts) : PI X tg (.Call (.Name "range" p) [y] [] p') (tI G X.K (.rng a)) := by
  refine ⟨fun pins s σ H R I h => ?_⟩
  obtain ⟨B, W, ρ, τ, its, ρ', w, e, q⟩ := h
  simp only [evI, Option.bind_eq_bind, Option.bind_eq_some_iff, Prod.exists] at e
  obtain ⟨ra, ρ1, e1, d, e2, e3⟩ := e
  refine (pi_range1 (glOf hn).1 (g.blts _ hb) (pa_cons ha pa_nil (star1 st)) (star1 st)).run pins s σ H R I ⟨B, W, ρ, τ, ra, ρ1, w, e1, fun v H1 W1 s1 w1 => ?_⟩
  have rq := w1.rq hd_mem e2
  cases d with
  | int i =>
    simp only at e3
    split at e3
    · rename_i hi
      obtain ⟨rfl, rfl⟩ := inj2 e3
      cases rq
      refine ⟨i, rfl, by omega, by omega, ?_⟩
      obtain ⟨W2, s2, w2⟩ := w1.pop.add (Same.refl _) (resP (Rp.non (K := X.K) (H := H1) (O := AV B W1)))
      have src := src_rng (K := X.K) (lo := 0) (hi := i)
      rw [← up_from, show (i - 0).toNat = i.toNat by omega] at src
      exact q _ _ _ _ (s1.trans s2) noloc1 w2 src.one (by unfold upTo; rw [List.length_map, List.length_range, sizeLine_eq]; omega)
    · cases e3
  | _ => cases e3
theorem i_rng2 (g : Good G X) (ha : PE X y (tE G X.K a)) (hb' : PE X x (tE G X.K b)) (st : notStar y = true) (st2 : notStar x = true) (hn : noNm "range" X.env.scope = true) (hb : (Str.ofString "range") ∈ G.blts) : PI X tg (.Call (.Name "range" p) [y, x] [] p') (tI G X.K (.rng2 a b)) := by
  refine ⟨fun pins s σ H R I h => ?_⟩
  obtain ⟨B, W, ρ, τ, its, ρ', w, e, q⟩ := h
  simp only [evI, Option.bind_eq_bind, Option.bind_eq_some_iff, Prod.exists] at e
  obtain ⟨ra, ρ1, e1, rb, ρ2, e2, d, e3, d2, e4, e5⟩ := e
  refine (pi_range2 (glOf hn).1 (g.blts _ hb) (pa_cons ha (pa_cons hb' pa_nil (star1 st2)) (star1 st)) (by rw [star1 st, star1 st2]; rfl) (star1 st2)).run pins s σ H R I ⟨B, W, ρ, τ, ra, ρ1, w, e1, fun v H1 W1 s1 w1 => ⟨B, W1, ρ1, _, rb, ρ2, w1, e2, fun v2 H2 W2 s2 w2 => ?_⟩⟩
  have rq2 := w2.rq hd_mem e4
  have rq1 := w2.rq (List.mem_cons_of_mem _ hd_mem) e3
  cases d with
  | int i =>
    cases d2 with
    | int j =>
      simp only at e5
      split at e5
      · rename_i hi
        obtain ⟨rfl, rfl⟩ := inj2 e5
        cases rq1
        cases rq2
        refine ⟨i, j, rfl, ⟨by omega, by omega, by omega, by omega⟩, ?_⟩
        obtain ⟨W3, s3, w3⟩ := w2.pop.pop.add (Same.refl _) (resP (Rp.non (K := X.K) (H := H2) (O := AV B W2)))
        exact q _ _ _ _ ((s1.trans s2).trans s3) noloc1 w3 src_rng.one (by unfold from2; rw [List.length_map, List.length_range, sizeLine_eq]; omega)
      · cases e5
    | _ => cases e5
  | _ => cases e5
theorem i_enum (g : Good G X) {elts : List Expr} {kk : Nat} {tpos : Pos} (ha : PE X y (tE G X.K a)) (st : notStar y = true) (hn : noNm "enumerate" X.env.scope = true) (hb : (Str.ofString "enumerate") ∈ G.blts) : PI X (.Tuple elts kk tpos) (.Call (.Name "enumerate" p) [y] [] p') (tI G X.K (.enum a)) := by
  refine ⟨fun pins s σ H R I h => ?_⟩
  obtain ⟨B, W, ρ, τ, its, ρ', w, e, q⟩ := h
  simp only [evI, Option.bind_eq_bind, Option.bind_eq_some_iff, Prod.exists] at e
  obtain ⟨ra, ρ1, e1, d, ρ2, e2, e3⟩ := e
  have hs : starEach [y] X.env = [(false, eval y X.env)] := star1 st
  have hA : PA X [y] (tCons (tE G X.K a) tNil) := pa_cons ha pa_nil (star1 st)
  refine Call_ (ld_blt I (glOf hn).1 (g.blts _ hb) boot_enumerate (PyProof.Rows.callWith_type1 (thn (hA.run p' pins s σ H (fun vs H' => ∃ v W', vs = [v] ∧ Stp H W H' W' ∧ Wd X.K H' B W' σ ρ2 ((v, .val false d) :: τ)) I ⟨B, W, ρ, τ, ra, ρ1, w, e1, fun v H1 W1 s1 w1 => ?_⟩) fun us s1 hq => ?_) hs rfl))
  · obtain ⟨W2, s2, w2⟩ := w1.esc e2
    exact ⟨v, W2, rfl, s1.trans s2, w2⟩
  · obtain ⟨vs, H1, I1, rv, v, W1, rfl, st', w1⟩ := hq
    obtain ⟨u, rfl, ru⟩ := vals1 rv
    have rp : Rp X.K H1 (AV B W1) v d := w1.tmp _ hd_mem
    have fp : ∀ b ∈ [s1.heap.objs.size + 1, s1.heap.objs.size], FpOk X pins H1 b := fun b hb => by
      have e' : b = s1.heap.objs.size + 1 ∨ b = s1.heap.objs.size := by simpa using hb
      have hle : s1.heap.objs.size ≤ b := by
        rcases e' with z | z
        · rw [z]; exact Nat.le_add_right _ _
        · rw [z]; exact Nat.le_refl _
      exact I1.fpOk hle (I1.hok.fresh hle)
    cases d with
    | list ds =>
      obtain ⟨rfl, rfl⟩ := inj2 e3
      cases rp with
      | @lst a xs _ no sq rr =>
        cases ru
        obtain ⟨its, rv', pl, hz⟩ := I1.list (.inl sq)
        refine call_enumerate_list pl.isList fun h' he hit hsz hk => wpAny_pyIter_enum he ?_
        have I2 : Inv X pins σ H1 { s1 with heap := h' } := I1.kept (t' := s1.toks) hk
        exact ⟨s1.heap.objs.size + 1, [s1.heap.objs.size + 1, s1.heap.objs.size], _, _, H1, rfl, I2, turn_enum a (s1.heap.objs.size + 1) s1.heap.objs.size, ⟨⟨.none, he⟩, hit, Nat.succ_ne_self _⟩, fp, q _ _ _ _ st' noloc1 w1 src_enum.one (by rw [List.length_mapIdx, ← rr.len]; exact hz)⟩
    | tuple ds =>
      obtain ⟨rfl, rfl⟩ := inj2 e3
      cases rp with
      | @tup a xs _ sq rr =>
        cases ru
        obtain ⟨its, rv', pl, hz⟩ := I1.tuple sq
        have hlt : a < s1.heap.objs.size := pl.lt
        refine EvN.call_enum_tup (show s1.heap.IsTuple a its.toArray from pl) fun h' he hit hsz hk => wpAny_pyIter_enum he ?_
        have I2 : Inv X pins σ H1 { s1 with heap := h' } := I1.kept (t' := s1.toks) hk
        exact ⟨s1.heap.objs.size + 1, [s1.heap.objs.size + 1, s1.heap.objs.size], _, _, H1, rfl, I2, turn_enumT a (s1.heap.objs.size + 1) s1.heap.objs.size, ⟨⟨.none, he⟩, hit, Nat.succ_ne_self _, Nat.ne_of_lt hlt, Nat.ne_of_gt (Nat.lt_succ_of_lt hlt)⟩, fp, q _ _ _ _ st' noloc1 w1 src_enumT.one (by rw [List.length_mapIdx, ← rr.len]; exact hz)⟩
    | _ => cases e3
end
end Ev
set_option Elab.async false
set_option linter.all false
set_option maxRecDepth 100000
set_option maxHeartbeats 4000000
/-! Ev, part 13a: zip of two, each a tuple or a list. -/
namespace Ev
open PySem PySem.Spec PyProof.Rows L2
def SqQ (t : Bool) (K : PySem.W.Frag) (H : Hp) (a : Addr) (xs : List V) : Prop := if t then SqT K H a xs else SqL K H a xs
def IsSq (t : Bool) (h : Heap) (a : Addr) (its : Array Value) : Prop := if t then h.IsTuple a its else h.IsList a its
def IsSqI (t : Bool) (h : Heap) (it a : Addr) (k : Nat) : Prop := if t then h.IsTupleIter it a k else h.IsListIter it a k
def objI (t : Bool) (a : Addr) : Obj := { cls := .type (if t then "tuple_iterator" else "list_iterator"), data := .fields #[.ref a, .int 0 0] }
section
variable {X : Cx} {pins : List (Addr × Obj)} {σ : L2.St} {H : Hp} {s : Shared} {t : Bool} {a it : Addr} {xs : List V} {its : Array Value} {h h' : Heap}
theorem sq_of (I : Inv X pins σ H s) (q : SqQ t X.K H a xs) : ∃ its, Vals xs its ∧ IsSq t s.heap a its.toArray ∧ xs.length ≤ sizeLine ∧ a < s.heap.objs.size := by
  cases t with
  | true =>
    obtain ⟨its, rv, p, z⟩ := I.tuple q
    exact ⟨its, rv, p, z, p.lt⟩
  | false =>
    obtain ⟨its, rv, p, z⟩ := I.list q
    exact ⟨its, rv, p.isList, z, p.lt⟩
theorem sq_inj {ys : List V} (I : Inv X pins σ H s) (q : SqQ t X.K H a xs) (r : SqQ t X.K H a ys) : ys = xs := by
  cases t with
  | true => exact I.tuple_inj r q
  | false => exact I.list_inj r q
theorem IsSq.at' (p : IsSq t h a its) (k : ∀ o, h.get? a = some o → h'.get? a = some o) : IsSq t h' a its := by
  cases t with
  | true =>
    obtain ⟨o, e, r⟩ := (show h.IsTuple a its from p)
    exact (show h'.IsTuple a its from ⟨o, k o e, r⟩)
  | false => exact (show h'.IsList a its from (show h.IsList a its from p).at k)
theorem IsSqI.at' {i : Nat} (p : IsSqI t h it a i) (k : ∀ o, h.get? it = some o → h'.get? it = some o) : IsSqI t h' it a i := by
  cases t with
  | true => exact (show h'.IsTupleIter it a i from (show h.IsTupleIter it a i from p).at k)
  | false => exact (show h'.IsListIter it a i from (show h.IsListIter it a i from p).at k)
theorem IsSqI.obj {i : Nat} (p : IsSqI t h it a i) : ∃ o, h.get? it = some o ∧ ∀ v, o.data ≠ .cell v := by
  cases t with
  | true =>
    obtain ⟨o, e, _, d⟩ := (show h.IsTupleIter it a i from p)
    exact ⟨o, e, fun v q => by rw [d] at q; cases q⟩
  | false =>
    obtain ⟨o, e, _, d⟩ := (show h.IsListIter it a i from p)
    exact ⟨o, e, fun v q => by rw [d] at q; cases q⟩
theorem begins_sq (t : Bool) (a : Addr) (items : Array Value) : Begins (.ref a) (objI t a) fun h => IsSq t h a items := by
  cases t with
  | true => exact begins_tuple a items
  | false => exact begins_list a items
theorem iter_sq (e : h.get? it = some (objI t a)) : IsSqI t h it a 0 := by
  cases t with
  | true => exact (show h.IsTupleIter it a 0 from ⟨_, e, rfl, rfl⟩)
  | false => exact (show h.IsListIter it a 0 from ⟨_, e, rfl, rfl⟩)
theorem draws_sq {prog : Program} {w : World} {A : Around} (hh : A.handled = none) (it a : Addr) (hne : a ≠ it) (items : Array Value) :
    Draws prog w A it [it, a] items.size (fun i v => items[i]? = some v) (fun i h => IsSqI t h it a i ∧ IsSq t h a items) := by
  cases t with
  | true => exact EvN.draws_tup hh it a hne items
  | false => exact Draws.list hh it a hne items
end
/-- the items of a and b as they stand, n of them, in new pairs -/
def ItZ (K : PySem.W.Frag) (ta tb : Bool) (a b : Addr) (n : Nat) : L2.It :=
  ⟨fun i H => i < n ∧ ∃ (xs ys : List V) (x y : V), SqQ ta K H a xs ∧ SqQ tb K H b ys ∧ min xs.length ys.length = n ∧ xs[i]? = some x ∧ ys[i]? = some y,
    fun i H v H' => ∃ T x y, v = .ref T ∧ H T = none ∧ H' = upd H T (.tup [x, y]) ∧ (∀ xs, SqQ ta K H a xs → xs[i]? = some x) ∧ ∀ ys, SqQ tb K H b ys → ys[i]? = some y,
    fun i H => n ≤ i ∧ ∃ xs ys : List V, SqQ ta K H a xs ∧ SqQ tb K H b ys ∧ min xs.length ys.length = n⟩
theorem turn_zq {P : Program} {w : World} {K : PySem.W.Frag} {elts : List Expr} {kk : Nat} {tpos : Pos} {ta tb : Bool} {a b z TI TO i1 i2 : Addr} {n : Nat} (D : ZipSep2 z TI TO i1 i2 [i1, a] [i2, b]) (na : a ≠ i1) (nb : b ≠ i2) :
    Turn P w K (.Tuple elts kk tpos) (ItZ K ta tb a b n) [z, TI, TO, i1, i2] z (fun i h => i ≤ n ∧ IsZip h z TI TO .none ∧ IsTupOf2 h TI (.ref i1) (.ref i2) ∧ (∃ x y, IsTupOf2 h TO x y) ∧ IsSqI ta h i1 a i ∧ IsSqI tb h i2 b i) where
  mem := by simp
  obj := fun i h st c hc => by
    obtain ⟨_, hz, hTI, ⟨x, y, hTO⟩, h1, h2⟩ := st
    have e' : c = z ∨ c = TI ∨ c = TO ∨ c = i1 ∨ c = i2 := by simpa using hc
    rcases e' with q | q | q | q | q
    · rw [q]; exact ⟨_, hz, fun v q => nomatch q⟩
    · rw [q]; exact ⟨_, hTI, fun v q => nomatch q⟩
    · rw [q]; exact ⟨_, hTO, fun v q => nomatch q⟩
    · rw [q]; exact h1.obj
    · rw [q]; exact h2.obj
  keep := fun i h h' st k => by
    obtain ⟨hn, hz, hTI, ⟨x, y, hTO⟩, h1, h2⟩ := st
    exact ⟨hn, k z (by simp) _ hz, k TI (by simp) _ hTI, ⟨x, y, k TO (by simp) _ hTO⟩, h1.at' fun o q => k i1 (by simp) o q, h2.at' fun o q => k i2 (by simp) o q⟩
  item := by
    intro X hP hw hK hc i pins s σ H E I hf st hg
    subst hP hw hK
    obtain ⟨hn, hz, hTI, ⟨x0, y0, hTO⟩, h1, h2⟩ := st
    obtain ⟨hlt, xs, ys, x, y, hqx, hqy, hmin, hx, hy⟩ := hg
    obtain ⟨its, rv, p, _, _⟩ := sq_of I hqx
    obtain ⟨its2, rv2, p2, _, _⟩ := sq_of I hqy
    obtain ⟨u, hu, ru⟩ := rv.get hx
    obtain ⟨u2, hu2, ru2⟩ := rv2.get hy
    have l1 := rv.length
    have l2 := rv2.length
    have hzl : z < s.heap.objs.size := Heap.lt_size hz
    have G := GoesN.zip2 (elts := elts) (x1 := kk) (pos := tpos) D (draws_sq (t := ta) (prog := X.prog) (w := X.w) (A := X.A.in1) (I.ok.hd hc) i1 a na its.toArray) (draws_sq (t := tb) (prog := X.prog) (w := X.w) (A := X.A.in1) (I.ok.hd hc) i2 b nb its2.toArray)
    refine wpAny_mono (G.goes i s (fun v s' => ∃ x H', Inv X pins σ H' s' ∧ RelV x v ∧ (ItZ X.K ta tb a b n).yld i H x H' ∧ (i + 1 ≤ n ∧ IsZip s'.heap z TI TO .none ∧ IsTupOf2 s'.heap TI (.ref i1) (.ref i2) ∧ (∃ x y, IsTupOf2 s'.heap TO x y) ∧ IsSqI ta s'.heap i1 a (i + 1) ∧ IsSqI tb s'.heap i2 b (i + 1)) ∧ ∀ b ∈ [z, TI, TO, i1, i2], H' b = none) E (by simp only [List.size_toArray]; omega) ⟨hz, hTI, ⟨x0, y0, hTO⟩, ⟨h1, p⟩, ⟨h2, p2⟩⟩ fun v h' tk hY st' hk htk => ?_) (fun _ _ h => h) fun _ _ h => h
    obtain ⟨T, v1, v2, rfl, hT, e1, e2, o, ho, hcl, m, hd⟩ := hY
    have e1' : v1 = u := by
      have hu' : its.toArray[i]? = some u := by simpa using hu
      exact Option.some.inj (e1.symm.trans hu')
    have e2' : v2 = u2 := by
      have hu' : its2.toArray[i]? = some u2 := by simpa using hu2
      exact Option.some.inj (e2.symm.trans hu')
    subst e1' e2'
    have new : ObjOk X.prog X.w (upd H T (.tup [x, y])) h' T (.tup [x, y]) :=
      ⟨by show 2 ≤ sizeLine; decide, [v1, v2], .cons ru (.cons ru2 .nil), ⟨o, ho, hcl, m, hd⟩⟩
    have I1 : Inv X pins σ (upd H T (.tup [x, y])) { s with heap := h', toks := tk } :=
      I.turnedNew (t' := tk) (ch := [z, TI, TO, i1, i2]) (fun c o hb q => hk c o (fun hm => hb (by
        have e' : c = z ∨ c = TO ∨ c = i1 ∨ c = i2 := by simpa using hm
        rcases e' with q | q | q | q <;> simp [q])) q) hf hT new
    obtain ⟨z', TI', TO', ⟨h1', _⟩, ⟨h2', _⟩⟩ := st'
    refine ⟨.ref T, _, I1, rfl, ⟨T, x, y, rfl, I.hok.fresh hT, rfl, fun l hl => by rw [sq_inj I hqx hl]; exact hx, fun l hl => by rw [sq_inj I hqy hl]; exact hy⟩, ⟨by omega, z', TI', TO', h1', h2'⟩, fun c hcm => ?_⟩
    have hlt : c < s.heap.objs.size := by
      have e' : c = z ∨ c = TI ∨ c = TO ∨ c = i1 ∨ c = i2 := by simpa using hcm
      rcases e' with q | q | q | q | q
      · rw [q]; exact hzl
      · rw [q]; exact Heap.lt_size hTI
      · rw [q]; exact Heap.lt_size hTO
      · rw [q]; obtain ⟨_, e1, _⟩ := h1.obj; exact Heap.lt_size e1
      · rw [q]; obtain ⟨_, e2, _⟩ := h2.obj; exact Heap.lt_size e2
    rw [upd_ne (Nat.ne_of_lt (Nat.lt_of_lt_of_le hlt hT))]
    exact (hf c hcm).1
  done := by
    intro X hP hw hK hc i pins s σ H E I hf st hg
    subst hP hw hK
    obtain ⟨hn, hz, hTI, ⟨x0, y0, hTO⟩, h1, h2⟩ := st
    obtain ⟨hle, xs, ys, hqx, hqy, hmin⟩ := hg
    obtain ⟨its, rv, p, _, _⟩ := sq_of I hqx
    obtain ⟨its2, rv2, p2, _, _⟩ := sq_of I hqy
    have l1 := rv.length
    have l2 := rv2.length
    have G := GoesN.zip2 (elts := elts) (x1 := kk) (pos := tpos) D (draws_sq (t := ta) (prog := X.prog) (w := X.w) (A := X.A.in1) (I.ok.hd hc) i1 a na its.toArray) (draws_sq (t := tb) (prog := X.prog) (w := X.w) (A := X.A.in1) (I.ok.hd hc) i2 b nb its2.toArray)
    have ei : i = min its.toArray.size its2.toArray.size := by simp only [List.size_toArray]; omega
    have stt : (fun i h => IsZip h z TI TO .none ∧ IsTupOf2 h TI (.ref i1) (.ref i2) ∧ (∃ a1 a2, IsTupOf2 h TO a1 a2) ∧ (IsSqI ta h i1 a i ∧ IsSq ta h a its.toArray) ∧ (IsSqI tb h i2 b i ∧ IsSq tb h b its2.toArray)) (min its.toArray.size its2.toArray.size) s.heap := by
      rw [← ei]; exact ⟨hz, hTI, ⟨x0, y0, hTO⟩, ⟨h1, p⟩, ⟨h2, p2⟩⟩
    refine wpAny_mono (G.stops s (fun s' => Inv X pins σ H s') E stt fun h' tk hk htk => ?_) (fun _ _ h => h) fun _ _ h => h
    exact I.turnedL (t' := tk) (ch := [z, TI, TO, i1, i2]) (fun c o hb q => hk c o (fun hm => hb (by
        have e' : c = z ∨ c = TO ∨ c = i1 ∨ c = i2 := by simpa using hm
        rcases e' with q | q | q | q <;> simp [q])) q) hf
  self := fun A i s Q E st h => wpAny_pyIter_zip st.2.1 h

def isTupD : D → Bool
  | .tuple _ => true
  | _ => false
theorem sq_rp {K : PySem.W.Frag} {H : Hp} {O : AS} {v : V} {d : D} {ds : List D} (h : Rp K H O v d) (e : seqD d = some ds) : ∃ a xs, v = .ref a ∧ SqQ (isTupD d) K H a xs ∧ Rps K H O xs ds := by
  cases d with
  | list l =>
    cases e
    cases h with
    | @lst a xs _ no sq rr => exact ⟨a, xs, rfl, .inl sq, rr⟩
  | tuple l =>
    cases e
    cases h with
    | @tup a xs _ sq rr => exact ⟨a, xs, rfl, sq, rr⟩
  | _ => cases e
theorem src_zq {K : PySem.W.Frag} {a b : Addr} {da db : D} {xs ys : List D} (ea : seqD da = some xs) (eb : seqD db = some ys) :
    SrcL K (ItZ K (isTupD da) (isTupD db) a b (min xs.length ys.length)) [(.ref b, .val false db), (.ref a, .val false da)] (List.zipWith (fun x y => PyData.tuple [x, y]) xs ys) := fun H O q i => by
  obtain ⟨a', vs, e1, sa, ra⟩ := sq_rp (q (.ref a) da (by simp)) ea
  obtain ⟨b', us, e2, sb, rb⟩ := sq_rp (q (.ref b) db (by simp)) eb
  cases e1
  cases e2
  have la := ra.len
  have lb := rb.len
  have hmin : min vs.length us.length = min xs.length ys.length := by rw [la, lb]
  refine ⟨fun e he => ?_, fun hn => ⟨?_, vs, us, sa, sb, hmin⟩⟩
  · rw [List.getElem?_zipWith] at he
    cases hx : xs[i]? with
    | none => rw [hx] at he; simp at he
    | some x =>
      cases hy : ys[i]? with
      | none => rw [hx, hy] at he; simp at he
      | some y =>
        rw [hx, hy] at he
        have he : PyData.tuple [x, y] = e := by simpa using he
        subst he
        obtain ⟨v, h1, r1⟩ := ra.get hx
        obtain ⟨u, h2, r2⟩ := rb.get hy
        have l1 := (List.getElem?_eq_some_iff.mp hx).1
        have l2 := (List.getElem?_eq_some_iff.mp hy).1
        refine ⟨⟨by omega, vs, us, v, u, sa, sb, hmin, h1, h2⟩, fun x0 H' hy0 => ?_⟩
        obtain ⟨T, x1, y1, rfl, n, rfl, g1, g2⟩ := hy0
        have g1 := g1 vs sa
        have g2 := g2 us sb
        rw [h1] at g1
        rw [h2] at g2
        cases g1
        cases g2
        exact ⟨same_up n, rp_tup n (.cons r1 (.cons r2 .nil))⟩
  · have : ¬ i < (List.zipWith (fun x y => PyData.tuple [x, y]) xs ys).length := fun hl => by
      rw [List.getElem?_eq_getElem hl] at hn
      cases hn
    rw [List.length_zipWith] at this
    omega
section
variable {G : Sig} {X : Cx} {y z : Expr} {p p' : Pos} {a b : E}
theorem i_zip (g : Good G X) {elts : List Expr} {kk : Nat} {tpos : Pos} (ha : PE X y (tE G X.K a)) (hb' : PE X z (tE G X.K b)) (st : notStar y = true) (st2 : notStar z = true) (hn : noNm "zip" X.env.scope = true) (hb : (Str.ofString "zip") ∈ G.blts) :
    PI X (.Tuple elts kk tpos) (.Call (.Name "zip" p) [y, z] [] p') (tI G X.K (.zip a b)) := by
  refine ⟨fun pins s σ H R I h => ?_⟩
  obtain ⟨B, W, ρ, τ, its, ρ', w, e, q⟩ := h
  simp only [evI, Option.bind_eq_bind, Option.bind_eq_some_iff, Prod.exists] at e
  obtain ⟨ra, ρ1, e1, rb, ρ2, e2, ds, ρ3, e3, e4⟩ := e
  have hs : starEach [y, z] X.env = (false, eval y X.env) :: starEach [z] X.env := star1 st
  have hs2 : starEach [z] X.env = [(false, eval z X.env)] := star1 st2
  have hA : PA X [y, z] (tCons (tE G X.K a) (tCons (tE G X.K b) tNil)) := pa_cons ha (pa_cons hb' pa_nil (star1 st2)) (star1 st)
  refine Call_ (ld_blt I (glOf hn).1 (g.blts _ hb) PyProof.Rows.boot_zip (PyProof.Rows.callWith_type1 (thn (hA.run p' pins s σ H (fun vs H' => ∃ v v2 W', vs = [v, v2] ∧ Stp H W H' W' ∧ Wd X.K H' B W' σ ρ2 ((v2, rb) :: (v, ra) :: τ)) I ⟨B, W, ρ, τ, ra, ρ1, w, e1, fun v H1 W1 s1 w1 => ⟨B, W1, ρ1, _, rb, ρ2, w1, e2, fun v2 H2 W2 s2 w2 => ⟨v, v2, W2, rfl, s1.trans s2, w2⟩⟩⟩) fun us s1 hq => ?_) hs (by rw [hs2]; rfl)))
  obtain ⟨vs, H1, I1, rv, v, v2, W1, rfl, st1, w1⟩ := hq
  split at e4
  rotate_left
  · cases e4
  rename_i da db
  simp only [Option.bind_eq_some_iff] at e4
  obtain ⟨xs, ea, ys, eb, e5⟩ := e4
  obtain ⟨rfl, rfl⟩ := inj2 e5
  obtain ⟨W2, st2', w2⟩ := Wd.escs [v, v2] [ra, rb] [da, db] ρ2 ρ3 W1 τ rfl w1 e3
  have w2 : Wd X.K H1 B W2 σ ρ3 ([(v2, Ev.R.val false db), (v, Ev.R.val false da)] ++ τ) := w2.1
  have ra' : Rp X.K H1 (AV B W2) v da := w2.tmp (v, Ev.R.val false da) (by simp)
  have rb' : Rp X.K H1 (AV B W2) v2 db := w2.tmp (v2, Ev.R.val false db) (by simp)
  obtain ⟨aa, vs, rfl, sa, rra⟩ := sq_rp ra' ea
  obtain ⟨bb, us2, rfl, sb, rrb⟩ := sq_rp rb' eb
  cases rv with
  | cons r rr =>
    cases rr with
    | cons r' rr =>
      cases rr
      cases r
      cases r'
      obtain ⟨its, rv1, p1, z1, l1⟩ := sq_of I1 sa
      obtain ⟨its2, rv2, p2, z2, l2⟩ := sq_of I1 sb
      have fresh5 : ∀ c, c ∈ [s1.heap.objs.size + 4, s1.heap.objs.size + 2, s1.heap.objs.size + 3, s1.heap.objs.size, s1.heap.objs.size + 1] → FpOk X pins H1 c := fun c hcm => by
        have e' : c = s1.heap.objs.size + 4 ∨ c = s1.heap.objs.size + 2 ∨ c = s1.heap.objs.size + 3 ∨ c = s1.heap.objs.size ∨ c = s1.heap.objs.size + 1 := by simpa using hcm
        have hle : s1.heap.objs.size ≤ c := by
          rcases e' with z | z | z | z | z
          · rw [z]; exact Nat.le_add_right _ _
          · rw [z]; exact Nat.le_add_right _ _
          · rw [z]; exact Nat.le_add_right _ _
          · rw [z]; exact Nat.le_refl _
          · rw [z]; exact Nat.le_add_right _ _
        exact I1.fpOk hle (I1.hok.fresh hle)
      refine zip_begins2 (begins_sq (isTupD da) aa its.toArray) (begins_sq (isTupD db) bb its2.toArray) p1 p2 fun h' hz hTI hTO h1 h2 hsz hk => wpAny_pyIter_zip hz ?_
      have I2 : Inv X pins σ H1 { s1 with heap := h' } := I1.kept (t' := s1.toks) hk
      exact ⟨s1.heap.objs.size + 4, [s1.heap.objs.size + 4, s1.heap.objs.size + 2, s1.heap.objs.size + 3, s1.heap.objs.size, s1.heap.objs.size + 1], _, _, H1, rfl, I2,
        turn_zq (ta := isTupD da) (tb := isTupD db) (n := min xs.length ys.length) (zip_sep2 (N := s1.heap.objs.size) (fp1 := [aa]) (fp2 := [bb]) (fun b hb => by rw [List.mem_singleton.mp hb]; exact l1) (fun b hb => by rw [List.mem_singleton.mp hb]; exact l2)) (Nat.ne_of_lt l1) (Nat.ne_of_lt (Nat.lt_succ_of_lt l2)),
        ⟨Nat.zero_le _, hz, hTI, ⟨_, _, hTO⟩, iter_sq h1, iter_sq h2⟩, fresh5,
        q _ _ _ _ (st1.trans st2') (fun z hz => by
          have e' : z = (V.ref bb, Ev.R.val false db) ∨ z = (V.ref aa, Ev.R.val false da) := by simpa using hz
          rcases e' with q | q <;> (rw [q]; rfl)) w2 (src_zq ea eb) (by
            rw [List.length_zipWith, ← rra.len]
            exact Nat.le_trans (Nat.min_le_left ..) z1)⟩
end
end Ev
set_option Elab.async false
set_option linter.all false
set_option maxRecDepth 100000
set_option maxHeartbeats 4000000
/-! Ev, part 14: methods, is None, tests, targets, comprehensions; every expression. -/
namespace Ev
open PySem PySem.Spec PyProof.Rows L2

section
variable {G : Sig} {X : Cx} {l r m x y tg : Expr} {xs : List Expr} {p p' : Pos} {a b c : E} {es : Es}
theorem upd_step {K : PySem.W.Frag} {H : Hp} {W : AS} {q : Addr} {xs ys : List V} (h : H q = some (.lst xs)) (hw : W q) : Stp H W (upd H q (.lst ys)) W :=
  ⟨fun a o e n => by rw [upd_ne (fun z => n (by rw [z]; exact hw))]; exact e, fun a zs e => by rw [upd_ne (fun z => by rw [z, h] at e; cases e)]; exact e,
    fun a o u e => by rw [upd_ne (fun z => by rw [z, h] at e; cases e)]; exact e, fun a e => by
      by_cases z : a = q
      · rw [z, upd_same] at e; cases e
      · rw [upd_ne z] at e; exact e, fun a h => .inl h⟩
theorem k_meth {mt : Mt} {i : Nat} {v : Str} {vp ap : Pos} (hN : X.N[i]? = some v) (hv : isVis X.env.scope v = true) (hn : okNm v = true) (hs : PA X xs (tEs G X.K es)) (st : noStars xs = true) (hl : (ap.endLine == p.line) = true)
    (hlen : xs.length = if mt = .pop then 0 else 1) (hes : xs = [] → es = .nil) : PE X (.Call (.Attribute (.Name v vp) (mtName mt) ap) xs [] p) (tE G X.K (.meth mt i es)) := by
  have hr : PE X (.Name v vp) (tVar i) := pe_var hN (visOf hv) (nmOf hn).1 (nmOf hn).2.1
  have base : PE X (.Call (.Attribute (.Name v vp) (mtName mt) ap) xs [] p) (tBM X.K "list" (rMt X.K mt) (tVar i) (tEs G X.K es)) := by
    cases xs with
    | nil =>
      have hm : mt = .pop := by
        by_cases h : mt = .pop
        · exact h
        · rw [if_neg h] at hlen; simp at hlen
      subst hm
      refine PE.imp (pe_bm0 PySem.F.plainAttrs_list PySem.F.slot_list_pop PySem.F.type_list_pop (mt_ok .pop) hr rfl hl) fun σ H Q h => ?_
      obtain ⟨v1, h1, h2, h3⟩ := h
      refine ⟨v1, h1, h2, ?_⟩
      have hE := hes rfl
      subst hE
      obtain ⟨B, W, ρ, τ, rs, ρ', w, e, q⟩ := h3
      simp only [evs, Option.some.injEq, Prod.mk.injEq] at e
      obtain ⟨rfl, rfl⟩ := e
      exact q [] H W .refl rfl w
    | cons y ys =>
      have hm : mt ≠ .pop := fun h => by rw [if_pos h] at hlen; simp at hlen
      have hy : ys = [] := by rw [if_neg hm] at hlen; simpa using hlen
      subst hy
      have s1 : notStar y = true := by simpa [noStars] using st
      have hb : attributeBase (.Name v vp) (mtName mt) X.env (eval (.Name v vp) X.env) = eval (.Name v vp) X.env := rfl
      cases mt with
      | append => exact pe_bm PySem.F.plainAttrs_list PySem.F.slot_list_append PySem.F.type_list_append (mt_ok .append) hr hs hb (by rw [star1 s1]; rfl) hl (star1 s1) rfl
      | extend => exact pe_bm PySem.F.plainAttrs_list PySem.F.slot_list_extend PySem.F.type_list_extend (mt_ok .extend) hr hs hb (by rw [star1 s1]; rfl) hl (star1 s1) rfl
      | popAt => exact pe_bm PySem.F.plainAttrs_list PySem.F.slot_list_pop PySem.F.type_list_pop (mt_ok .popAt) hr hs hb (by rw [star1 s1]; rfl) hl (star1 s1) rfl
      | pop => exact absurd rfl hm
  refine PE.imp base fun σ H Q h => ?_
  obtain ⟨B, W, ρ, τ, r, ρ', w, e, q⟩ := h
  simp only [ev] at e
  split at e
  rotate_left
  · cases e
  rename_i x0 h0
  simp only [Option.bind_eq_bind, Option.bind_eq_some_iff, Prod.exists] at e
  obtain ⟨rs, ρ1, e1, ds, ρ2, e2, e3⟩ := e
  split at e3
  rotate_left
  · cases e3
  rename_i x1 h1
  simp only [Option.bind_eq_some_iff, Prod.exists] at e3
  obtain ⟨d, ys, e4, e5⟩ := e3
  obtain ⟨rfl, rfl⟩ := inj2 e5
  obtain ⟨v0, q1, s0, rfl, ws, c⟩ := w.slot i true _ h0
  obtain ⟨zs0, hz0, _⟩ := c
  refine ⟨.ref s0, q1, .inl ⟨rfl, zs0, .inl (.inl hz0)⟩, B, W, ρ, τ, rs, ρ1, w, e1, fun vs H1 W1 s1 hl w1 => ?_⟩
  obtain ⟨W2, s2, w2, hd⟩ := Wd.escs vs rs ds ρ1 ρ2 W1 τ hl w1 e2
  obtain ⟨rp, w3⟩ := w2.rps' hd
  obtain ⟨v', q2, s', rfl, ws', c'⟩ := w3.slot i true _ h1
  rw [q1] at q2
  cases q2
  obtain ⟨zs, hz, rz⟩ := c'
  refine ⟨s0, zs, AV B W2, x1, ds, d, ys, rfl, hz, rz, rp, e4, fun v2 z2 r1 r2 => ?_⟩
  have st3 : Stp H1 W2 (upd H1 s0 (.lst z2)) W2 := upd_step (K := X.K) hz ws'
  obtain ⟨s4, w5⟩ := w3.wr (H' := upd H1 s0 (.lst z2)) (d' := .list ys) h1 q1 (fun b u z e => by rw [upd_ne z]; exact e) (fun xs e => by rw [hz] at e; cases e) (fun ob u e => by rw [hz] at e; cases e) st3.dom
    (fun _ => ⟨z2, upd_same, Rps.mv st3.mv _ _ r2⟩)
  exact w5.fin ((s1.trans s2).trans s4) (Same.refl _) (resP (Rp.mv st3.mv _ _ r1)) q
theorem non_dec {K : PySem.W.Frag} {H : Hp} {O : AS} {v : V} {d : D} (h : Rq K H O v d) : decide (v = .non) = (match d with | .none => true | _ => false) := by
  cases d with
  | none => cases h; rfl
  | bool b => cases h; rfl
  | int b => cases h; rfl
  | str y =>
    have h : Rp K H O v (.str y) := h
    cases h; rfl
  | list ds => obtain ⟨_, _, rfl, _⟩ := h; rfl
  | tuple ds => obtain ⟨_, _, rfl, _⟩ := rq_tp h; rfl
  | dict ds => obtain ⟨_, _, rfl, _⟩ := h; rfl
theorem k_isC (g : Good G X) {ng : Bool} {k : Nat} {p2 : Pos} {op : CmpOp} (ho : op = if ng then .IsNot else .Is) (ha : PE X l (tE G X.K a)) : PE X (.Compare l [op] [.Constant .none k p2] p) (tE G X.K (.isC ng a)) := by
  subst ho
  have dec : ∀ {K : PySem.W.Frag} {H : Hp} {O : AS} {v : V} {d : D}, Rq K H O v d → decide (v = .non) = (match d with | .none => true | _ => false) := fun {K H O v d} h => by
    cases d with
    | none => cases h; rfl
    | bool b => cases h; rfl
    | int b => cases h; rfl
    | str y =>
      have h : Rp K H O v (.str y) := h
      cases h; rfl
    | list ds => obtain ⟨_, _, rfl, _⟩ := h; rfl
    | tuple ds => obtain ⟨_, _, rfl, _⟩ := rq_tp h; rfl
    | dict ds => obtain ⟨_, _, rfl, _⟩ := h; rfl
  cases ng with
  | false =>
    refine PE.imp (pe_cmp (pc_isN ha)) fun σ H Q h => ?_
    obtain ⟨B, W, ρ, τ, r, ρ', w, e, q⟩ := h
    simp only [ev, Option.bind_eq_bind, Option.bind_eq_some_iff, Prod.exists] at e
    obtain ⟨ra, ρ1, e1, da, e3, e4⟩ := e
    obtain ⟨rfl, rfl⟩ := inj2 e4
    refine ⟨B, W, ρ, τ, ra, ρ1, w, e1, fun v1 H1 W1 s1 w1 => ?_⟩
    refine w1.pop.fin s1 (Same.refl _) (resP ?_) q
    rw [dec (w1.rq hd_mem e3)]
    cases da <;> exact .bl _
  | true =>
    refine PE.imp (pe_cmp (pc_notN ha)) fun σ H Q h => ?_
    obtain ⟨B, W, ρ, τ, r, ρ', w, e, q⟩ := h
    simp only [ev, Option.bind_eq_bind, Option.bind_eq_some_iff, Prod.exists] at e
    obtain ⟨ra, ρ1, e1, da, e3, e4⟩ := e
    obtain ⟨rfl, rfl⟩ := inj2 e4
    refine ⟨B, W, ρ, τ, ra, ρ1, w, e1, fun v1 H1 W1 s1 w1 => ?_⟩
    refine w1.pop.fin s1 (Same.refl _) (resP ?_) q
    rw [dec (w1.rq hd_mem e3)]
    cases da <;> exact .bl _

/-! ### tests -/
theorem t_val (ha : PE X x (tE G X.K a)) (h : plainT x = true) : PT X x (tT G X.K (.val a)) := by
  have he : ∀ whole, isTrue x X.env whole = (do let v ← whole; standAt x.pos; holding [v] (truthy v)) := fun whole => by
    cases x with
    | UnaryOp o l p => cases o <;> first | rfl | cases h
    | BoolOp => cases h
    | IfExp => cases h
    | Compare => cases h
    | _ => rfl
  refine PT.imp (pt_truth ha he) fun σ H Q h => ?_
  obtain ⟨B, W, ρ, τ, t, ρ', w, e, q⟩ := h
  simp only [evT, Option.bind_eq_bind, Option.bind_eq_some_iff, Prod.exists] at e
  obtain ⟨ra, ρ1, e1, da, e3, t', e4, e5⟩ := e
  obtain ⟨rfl, rfl⟩ := inj2 e5
  refine ⟨B, W, ρ, τ, ra, ρ1, w, e1, fun v1 H1 W1 s1 w1 => ?_⟩
  exact ⟨_, truth_tru (w1.rq hd_mem e3) e4, q H1 W1 s1 w1.pop⟩
theorem t_cmp (g : Good G X) {c : C2} (ha : PE X l (tE G X.K a)) (hb : PE X r (tE G X.K b)) (hm : behindInMarks (copOf c) r = false) : PT X (.Compare l [copOf c] [r] p) (tT G X.K (.val (.cmp c a b))) := by
  refine PT.imp (pt_cmpR (cmp2_ok (by have := g.un; omega) c) ha hb hm) fun σ H Q h => ?_
  obtain ⟨B, W, ρ, τ, r, ρ', w, e, q⟩ := h
  simp only [evT, ev, Option.bind_eq_bind, Option.bind_eq_some_iff, Prod.exists] at e
  obtain ⟨rr, ρ3, ⟨ra, ρ1, e1, rb, ρ2, e2, da, e3, db, e4, t, e5, e6⟩, dd, e7, tt, e8, e9⟩ := e
  obtain ⟨rfl, rfl⟩ := inj2 e6
  obtain ⟨rfl, rfl⟩ := inj2 e9
  cases e7
  cases e8
  refine ⟨B, W, ρ, τ, ra, ρ1, w, e1, fun v1 H1 W1 s1 w1 => ⟨B, W1, ρ1, _, rb, ρ2, w1, e2, fun v2 H2 W2 s2 w2 => ?_⟩⟩
  refine ⟨_, da, db, _, w2.rq (List.mem_cons_of_mem _ hd_mem) e3, w2.rq hd_mem e4, by unfold cmpR; rw [e5]; rfl, fun v H' sm rs => ?_⟩
  have rs : Rp X.K H' (AV B W2) v (.bool t) := rs
  cases rs
  exact ⟨t, rfl, q _ _ ((s1.trans s2).trans (.ofSame sm)) (w2.pop.pop.grow sm)⟩
theorem t_chain (g : Good G X) {c1 c2 : C2} (ha : PE X l (tE G X.K a)) (hb : PE X m (tE G X.K b)) (hc : PE X r (tE G X.K c)) (hm : lastMarks [copOf c1, copOf c2] [m, r] = false) :
    PT X (.Compare l [copOf c1, copOf c2] [m, r] p) (tT G X.K (.val (.chain c1 c2 a b c))) := by
  refine PT.imp (pt_chain (cmp2_ok (by have := g.un; omega) c1) (cmp2_ok (by have := g.un; omega) c2) ha hb hc hm) fun σ H Q h => ?_
  obtain ⟨B, W, ρ, τ, r, ρ', w, e, q⟩ := h
  simp only [evT, ev, Option.bind_eq_bind, Option.bind_eq_some_iff, Prod.exists] at e
  obtain ⟨rr, ρ9, ⟨ra, ρ1, e1, rb, ρ2, e2, da, e3, db, e4, t, e5, e6⟩, dd, e7, tt, e8, e9⟩ := e
  obtain ⟨rfl, rfl⟩ := inj2 e9
  refine ⟨B, W, ρ, τ, ra, ρ1, w, e1, fun v1 H1 W1 s1 w1 => ⟨B, W1, ρ1, _, rb, ρ2, w1, e2, fun v2 H2 W2 s2 w2 => ?_⟩⟩
  refine ⟨_, da, db, _, w2.rq (List.mem_cons_of_mem _ hd_mem) e3, w2.rq hd_mem e4, by unfold cmpR; rw [e5]; rfl, fun v H' sm rs => ?_⟩
  have rs : Rp X.K H' (AV B W2) v (.bool t) := rs
  cases rs
  refine ⟨t, rfl, ?_⟩
  split at e6
  · rename_i ht
    rw [if_pos ht]
    simp only [Option.bind_eq_some_iff, Prod.exists] at e6
    obtain ⟨rc, ρ3, f7, db', f8, dc, f9, t2, f10, f11⟩ := e6
    obtain ⟨rfl, rfl⟩ := inj2 f11
    cases e7
    have e10 : t2 = tt := by simpa [truth] using e8
    subst e10
    refine ⟨B, W2, ρ2, _, rc, ρ3, w2.grow sm, f7, fun v3 H3 W3 s3 w3 => ?_⟩
    refine ⟨_, db', dc, _, w3.rq (List.mem_cons_of_mem _ hd_mem) f8, w3.rq hd_mem f9, by unfold cmpR; rw [f10]; rfl, fun v H' sm' rs => ?_⟩
    have rs : Rp X.K H' (AV B W3) v (.bool t2) := rs
    cases rs
    exact ⟨t2, rfl, q _ _ ((((s1.trans s2).trans (.ofSame sm)).trans s3).trans (.ofSame sm')) (w3.pop.pop.pop.grow sm')⟩
  · rename_i ht
    rw [if_neg ht]
    obtain ⟨rfl, rfl⟩ := inj2 e6
    cases e7
    cases e8
    exact ⟨false, rfl, q _ _ ((s1.trans s2).trans (.ofSame sm)) (w2.grow sm).pop.pop⟩
theorem t_isC (g : Good G X) {ng : Bool} {k : Nat} {p2 : Pos} {op : CmpOp} (ho : op = if ng then .IsNot else .Is) (ha : PE X l (tE G X.K a)) : PT X (.Compare l [op] [.Constant .none k p2] p) (tT G X.K (.val (.isC ng a))) := by
  subst ho
  cases ng with
  | false =>
    refine PT.imp (pt_cmp (pc_isN ha)) fun σ H Q h => ?_
    obtain ⟨B, W, ρ, τ, r, ρ', w, e, q⟩ := h
    simp only [evT, ev, Option.bind_eq_bind, Option.bind_eq_some_iff, Prod.exists] at e
    obtain ⟨rr, ρ9, ⟨ra, ρ1, e1, da, e3, e4⟩, dd, e7, tt, e8, e9⟩ := e
    obtain ⟨rfl, rfl⟩ := inj2 e4
    obtain ⟨rfl, rfl⟩ := inj2 e9
    cases e7
    refine ⟨B, W, ρ, τ, ra, ρ1, w, e1, fun v1 H1 W1 s1 w1 => ?_⟩
    refine ⟨_, rfl, ?_⟩
    rw [non_dec (w1.rq hd_mem e3)]
    cases da <;> (cases e8; exact q _ _ s1 w1.pop)
  | true =>
    refine PT.imp (pt_cmp (pc_notN ha)) fun σ H Q h => ?_
    obtain ⟨B, W, ρ, τ, r, ρ', w, e, q⟩ := h
    simp only [evT, ev, Option.bind_eq_bind, Option.bind_eq_some_iff, Prod.exists] at e
    obtain ⟨rr, ρ9, ⟨ra, ρ1, e1, da, e3, e4⟩, dd, e7, tt, e8, e9⟩ := e
    obtain ⟨rfl, rfl⟩ := inj2 e4
    obtain ⟨rfl, rfl⟩ := inj2 e9
    cases e7
    refine ⟨B, W, ρ, τ, ra, ρ1, w, e1, fun v1 H1 W1 s1 w1 => ?_⟩
    refine ⟨_, rfl, ?_⟩
    rw [non_dec (w1.rq hd_mem e3)]
    cases da <;> (cases e8; exact q _ _ s1 w1.pop)
theorem k_isB (g : Good G X) {ng c : Bool} {k : Nat} {p2 : Pos} {op : CmpOp} (ho : op = if ng then .IsNot else .Is) (ha : PE X l (tE G X.K a)) : PE X (.Compare l [op] [.Constant (.bool c) k p2] p) (tE G X.K (.isB ng c a)) := by
  subst ho
  cases ng with
  | false =>
    refine PE.imp (pe_cmpR op_isBl ha pe_bl rfl) fun σ H Q h => ?_
    obtain ⟨B, W, ρ, τ, r, ρ', w, e, q⟩ := h
    simp only [ev, Option.bind_eq_bind, Option.bind_eq_some_iff, Prod.exists] at e
    obtain ⟨ra, ρ1, e1, da, e3, e4⟩ := e
    split at e4
    · rename_i b
      obtain ⟨rfl, rfl⟩ := inj2 e4
      refine ⟨B, W, ρ, τ, ra, ρ1, w, e1, fun v1 H1 W1 s1 w1 => ?_⟩
      have hr := w1.rq hd_mem e3
      cases hr
      exact ⟨_, _, rfl, rfl, w1.pop.fin s1 (Same.refl _) (resP (.bl _)) q⟩
    · cases e4
  | true =>
    refine PE.imp (pe_cmpR op_notBl ha pe_bl rfl) fun σ H Q h => ?_
    obtain ⟨B, W, ρ, τ, r, ρ', w, e, q⟩ := h
    simp only [ev, Option.bind_eq_bind, Option.bind_eq_some_iff, Prod.exists] at e
    obtain ⟨ra, ρ1, e1, da, e3, e4⟩ := e
    split at e4
    · rename_i b
      obtain ⟨rfl, rfl⟩ := inj2 e4
      refine ⟨B, W, ρ, τ, ra, ρ1, w, e1, fun v1 H1 W1 s1 w1 => ?_⟩
      have hr := w1.rq hd_mem e3
      cases hr
      exact ⟨_, _, rfl, rfl, w1.pop.fin s1 (Same.refl _) (resP (.bl _)) q⟩
    · cases e4
theorem t_isB (g : Good G X) {ng c : Bool} {k : Nat} {p2 : Pos} {op : CmpOp} (ho : op = if ng then .IsNot else .Is) (ha : PE X l (tE G X.K a)) : PT X (.Compare l [op] [.Constant (.bool c) k p2] p) (tT G X.K (.val (.isB ng c a))) := by
  subst ho
  cases ng with
  | false =>
    refine PT.imp (pt_cmpR op_isBl ha pe_bl rfl) fun σ H Q h => ?_
    obtain ⟨B, W, ρ, τ, r, ρ', w, e, q⟩ := h
    simp only [evT, ev, Option.bind_eq_bind, Option.bind_eq_some_iff, Prod.exists] at e
    obtain ⟨rr, ρ9, ⟨ra, ρ1, e1, da, e3, e4⟩, dd, e7, tt, e8, e9⟩ := e
    split at e4
    · rename_i b
      obtain ⟨rfl, rfl⟩ := inj2 e4
      obtain ⟨rfl, rfl⟩ := inj2 e9
      cases e7
      cases e8
      refine ⟨B, W, ρ, τ, ra, ρ1, w, e1, fun v1 H1 W1 s1 w1 => ?_⟩
      have hr := w1.rq hd_mem e3
      cases hr
      exact ⟨_, _, rfl, rfl, _, rfl, q _ _ s1 w1.pop⟩
    · cases e4
  | true =>
    refine PT.imp (pt_cmpR op_notBl ha pe_bl rfl) fun σ H Q h => ?_
    obtain ⟨B, W, ρ, τ, r, ρ', w, e, q⟩ := h
    simp only [evT, ev, Option.bind_eq_bind, Option.bind_eq_some_iff, Prod.exists] at e
    obtain ⟨rr, ρ9, ⟨ra, ρ1, e1, da, e3, e4⟩, dd, e7, tt, e8, e9⟩ := e
    split at e4
    · rename_i b
      obtain ⟨rfl, rfl⟩ := inj2 e4
      obtain ⟨rfl, rfl⟩ := inj2 e9
      cases e7
      cases e8
      refine ⟨B, W, ρ, τ, ra, ρ1, w, e1, fun v1 H1 W1 s1 w1 => ?_⟩
      have hr := w1.rq hd_mem e3
      cases hr
      exact ⟨_, _, rfl, rfl, _, rfl, q _ _ s1 w1.pop⟩
    · cases e4
theorem t_not {t : Te} (ha : PT X l (tT G X.K t)) : PT X (.UnaryOp .Not l p) (tT G X.K (.not t)) := by
  refine PT.imp (pt_not ha) fun σ H Q h => ?_
  obtain ⟨B, W, ρ, τ, b, ρ', w, e, q⟩ := h
  simp only [evT, Option.bind_eq_bind, Option.bind_eq_some_iff, Prod.exists] at e
  obtain ⟨k, ρ1, e1, e2⟩ := e
  obtain ⟨rfl, rfl⟩ := inj2 e2
  exact ⟨B, W, ρ, τ, k, ρ1, w, e1, fun H1 W1 s1 w1 => q H1 W1 s1 w1⟩
theorem PW.imp {t t' : TT} (h : PW X x t) (i : ∀ σ H Q, t' σ H Q → t σ H Q) : PW X x t' := ⟨fun wh pins s σ H Q I q => h.run wh pins s σ H Q I (i σ H Q q)⟩
theorem w_and {t u : Te} {rs : List Expr} (ha : PT X l (tT G X.K t)) (hb : PW X (.BoolOp .And (r :: rs) p) (tT G X.K u)) : PW X (.BoolOp .And (l :: r :: rs) p) (tT G X.K (.and t u)) := by
  refine PW.imp (pw_and ha hb) fun σ H Q h => ?_
  obtain ⟨B, W, ρ, τ, b, ρ', w, e, q⟩ := h
  simp only [evT, Option.bind_eq_bind, Option.bind_eq_some_iff, Prod.exists] at e
  obtain ⟨k, ρ1, e1, e2⟩ := e
  refine ⟨B, W, ρ, τ, k, ρ1, w, e1, fun H1 W1 s1 w1 => ?_⟩
  split at e2
  · rename_i hk
    rw [if_pos hk]
    exact ⟨B, W1, ρ1, τ, b, ρ', w1, e2, fun H' W' s w => q H' W' (s1.trans s) w⟩
  · rename_i hk
    rw [if_neg hk]
    obtain ⟨rfl, rfl⟩ := inj2 e2
    exact q H1 W1 s1 w1
theorem w_or {t u : Te} {rs : List Expr} (ha : PT X l (tT G X.K t)) (hb : PW X (.BoolOp .Or (r :: rs) p) (tT G X.K u)) : PW X (.BoolOp .Or (l :: r :: rs) p) (tT G X.K (.or t u)) := by
  refine PW.imp (pw_or ha hb) fun σ H Q h => ?_
  obtain ⟨B, W, ρ, τ, b, ρ', w, e, q⟩ := h
  simp only [evT, Option.bind_eq_bind, Option.bind_eq_some_iff, Prod.exists] at e
  obtain ⟨k, ρ1, e1, e2⟩ := e
  refine ⟨B, W, ρ, τ, k, ρ1, w, e1, fun H1 W1 s1 w1 => ?_⟩
  split at e2
  · rename_i hk
    rw [if_pos hk]
    obtain ⟨rfl, rfl⟩ := inj2 e2
    exact q H1 W1 s1 w1
  · rename_i hk
    rw [if_neg hk]
    exact ⟨B, W1, ρ1, τ, b, ρ', w1, e2, fun H' W' s w => q H' W' (s1.trans s) w⟩
theorem c_nil : PTs X [] (Ev.tC G X.K .nil) := ⟨fun pins s σ H Q I h => by
  obtain ⟨B, W, ρ, τ, b, ρ', w, e, q⟩ := h
  simp only [evC, Option.some.injEq, Prod.mk.injEq] at e
  obtain ⟨rfl, rfl⟩ := e
  exact pts_nil.run pins s σ H Q I (q H W .refl w)⟩
theorem c_one {t : Te} (h : PT X x (tT G X.K t)) : PTs X [x] (Ev.tC G X.K (.one t)) := ⟨fun pins s σ H Q I q => by
  obtain ⟨B, W, ρ, τ, b, ρ', w, e, q⟩ := q
  exact (pts_one h).run pins s σ H Q I ⟨B, W, ρ, τ, b, ρ', w, e, q⟩⟩

/-! ### targets -/
theorem Wd.plain {K : PySem.W.Frag} {H : Hp} {B W : AS} {σ : L2.St} {ρ : Rho} {τ : List Itm} {v : V} {d : D} (w : Wd K H B W σ ρ τ) (r : Rp K H (AV B W) v d) : Wd K H B W σ ρ ((v, .val false d) :: τ) := by
  refine ⟨w.len, w.dis, w.bd, w.slot, fun x hx => ?_, w.ap, fun i d v h1 h2 x hx => ?_, .cons (fun y _ d e h => by cases h) w.apS, w.wd⟩
  · rcases List.mem_cons.mp hx with z | z
    · subst z; exact r
    · exact w.tmp x z
  · rcases List.mem_cons.mp hx with z | z
    · subst z; intro e h; cases h
    · exact w.apT i d v h1 h2 x z
theorem asg1 {e : Expr} {es : List Expr} {env : Env} (h : notStar e = true) : assignEach (e :: es) env = (false, assign e env) :: assignEach es env := by
  cases e <;> first | rfl | (exact nomatch h)
def tG (K : PySem.W.Frag) (t : Tg) : TG := fun v σ H Q => ∃ (B W : AS) (ρ : Rho) (τ : List Itm) (d : D) (ρ' : Rho), NoLoc τ ∧ Wd K H B W σ ρ ((v, .val false d) :: τ) ∧ bindT t d ρ = some ρ' ∧
  ∀ σ', σ'.length = σ.length → (∀ i, i ∉ tgs t → σ'[i]? = σ[i]?) → Wd K H B W σ' ρ' τ → Q σ' H
theorem PG.imp {t t' : TG} (h : PG X x t) (i : ∀ v σ H Q, t' v σ H Q → t v σ H Q) : PG X x t' := ⟨fun pins s σ H v u Q I r q => h.run pins s σ H v u Q I r (i v σ H Q q)⟩
theorem bindT_len : ∀ {t : Tg} {d : D} {ρ ρ' : Rho}, bindT t d ρ = some ρ' → ρ'.length = ρ.length
  | .name i, d, ρ, ρ', e => by
    simp only [bindT] at e
    split at e
    · cases e; exact List.length_set
    · cases e
  | .pair a b, d, ρ, ρ', e => by
    cases d with
    | tuple ds =>
      match ds, e with
      | [x, y], e =>
        simp only [bindT] at e
        cases q : bindT a x ρ with
        | none => rw [q] at e; cases e
        | some ρ1 => rw [q] at e; exact (bindT_len e).trans (bindT_len q)
      | [], e => simp [bindT] at e
      | [_], e => simp [bindT] at e
      | _ :: _ :: _ :: _, e => simp [bindT] at e
    | _ => simp [bindT] at e
  | .trip a b c, d, ρ, ρ', e => by
    cases d with
    | tuple ds =>
      match ds, e with
      | [x, y, z], e =>
        simp only [bindT] at e
        cases q : bindT a x ρ with
        | none => rw [q] at e; cases e
        | some ρ1 =>
          rw [q] at e
          simp only at e
          cases q2 : bindT b y ρ1 with
          | none => rw [q2] at e; cases e
          | some ρ2 => rw [q2] at e; exact ((bindT_len e).trans (bindT_len q2)).trans (bindT_len q)
      | [], e => simp [bindT] at e
      | [_], e => simp [bindT] at e
      | [_, _], e => simp [bindT] at e
      | _ :: _ :: _ :: _ :: _, e => simp [bindT] at e
    | _ => simp [bindT] at e
  | .quad a b c f, d, ρ, ρ', e => by
    cases d with
    | tuple ds =>
      match ds, e with
      | [x, y, z, w], e =>
        simp only [bindT] at e
        cases q : bindT a x ρ with
        | none => rw [q] at e; cases e
        | some ρ1 =>
          rw [q] at e
          simp only at e
          cases q2 : bindT b y ρ1 with
          | none => rw [q2] at e; cases e
          | some ρ2 =>
            rw [q2] at e
            simp only at e
            cases q3 : bindT c z ρ2 with
            | none => rw [q3] at e; cases e
            | some ρ3 => rw [q3] at e; exact (((bindT_len e).trans (bindT_len q3)).trans (bindT_len q2)).trans (bindT_len q)
      | [], e => simp [bindT] at e
      | [_], e => simp [bindT] at e
      | [_, _], e => simp [bindT] at e
      | [_, _, _], e => simp [bindT] at e
      | _ :: _ :: _ :: _ :: _ :: _, e => simp [bindT] at e
    | _ => simp [bindT] at e
theorem g_name {i : Nat} {v : Str} {fnb : Bool} (hN : X.N.Nodup) (h : X.N[i]? = some v) (hl : X.env.scope.names.lookup v = some .local ∨ (fnb = true ∧ X.env.scope.names.lookup v = some .cell)) (hf : fnb = true → ∀ x, X.fn x = true) : PG X (.Name v p) (tG X.K (.name i)) := by
  have lo : Loc X.env.scope v := hl.elim .inl fun h => .inr h.2
  have hf' : X.fn v = true ∨ X.env.scope.names.lookup v = some .local := hl.elim .inr fun h => .inl (hf h.1 v)
  refine PG.imp (pg_name hN h lo hf') fun x σ H Q q => ?_
  obtain ⟨B, W, ρ, τ, d, ρ', n, w, e, q⟩ := q
  simp only [bindT] at e
  split at e
  · rename_i hi
    cases e
    exact q _ List.length_set (fun j hj => List.getElem?_set_ne (fun z => hj (by rw [← z]; simp [tgs]))) (w.put n hi)
  · cases e
theorem asgm {e : Expr} {es : List Expr} {env : Env} (h : notStar e = true) : (assignEach (e :: es) env).map (·.2) = assign e env :: (assignEach es env).map (·.2) := by
  rw [asg1 h]
  rfl
theorem g_pair {s t : Tg} {k : Nat} (hc : X.calm = true) (ha : PG X x (tG X.K s)) (hb : PG X y (tG X.K t)) (n1 : notStar x = true) (n2 : notStar y = true) : PG X (.Tuple [x, y] k p) (tG X.K (.pair s t)) := by
  refine PG.imp (pg_tup hc (pgs_cons ha (pgs_cons hb pgs_nil (asgm n2)) (asgm n1)) (by simp only [asg1 n1, asg1 n2, List.length_cons]; rfl) (by simp only [asg1 n1, asg1 n2]; rfl)) fun v σ H Q q => ?_
  obtain ⟨B, W, ρ, τ, d, ρ', n, w, e, q⟩ := q
  cases d with
  | tuple ds =>
    match ds, e, w with
    | [d1, d2], e, w =>
      simp only [bindT] at e
      cases q1 : bindT s d1 ρ with
      | none => rw [q1] at e; cases e
      | some ρ1 =>
        rw [q1] at e
        simp only at e
        have hv : Rp X.K H (AV B W) v (.tuple [d1, d2]) := w.tmp _ hd_mem
        cases hv with
        | @tup a xs _ sq rs =>
          cases rs with
          | @cons v1 _ _ _ r1 rs =>
            cases rs with
            | @cons v2 _ _ _ r2 rs =>
              cases rs
              refine ⟨a, [v1, v2], rfl, sq, rfl, v1, [v2], rfl, B, W, ρ, (v2, .val false d2) :: τ, d1, ρ1, fun z hz => (List.mem_cons.mp hz).elim (fun h => by rw [h]; rfl) (n z), (w.pop.plain r2).plain r1, q1, fun σ1 l1 o1 w1 => ⟨v2, [], rfl, B, W, ρ1, τ, d2, ρ', n, w1, e, fun σ2 l2 o2 w2 => ⟨rfl, ?_⟩⟩⟩
              exact q σ2 (l2.trans l1) (fun i hi => by
                simp only [tgs, List.mem_append, not_or] at hi
                rw [o2 i hi.2, o1 i hi.1]) w2
    | [], e, _ => simp [bindT] at e
    | [_], e, _ => simp [bindT] at e
    | _ :: _ :: _ :: _, e, _ => simp [bindT] at e
  | _ => simp [bindT] at e
theorem g_trip {s t u : Tg} {k : Nat} {z : Expr} (hc : X.calm = true) (ha : PG X x (tG X.K s)) (hb : PG X y (tG X.K t)) (hd : PG X z (tG X.K u)) (n1 : notStar x = true) (n2 : notStar y = true) (n3 : notStar z = true) : PG X (.Tuple [x, y, z] k p) (tG X.K (.trip s t u)) := by
  refine PG.imp (pg_tup hc (pgs_cons ha (pgs_cons hb (pgs_cons hd pgs_nil (asgm n3)) (asgm n2)) (asgm n1)) (by simp only [asg1 n1, asg1 n2, asg1 n3, List.length_cons]; rfl) (by simp only [asg1 n1, asg1 n2, asg1 n3]; rfl)) fun v σ H Q q => ?_
  obtain ⟨B, W, ρ, τ, d, ρ', n, w, e, q⟩ := q
  cases d with
  | tuple ds =>
    match ds, e, w with
    | [d1, d2, d3], e, w =>
      simp only [bindT] at e
      cases q1 : bindT s d1 ρ with
      | none => rw [q1] at e; cases e
      | some ρ1 =>
        rw [q1] at e
        simp only at e
        cases q2 : bindT t d2 ρ1 with
        | none => rw [q2] at e; cases e
        | some ρ2 =>
          rw [q2] at e
          simp only at e
          have hv : Rp X.K H (AV B W) v (.tuple [d1, d2, d3]) := w.tmp _ hd_mem
          cases hv with
          | @tup a xs _ sq rs =>
            cases rs with
            | @cons v1 _ _ _ r1 rs =>
              cases rs with
              | @cons v2 _ _ _ r2 rs =>
                cases rs with
                | @cons v3 _ _ _ r3 rs =>
                  cases rs
                  have n' : NoLoc ((v3, R.val false d3) :: τ) := fun z hz => (List.mem_cons.mp hz).elim (fun h => by rw [h]; rfl) (n z)
                  refine ⟨a, [v1, v2, v3], rfl, sq, rfl, v1, [v2, v3], rfl, B, W, ρ, (v2, .val false d2) :: (v3, .val false d3) :: τ, d1, ρ1, fun z hz => (List.mem_cons.mp hz).elim (fun h => by rw [h]; rfl) (n' z), ((w.pop.plain r3).plain r2).plain r1, q1,
                    fun σ1 l1 o1 w1 => ⟨v2, [v3], rfl, B, W, ρ1, (v3, .val false d3) :: τ, d2, ρ2, n', w1, q2, fun σ2 l2 o2 w2 => ⟨v3, [], rfl, B, W, ρ2, τ, d3, ρ', n, w2, e, fun σ3 l3 o3 w3 => ⟨rfl, ?_⟩⟩⟩⟩
                  exact q σ3 ((l3.trans l2).trans l1) (fun i hi => by
                    simp only [tgs, List.mem_append, not_or] at hi
                    rw [o3 i hi.2, o2 i hi.1.2, o1 i hi.1.1]) w3
    | [], e, _ => simp [bindT] at e
    | [_], e, _ => simp [bindT] at e
    | [_, _], e, _ => simp [bindT] at e
    | _ :: _ :: _ :: _ :: _, e, _ => simp [bindT] at e
  | _ => simp [bindT] at e
theorem g_quad {s t u o : Tg} {k : Nat} {z q0 : Expr} (hc : X.calm = true) (ha : PG X x (tG X.K s)) (hb : PG X y (tG X.K t)) (hd : PG X z (tG X.K u)) (hf : PG X q0 (tG X.K o)) (n1 : notStar x = true) (n2 : notStar y = true) (n3 : notStar z = true) (n4 : notStar q0 = true) :
    PG X (.Tuple [x, y, z, q0] k p) (tG X.K (.quad s t u o)) := by
  refine PG.imp (pg_tup hc (pgs_cons ha (pgs_cons hb (pgs_cons hd (pgs_cons hf pgs_nil (asgm n4)) (asgm n3)) (asgm n2)) (asgm n1)) (by simp only [asg1 n1, asg1 n2, asg1 n3, asg1 n4, List.length_cons]; rfl) (by simp only [asg1 n1, asg1 n2, asg1 n3, asg1 n4]; rfl)) fun v σ H Q q => ?_
  obtain ⟨B, W, ρ, τ, d, ρ', n, w, e, q⟩ := q
  cases d with
  | tuple ds =>
    match ds, e, w with
    | [d1, d2, d3, d4], e, w =>
      simp only [bindT] at e
      cases q1 : bindT s d1 ρ with
      | none => rw [q1] at e; cases e
      | some ρ1 =>
        rw [q1] at e
        simp only at e
        cases q2 : bindT t d2 ρ1 with
        | none => rw [q2] at e; cases e
        | some ρ2 =>
          rw [q2] at e
          simp only at e
          cases q3 : bindT u d3 ρ2 with
          | none => rw [q3] at e; cases e
          | some ρ3 =>
            rw [q3] at e
            simp only at e
            have hv : Rp X.K H (AV B W) v (.tuple [d1, d2, d3, d4]) := w.tmp _ hd_mem
            cases hv with
            | @tup a xs _ sq rs =>
              cases rs with
              | @cons v1 _ _ _ r1 rs =>
                cases rs with
                | @cons v2 _ _ _ r2 rs =>
                  cases rs with
                  | @cons v3 _ _ _ r3 rs =>
                    cases rs with
                    | @cons v4 _ _ _ r4 rs =>
                      cases rs
                      have n4' : NoLoc ((v4, R.val false d4) :: τ) := fun z hz => (List.mem_cons.mp hz).elim (fun h => by rw [h]; rfl) (n z)
                      have n3' : NoLoc ((v3, R.val false d3) :: (v4, R.val false d4) :: τ) := fun z hz => (List.mem_cons.mp hz).elim (fun h => by rw [h]; rfl) (n4' z)
                      refine ⟨a, [v1, v2, v3, v4], rfl, sq, rfl, v1, [v2, v3, v4], rfl, B, W, ρ, (v2, .val false d2) :: (v3, .val false d3) :: (v4, .val false d4) :: τ, d1, ρ1, fun z hz => (List.mem_cons.mp hz).elim (fun h => by rw [h]; rfl) (n3' z), (((w.pop.plain r4).plain r3).plain r2).plain r1, q1,
                        fun σ1 l1 o1 w1 => ⟨v2, [v3, v4], rfl, B, W, ρ1, (v3, .val false d3) :: (v4, .val false d4) :: τ, d2, ρ2, n3', w1, q2, fun σ2 l2 o2 w2 => ⟨v3, [v4], rfl, B, W, ρ2, (v4, .val false d4) :: τ, d3, ρ3, n4', w2, q3, fun σ3 l3 o3 w3 => ⟨v4, [], rfl, B, W, ρ3, τ, d4, ρ', n, w3, e, fun σ4 l4 o4 w4 => ⟨rfl, ?_⟩⟩⟩⟩⟩
                      exact q σ4 (((l4.trans l3).trans l2).trans l1) (fun i hi => by
                        simp only [tgs, List.mem_append, not_or] at hi
                        rw [o4 i hi.2, o3 i hi.1.2, o2 i hi.1.1.2, o1 i hi.1.1.1]) w4
    | [], e, _ => simp [bindT] at e
    | [_], e, _ => simp [bindT] at e
    | [_, _], e, _ => simp [bindT] at e
    | [_, _, _], e, _ => simp [bindT] at e
    | _ :: _ :: _ :: _ :: _ :: _, e, _ => simp [bindT] at e
  | _ => simp [bindT] at e
theorem chkT_star {b : Bool} {N : List Str} {sc : Scope} {t : Tg} (h : chkT b N sc t x = true) : notStar x = true := by
  cases x with
  | Starred => cases t <;> simp [chkT] at h
  | _ => rfl
theorem g_ok {fnb : Bool} (hc : X.calm = true) (nd : X.N.Nodup) (hf : fnb = true → ∀ x, X.fn x = true) : ∀ (t : Tg) (x : Expr), chkT fnb X.N X.env.scope t x = true → PG X x (tG X.K t)
  | .name i, x, h => by
    cases x with
    | Name v p =>
      simp only [chkT, Bool.and_eq_true, decide_eq_true_eq] at h
      exact g_name nd h.1 h.2 hf
    | _ => simp [chkT] at h
  | .pair s t, x, h => by
    cases x with
    | Tuple es k p =>
      match es, h with
      | [y, z], h =>
        simp only [chkT, Bool.and_eq_true] at h
        exact g_pair hc (g_ok hc nd hf s y h.1) (g_ok hc nd hf t z h.2) (chkT_star h.1) (chkT_star h.2)
      | [], h => simp [chkT] at h
      | [_], h => simp [chkT] at h
      | _ :: _ :: _ :: _, h => simp [chkT] at h
    | _ => simp [chkT] at h
  | .trip s t u, x, h => by
    cases x with
    | Tuple es k p =>
      match es, h with
      | [y, z, w], h =>
        simp only [chkT, Bool.and_eq_true] at h
        exact g_trip hc (g_ok hc nd hf s y h.1.1) (g_ok hc nd hf t z h.1.2) (g_ok hc nd hf u w h.2) (chkT_star h.1.1) (chkT_star h.1.2) (chkT_star h.2)
      | [], h => simp [chkT] at h
      | [_], h => simp [chkT] at h
      | [_, _], h => simp [chkT] at h
      | _ :: _ :: _ :: _ :: _, h => simp [chkT] at h
    | _ => simp [chkT] at h
  | .quad s t u o, x, h => by
    cases x with
    | Tuple es k p =>
      match es, h with
      | [y, z, w, q], h =>
        simp only [chkT, Bool.and_eq_true] at h
        exact g_quad hc (g_ok hc nd hf s y h.1.1.1) (g_ok hc nd hf t z h.1.1.2) (g_ok hc nd hf u w h.1.2) (g_ok hc nd hf o q h.2) (chkT_star h.1.1.1) (chkT_star h.1.1.2) (chkT_star h.1.2) (chkT_star h.2)
      | [], h => simp [chkT] at h
      | [_], h => simp [chkT] at h
      | [_, _], h => simp [chkT] at h
      | [_, _, _], h => simp [chkT] at h
      | _ :: _ :: _ :: _ :: _ :: _, h => simp [chkT] at h
    | _ => simp [chkT] at h
end
end Ev
set_option Elab.async false
set_option linter.all false
set_option maxRecDepth 100000
set_option maxHeartbeats 4000000
/-! Ev: calls that change a fresh list, dicts by get, pop, items, sorted(set(t)), min with a default, four targets. -/
namespace Ev
open PySem PySem.Spec PyProof.Rows L2

section
variable {K : PySem.W.Frag} {H H' : Hp} {B W : AS} {σ : L2.St} {ρ : Rho}
/-- an object at hand is written and then dropped -/
theorem Wd.wrF {τ : List Itm} {x : Itm} {d : D} {p : Addr} (w : Wd K H B W σ ρ (x :: (.ref p, .val true d) :: τ))
    (k : ∀ b o, b ≠ p → H b = some o → H' b = some o) (tup : ∀ xs, H p ≠ some (.tup xs)) (frz : ∀ o u, H p ≠ some (.frz o u)) (dom : ∀ b, H' b = none → H b = none) : Stp H W H' W ∧ Wd K H' B W σ ρ (x :: τ) := by
  obtain ⟨p', ep, wp, c0⟩ : ItV K H B W (.ref p) true d := w.tmp _ (List.mem_cons_of_mem _ List.mem_cons_self)
  cases ep
  have s : Stp H W H' W := ⟨fun a o e n => k a o (fun z => n (by rw [z]; exact wp)) e, fun a xs e => k a _ (fun z => tup xs (by rw [← z]; exact e)) e, fun a o u e => k a _ (fun z => frz o u (by rw [← z]; exact e)) e, dom, fun a h => .inl h⟩
  have go : ∀ {v o d}, (o = true → v ≠ .ref p) → ItV K H B W v o d → ItV K H' B W v o d := fun {v o d} ne q => q.go s fun q' u ho hv hw hu => ⟨k q' u (fun z => ne ho (by rw [hv, z])) hu, hw⟩
  have w0 : Wd K H B W σ ρ (x :: τ) := w.sub (.cons₂ _ (List.sublist_cons_self ..))
  have ap := w.apS
  rw [List.pairwise_cons] at ap
  have ap2 := ap.2
  rw [List.pairwise_cons] at ap2
  refine ⟨s, w.len, w.dis, fun a h => ?_, fun i o e h => ?_, fun y hy => ?_, w0.ap, w0.apT, w0.apS, fun a h => ?_⟩
  · obtain ⟨o, q⟩ := w.bd a h
    cases q' : H' a with
    | some o' => exact ⟨o', rfl⟩
    | none => rw [dom a q'] at q; cases q
  · obtain ⟨v, h1, h2⟩ := w.slot i o e h
    refine ⟨v, h1, go (fun ho z => ?_) h2⟩
    subst ho; subst z
    exact w.apT i e (.ref p) h h1 _ (List.mem_cons_of_mem _ List.mem_cons_self) d rfl rfl
  · have := w0.tmp y hy
    obtain ⟨v', r'⟩ := y
    cases r' with
    | val o e =>
      refine go (fun ho z => ?_) this
      subst ho; subst z
      rcases List.mem_cons.mp hy with q | q
      · subst q
        exact ap.1 _ List.mem_cons_self _ _ rfl rfl rfl
      · exact ap2.1 _ q _ _ rfl rfl rfl
    | loc j => exact this
  · obtain ⟨o, q⟩ := w.wd a h
    cases q' : H' a with
    | some o' => exact ⟨o', rfl⟩
    | none => rw [dom a q'] at q; cases q
end
section
variable {G : Sig} {X : Cx} {l r m x y : Expr} {xs : List Expr} {p p' : Pos} {a b c : E} {es : Es}
theorem k_callf (g : Good G X) {f : Str} (hs : PA X (y :: xs) (tEs G X.K (.cons a es))) (st : noStars (y :: xs) = true) (hn : noNm f X.env.scope = true) : PE X (.Call (.Name f p) (y :: xs) [] p') (tE G X.K (.callf f a es)) := by
  obtain ⟨gl, n1, n2⟩ := glOf hn
  have st2 : notStar y = true ∧ noStars xs = true := by
    unfold noStars at st ⊢
    rw [List.all_cons, Bool.and_eq_true] at st
    exact st
  refine ⟨fun pins s σ H Q I h => ?_⟩
  obtain ⟨B, W, ρ, τ, r, ρ', w, e, q⟩ := h
  simp only [ev, Option.bind_eq_bind, Option.bind_eq_some_iff, Prod.exists] at e
  obtain ⟨ra, ρ1, e0, rs, ρ2, e1, ds, e2, F, e3, e4⟩ := e
  split at e4
  rotate_left
  · cases e4
  rename_i x1
  simp only [Option.bind_eq_some_iff, Prod.exists] at e4
  obtain ⟨o, d, d0, e5, e6⟩ := e4
  split at e6
  rotate_left
  · cases e6
  rename_i ds'
  split at e6
  · cases e6
  rename_i hc
  split at e6
  · cases e6
  rename_i hf
  obtain ⟨rfl, rfl⟩ := inj2 e6
  have hc' : F.chg = true := by simpa using hc
  have hf' : rs.any isLocR = false := by simpa using hf
  have O := g.fns f F e3
  have e1' : evs G (.cons a es) ρ = some (.val true (.list x1) :: rs, ρ2) := by
    simp only [evs, e0, e1, Option.bind_eq_bind, Option.bind_some]
  refine (O.call g.gd gl hs n1 (star1 st2.1) (back_any st2.2) spF_len).run pins s σ H Q I ⟨B, W, ρ, τ, _, ρ2, w, e1', fun vs H1 W1 s1 hl w1 => ?_⟩
  cases vs with
  | nil => simp at hl
  | cons v0 vs =>
    rw [zip_rev] at w1
    have hl2 : vs.length = rs.length := by simpa using hl
    obtain ⟨W2, s2, w2, rp, bd⟩ := w1.callArgs hl2 e2
    obtain ⟨s', rfl, ws, ys, hy, ry⟩ : ItV X.K H1 B W2 v0 true (.list x1) := w2.tmp _ hd_mem
    unfold spF
    rw [hc']
    have hB : ∀ a, AV B W2 a → ((AV B W2 a ∧ a ≠ s') ∨ a = s') := fun a h => by
      by_cases z : a = s'
      · exact .inr z
      · exact .inl ⟨h, z⟩
    have hB' : ∀ a, ((AV B W2 a ∧ a ≠ s') ∨ a = s') → AV B W2 a := fun a h => h.elim (fun h => h.1) fun z => by rw [z]; exact .inr ws
    refine ⟨fun a => AV B W2 a ∧ a ≠ s', s', ys, vs, x1, ds, ds', (o, d), rfl, hy, fun h => h.2 rfl, fun a h => h.1.elim (w2.bd a) (w2.wd a), Rps.mv (Mv.less hB') _ _ ry, Rps.mv (Mv.less fun a h => ⟨hB' a h, noLent hf' a⟩) _ _ rp, e5, fun v H' zs keep hz rz res => ?_⟩
    let Hn : Hp := fun b => if b = s' then H1 s' else H' b
    have hns : Hn s' = H1 s' := if_pos rfl
    have hno : ∀ b, b ≠ s' → Hn b = H' b := fun b n => if_neg n
    have sm : Same H1 Hn := fun b u e => by
      by_cases z : b = s'
      · rw [z, hns]; rw [z] at e; exact e
      · rw [hno b z]; exact keep b u z e
    have mv : ∀ O : AS, (O s') → Mv X.K H' O Hn O := fun O os => by
      refine ⟨fun a xs h => ?_, fun a xs n h => ?_, fun a kvs n h => ?_, fun _ n _ => n⟩
      · rcases h with (h | ⟨ob, h⟩) | h
        · exact .inl (.inl (by rw [hno a (fun z => by rw [z, hz] at h; cases h)]; exact h))
        · exact .inl (.inr ⟨ob, by rw [hno a (fun z => by rw [z, hz] at h; cases h)]; exact h⟩)
        · exact .inr h
      · have z : a ≠ s' := fun z => n (by rw [z]; exact os)
        rcases h with h | ⟨ob, h⟩
        · exact .inl (by rw [hno a z]; exact h)
        · exact .inr ⟨ob, by rw [hno a z]; exact h⟩
      · have z : a ≠ s' := fun z => n (by rw [z]; exact os)
        rw [hno a z]; exact h
    have res' : Res X.K H1 Hn (AV B W2) v o d := by
      cases o with
      | false => exact Rp.mv (Mv.less hB) _ _ (Rp.mv (mv _ (.inr rfl)) _ _ res)
      | true =>
        obtain ⟨p, e, n, c⟩ := res
        have ps : p ≠ s' := fun z => by rw [z, hy] at n; cases n
        refine ⟨p, e, n, (c.mv (mv _ (.inl (.inr rfl))) fun u e => by rw [hno p ps]; exact e).mv (Mv.less fun a h => ?_) fun _ q => q⟩
        exact h.elim (fun h => .inl (hB a h)) .inr
    obtain ⟨W3, s3, w4⟩ := w2.add sm res'
    obtain ⟨s4, w5⟩ := w4.wrF (H' := H') (fun b u z e => by rw [hno b z] at e; exact e) (fun xs e => by rw [hns, hy] at e; cases e) (fun ob u e => by rw [hns, hy] at e; cases e)
      (fun b e => by
        by_cases z : b = s'
        · rw [z, hz] at e; cases e
        · rw [hno b z]; exact e)
    exact q v H' W3 (((s1.trans s2).trans s3).trans s4) w5
theorem key_rp {K : PySem.W.Frag} {H : Hp} {O : AS} {v : V} {x : D} (hk : isKey x = true) (h : Rq K H O v x) : Rp K H O v x := by
  cases x <;> first | (simp [isKey] at hk; done) | exact h
theorem k_dget (g : Good G X) {i : Nat} {v : Str} {vp ap : Pos} (hN : X.N[i]? = some v) (hv : isVis X.env.scope v = true) (hn : okNm v = true) (hb : PE X y (tE G X.K b)) (st : notStar y = true) (hl : (ap.endLine == p.line) = true) :
    PE X (.Call (.Attribute (.Name v vp) "get" ap) [y] [] p) (tE G X.K (.dget i b)) := by
  have hr : PE X (.Name v vp) (tVar i) := pe_var hN (visOf hv) (nmOf hn).1 (nmOf hn).2.1
  refine PE.imp (pe_dget1 (by have := g.un; omega) hr hb ⟨rfl, by rw [star1 st]; rfl, hl, by rw [star1 st]; rfl⟩) fun σ H Q h => ?_
  obtain ⟨B, W, ρ, τ, r, ρ', w, e, q⟩ := h
  simp only [ev] at e
  split at e
  rotate_left
  · cases e
  rename_i o0 d0 h0
  simp only [Option.bind_eq_bind, Option.bind_eq_some_iff, Prod.exists] at e
  obtain ⟨rk, ρ1, e1, x, e2, e3⟩ := e
  split at e3
  rotate_left
  · cases e3
  rename_i o1 kvs h1
  split at e3
  rotate_left
  · cases e3
  rename_i hk
  obtain ⟨rfl, rfl⟩ := inj2 e3
  obtain ⟨v0, q1, it0⟩ := w.slot i o0 _ h0
  obtain ⟨a0, ks0, rfl, hk0, _⟩ := it0.rq
  refine ⟨.ref a0, q1, a0, rfl, .inl ⟨ks0, .inl hk0⟩, B, W, ρ, τ, rk, ρ1, w, e1, fun v2 H2 W2 s2 w2 => ?_⟩
  obtain ⟨v', q2, it2⟩ := w2.slot i o1 _ h1
  rw [q1] at q2
  cases q2
  obtain ⟨a1, ks, ea, hk1, rks⟩ := it2.rq
  cases ea
  have rx := key_rp hk (w2.rq hd_mem e2)
  obtain ⟨key, rfl⟩ := key_of hk rx
  refine ⟨valV ks key, .inl ⟨ks, key, .inl hk1, rfl, rfl⟩, w2.pop.fin s2 (Same.refl _) (resP ?_) q⟩
  rcases dget_of rx rks with ⟨h1, h2⟩ | ⟨u, e, h1, h2, h3⟩
  · rw [h1, h2]; exact .non
  · rw [h1, h2]; exact h3
theorem k_dgetd (g : Good G X) {i : Nat} {v : Str} {vp ap : Pos} {z : Expr} (hN : X.N[i]? = some v) (hv : isVis X.env.scope v = true) (hn : okNm v = true) (hb : PE X y (tE G X.K b)) (st : notStar y = true) (hc : PE X z (tE G X.K c)) (st2 : notStar z = true) (hl : (ap.endLine == p.line) = true) :
    PE X (.Call (.Attribute (.Name v vp) "get" ap) [y, z] [] p) (tE G X.K (.dgetd i b c)) := by
  have hr : PE X (.Name v vp) (tVar i) := pe_var hN (visOf hv) (nmOf hn).1 (nmOf hn).2.1
  refine PE.imp (pe_dget2 (by have := g.un; omega) hr hb hc ⟨rfl, by rw [star1 st, star1 st2]; rfl, hl, by rw [star1 st, star1 st2]; rfl⟩) fun σ H Q h => ?_
  obtain ⟨B, W, ρ, τ, r, ρ', w, e, q⟩ := h
  simp only [ev] at e
  split at e
  rotate_left
  · cases e
  rename_i o0 d0 h0
  simp only [Option.bind_eq_bind, Option.bind_eq_some_iff, Prod.exists] at e
  obtain ⟨rk, ρ1, e1, rz, ρ2, e2, yd, ρ3, e3, x, e4, e5⟩ := e
  split at e5
  rotate_left
  · cases e5
  rename_i o1 kvs h1
  split at e5
  rotate_left
  · cases e5
  rename_i hk
  obtain ⟨rfl, rfl⟩ := inj2 e5
  obtain ⟨v0, q1, it0⟩ := w.slot i o0 _ h0
  obtain ⟨a0, ks0, rfl, hk0, _⟩ := it0.rq
  refine ⟨.ref a0, q1, a0, rfl, .inl ⟨ks0, .inl hk0⟩, B, W, ρ, τ, rk, ρ1, w, e1, fun v2 H2 W2 s2 w2 => ⟨B, W2, ρ1, _, rz, ρ2, w2, e2, fun v3 H3 W3 s3 w3 => ?_⟩⟩
  obtain ⟨W4, s4, w4, r4⟩ := esc_fin w3 e3
  obtain ⟨v', q2, it2⟩ := w4.slot i o1 _ h1
  rw [q1] at q2
  cases q2
  obtain ⟨a1, ks, ea, hk1, rks⟩ := it2.rq
  cases ea
  have rx := key_rp hk (w4.rq (List.mem_cons_of_mem _ hd_mem) e4)
  obtain ⟨key, rfl⟩ := key_of hk rx
  refine ⟨valV ks key, .inl ⟨ks, key, .inl hk1, rfl, rfl⟩, w4.pop.pop.fin ((s2.trans s3).trans s4) (Same.refl _) (resP ?_) q⟩
  rcases dget_of rx rks with ⟨h1, h2⟩ | ⟨u, e, h1, h2, h3⟩
  · rw [h1, h2]; exact r4
  · rw [h1, h2]; exact h3
theorem ddrop_of {K : PySem.W.Frag} {H : Hp} {O : AS} {k : Key} {d : D} (hd : Rp K H O (kV k) d) : ∀ {kvs : List (Key × V)} {kds : List (D × D)}, RpKs K H O kvs kds → RpKs K H O (dropK kvs k) (ddrop kds d)
  | [], _, h => by cases h; exact .nil
  | (q, v) :: r, _, h => by
    cases h with
    | @cons _ _ _ e1 d1 s a b c =>
      have ke : keyEq e1 d = decide (q = k) := keyEq_of a hd
      have ih := ddrop_of hd c
      unfold dropK ddrop at ih ⊢
      rw [List.filter_cons, List.filter_cons]
      by_cases hq : q = k
      · rw [if_neg (by simp [hq]), if_neg (by simp [ke, hq])]
        exact ih
      · rw [if_pos (by simp [hq]), if_pos (by simp [ke, hq])]
        exact .cons a b ih
theorem k_dpop (g : Good G X) {i : Nat} {v : Str} {vp ap : Pos} (hN : X.N[i]? = some v) (hv : isVis X.env.scope v = true) (hn : okNm v = true) (hb : PE X y (tE G X.K b)) (st : notStar y = true) (hl : (ap.endLine == p.line) = true) :
    PE X (.Call (.Attribute (.Name v vp) "pop" ap) [y] [] p) (tE G X.K (.dpop i b)) := by
  have hr : PE X (.Name v vp) (tVar i) := pe_var hN (visOf hv) (nmOf hn).1 (nmOf hn).2.1
  refine PE.imp (pe_dpop1 hr hb ⟨rfl, by rw [star1 st]; rfl, hl, by rw [star1 st]; rfl⟩) fun σ H Q h => ?_
  obtain ⟨B, W, ρ, τ, r, ρ', w, e, q⟩ := h
  simp only [ev] at e
  split at e
  rotate_left
  · cases e
  rename_i d0 h0
  simp only [Option.bind_eq_bind, Option.bind_eq_some_iff, Prod.exists] at e
  obtain ⟨rk, ρ1, e1, x, e2, e3⟩ := e
  split at e3
  rotate_left
  · cases e3
  rename_i kvs h1
  simp only [Option.bind_eq_some_iff] at e3
  obtain ⟨y0, e4, e5⟩ := e3
  split at e5
  rotate_left
  · cases e5
  rename_i hk
  obtain ⟨rfl, rfl⟩ := inj2 e5
  obtain ⟨v0, q1, it0⟩ := w.slot i true _ h0
  obtain ⟨a0, ks0, rfl, hk0, _⟩ := it0.rq
  refine ⟨.ref a0, q1, a0, rfl, .inl ⟨ks0, .inl hk0⟩, B, W, ρ, τ, rk, ρ1, w, e1, fun v2 H2 W2 s2 w2 => ?_⟩
  obtain ⟨v', q2, a1, ea, ws, ks, hz, rks⟩ := w2.slot i true _ h1
  subst ea
  rw [q1] at q2
  cases q2
  have rx := key_rp hk (w2.rq hd_mem e2)
  obtain ⟨key, rfl⟩ := key_of hk rx
  rcases dget_of rx rks with ⟨g1, _⟩ | ⟨u, e, g1, g2, g3⟩
  · rw [e4] at g1; cases g1
  rw [e4] at g1
  cases g1
  refine ⟨ks, key, u, hz, rfl, g2, ?_⟩
  have st3 : Stp H2 W2 (upd H2 a0 (.dK (dropK ks key))) W2 :=
    ⟨fun a o e n => by rw [upd_ne (fun z => n (by rw [z]; exact ws))]; exact e, fun a zs e => by rw [upd_ne (fun z => by rw [z, hz] at e; cases e)]; exact e,
      fun a o u e => by rw [upd_ne (fun z => by rw [z, hz] at e; cases e)]; exact e, fun a e => by
        by_cases z : a = a0
        · rw [z, upd_same] at e; cases e
        · rw [upd_ne z] at e; exact e, fun a h => .inl h⟩
  obtain ⟨s4, w5⟩ := w2.pop.wr (H' := upd H2 a0 (.dK (dropK ks key))) (d' := .dict (ddrop kvs x)) h1 q1 (fun b u z e => by rw [upd_ne z]; exact e) (fun xs e => by rw [hz] at e; cases e) (fun ob u e => by rw [hz] at e; cases e) st3.dom
    (fun _ => ⟨_, upd_same, RpKs.mv st3.mv _ _ (ddrop_of rx rks)⟩)
  exact w5.fin (s2.trans s4) (Same.refl _) (resP (Rp.mv st3.mv _ _ g3)) q
theorem rps_items {K : PySem.W.Frag} {H : Hp} {O : AS} : ∀ {ts : List Addr} {kvs : List (Key × V)} {kds : List (D × D)}, Paired (fun (t : Addr) (q : Key × V) => H t = some (.tup [kV q.1, q.2])) ts kvs → RpKs K H O kvs kds → Rps K H O (ts.map V.ref) (kds.map fun p => .tuple [p.1, p.2])
  | [], [], _, .nil, h => by cases h; exact .nil
  | t :: ts, (k, v) :: kvs, _, .cons a b, h => by
    cases h with
    | cons c1 c2 c3 => exact .cons (.tup (.inl (.inl a)) (.cons c1 (.cons c2 .nil))) (rps_items b c3)
theorem k_ditems (g : Good G X) {i : Nat} {v : Str} {vp ap fp cp : Pos} (hN : X.N[i]? = some v) (hv : isVis X.env.scope v = true) (hn : okNm v = true) (hn2 : noNm "list" X.env.scope = true) (hb : (Str.ofString "list") ∈ G.blts) (hl : (ap.endLine == cp.line) = true) :
    PE X (.Call (.Name "list" fp) [.Call (.Attribute (.Name v vp) "items" ap) [] [] cp] [] p) (tE G X.K (.ditems i)) := by
  have hr : PE X (.Name v vp) (tVar i) := pe_var hN (visOf hv) (nmOf hn).1 (nmOf hn).2.1
  obtain ⟨gl, n1, n2⟩ := glOf hn2
  refine PE.imp (LiI.pe_listItems g.calm hr gl (g.blts _ hb) (by decide +kernel) rfl hl) fun σ H Q h => ?_
  obtain ⟨B, W, ρ, τ, r, ρ', w, e, q⟩ := h
  simp only [ev] at e
  split at e
  rotate_left
  · cases e
  rename_i o0 kvs h0
  obtain ⟨rfl, rfl⟩ := inj2 e
  obtain ⟨v0, q1, it0⟩ := w.slot i o0 _ h0
  obtain ⟨a0, ks0, rfl, hk0, rks⟩ := it0.rq
  refine ⟨.ref a0, q1, a0, ks0, rfl, hk0, fun H' p ts k1 k2 k3 k4 k5 k6 => w.fin .refl k1 (show Res X.K H H' (AV B W) (.ref p) true (.list (kvs.map fun p => .tuple [p.1, p.2])) from ⟨p, rfl, k2, _, k5, ?_⟩) q⟩
  exact rps_items k6 (RpKs.mv (Mv.new k1 k2) _ _ rks)
theorem insU_mem {x k : Int} : ∀ {l : List Int}, k ∈ insU x l ↔ k = x ∨ k ∈ l
  | [] => by simp [insU]
  | y :: r => by
    unfold insU
    by_cases h : x < y
    · rw [if_pos h]; simp
    · rw [if_neg h]
      by_cases h2 : x = y
      · rw [if_pos h2]; subst h2; simp
      · rw [if_neg h2, List.mem_cons, insU_mem, List.mem_cons]
        constructor
        · rintro (h | h | h)
          · exact .inr (.inl h)
          · exact .inl h
          · exact .inr (.inr h)
        · rintro (h | h | h)
          · exact .inr (.inl h)
          · exact .inl h
          · exact .inr (.inr h)
theorem insU_up {x : Int} : ∀ {l : List Int}, l.Pairwise (· < ·) → (insU x l).Pairwise (· < ·)
  | [], _ => List.pairwise_singleton ..
  | y :: r, h => by
    rw [List.pairwise_cons] at h
    unfold insU
    by_cases c : x < y
    · rw [if_pos c, List.pairwise_cons]
      refine ⟨fun z hz => ?_, List.pairwise_cons.mpr h⟩
      rcases List.mem_cons.mp hz with e | e
      · rw [e]; exact c
      · exact Int.lt_trans c (h.1 z e)
    · rw [if_neg c]
      by_cases c2 : x = y
      · rw [if_pos c2]; exact List.pairwise_cons.mpr h
      · rw [if_neg c2, List.pairwise_cons]
        refine ⟨fun z hz => ?_, insU_up h.2⟩
        rcases insU_mem.mp hz with e | e
        · rw [e]; omega
        · exact h.1 z e
theorem sortU_mem {k : Int} : ∀ {l : List Int}, k ∈ sortU l ↔ k ∈ l
  | [] => Iff.rfl
  | x :: r => by
    unfold sortU
    rw [insU_mem, sortU_mem, List.mem_cons]
theorem sortU_up : ∀ l : List Int, (sortU l).Pairwise (· < ·)
  | [] => .nil
  | x :: r => insU_up (sortU_up r)
theorem up_one : ∀ {a b : List Int}, a.Pairwise (· < ·) → b.Pairwise (· < ·) → (∀ k, k ∈ a ↔ k ∈ b) → a = b
  | [], [], _, _, _ => rfl
  | [], y :: s, _, _, h => absurd ((h y).mpr List.mem_cons_self) List.not_mem_nil
  | x :: r, [], _, _, h => absurd ((h x).mp List.mem_cons_self) List.not_mem_nil
  | x :: r, y :: s, ha, hb, h => by
    rw [List.pairwise_cons] at ha hb
    have exy : x = y := by
      have h1 := (h x).mp List.mem_cons_self
      have h2 := (h y).mpr List.mem_cons_self
      rcases List.mem_cons.mp h1 with e | e
      · exact e
      · rcases List.mem_cons.mp h2 with e2 | e2
        · exact e2.symm
        · have := hb.1 x e
          have := ha.1 y e2
          omega
    subst exy
    congr 1
    refine up_one ha.2 hb.2 fun k => ⟨fun hk => ?_, fun hk => ?_⟩
    · rcases List.mem_cons.mp ((h k).mp (List.mem_cons_of_mem _ hk)) with e | e
      · have := ha.1 k hk; omega
      · exact e
    · rcases List.mem_cons.mp ((h k).mpr (List.mem_cons_of_mem _ hk)) with e | e
      · have := hb.1 k hk; omega
      · exact e
/-- set(t), t a tuple of ints -/
def rSetTI (w : World) (K : PySem.W.Frag) : List V → Hp → VK → Prop := fun vs H Q => ∃ (a : Addr) (ns : List Int), vs = [V.ref a] ∧ SqT K H a (ns.map V.int) ∧ ns.length < 64 ∧
  ∀ (p : Addr) (c : Nat), H p = none → c ≤ ns.length → Q (.ref p) (upd H p (SetO w p (fun j => decide (j ∈ ns)) c))
theorem cr_setTI (hc : X.calm = true) : CallR X (.type "set") (rSetTI X.w X.K) := by
  intro pins s σ H vs us Q I r h
  obtain ⟨a, ns, rfl, sq, h64, q⟩ := h
  obtain ⟨its, rv, ht, hz⟩ := I.tuple sq
  obtain ⟨u, rfl, ru⟩ := vals1 r
  obtain rfl : u = Value.ref a := ru
  refine call_set_tupI ns (I.ok.hd hc) ht (by simpa using rv.ints) (by unfold scanBound; omega) fun h' tk c R hc' kp => ?_
  exact ⟨.ref _, upd H s.heap.objs.size (SetO X.w s.heap.objs.size (fun j => decide (j ∈ ns)) c), I.laid (t' := tk) kp (Nat.le_refl _) (setO_new R), rfl, q _ c (I.hok.fresh (Nat.le_refl _)) hc'⟩
theorem k_sset (g : Good G X) {p1 p2 p3 : Pos} (ha : PE X y (tE G X.K a)) (st : notStar y = true) (hn : noNm "sorted" X.env.scope = true) (hb : (Str.ofString "sorted") ∈ G.blts) (hn2 : noNm "set" X.env.scope = true) (hb2 : (Str.ofString "set") ∈ G.blts) :
    PE X (.Call (.Name "sorted" p1) [.Call (.Name "set" p2) [y] [] p3] [] p) (tE G X.K (.sset a)) := by
  obtain ⟨gl, n1, n2⟩ := glOf hn
  obtain ⟨gl2, m1, m2⟩ := glOf hn2
  have inner : PE X (.Call (.Name "set" p2) [y] [] p3) (tCB (rSetTI X.w X.K) (fun σ H Q => tE G X.K a σ H fun v H1 => Q [v] H1)) :=
    pe_callTy (cr_setTI g.calm) gl2 (g.blts _ hb2) PyProof.Rows.boot_set (pa_cons ha pa_nil (star1 st)) m2 m1 (star1 st) rfl
  refine PE.imp (pe_callB (cr_sortedSet g.calm) gl (g.blts _ hb) PyProof.Rows.boot_sorted (pa_cons inner pa_nil) n2 n1) fun σ H Q h => ?_
  obtain ⟨B, W, ρ, τ, r, ρ', w, e, q⟩ := h
  simp only [ev, Option.bind_eq_bind, Option.bind_eq_some_iff, Prod.exists] at e
  obtain ⟨ra, ρ1, e1, da, e3, e4⟩ := e
  split at e4
  rotate_left
  · cases e4
  rename_i xs
  simp only [Option.bind_eq_some_iff] at e4
  obtain ⟨ns, e5, e6⟩ := e4
  split at e6
  rotate_left
  · cases e6
  rename_i h64
  obtain ⟨rfl, rfl⟩ := inj2 e6
  refine ⟨B, W, ρ, τ, ra, ρ1, w, e1, fun v1 H1 W1 s1 w1 => ?_⟩
  obtain ⟨a0, vs, rfl, sq, rs⟩ := rq_tp (w1.rq hd_mem e3)
  have ev := rs.asInts e5
  subst ev
  refine ⟨a0, ns, rfl, sq, h64, fun ps c np hc => ⟨ps, _, c, rfl, upd_same, by omega, fun ns' pl up mem len nl => ?_⟩⟩
  have is : ns' = sortU ns := up_one up (sortU_up ns) fun k => by rw [mem, sortU_mem, decide_eq_true_eq]
  subst is
  have sm1 := same_up (o := SetO X.w ps (fun j => decide (j ∈ ns)) c) np
  have sm2 := same_up (o := .lst ((sortU ns).map V.int)) nl
  have nl0 : H1 pl = none := sm1.free nl
  refine w1.pop.fin s1 (fun b u e => sm2 _ _ (sm1 _ _ e)) (show Res X.K H1 _ (AV B W1) (.ref pl) true (.list ((sortU ns).map .int)) from ⟨pl, rfl, nl0, _, upd_same, rps_ints _⟩) q
theorem k_mind (g : Good G X) {p1 kp kp2 : Pos} {k0 : Nat} (ha : PE X y (tE G X.K a)) (st : notStar y = true) (hn : noNm "min" X.env.scope = true) (hb : (Str.ofString "min") ∈ G.blts) :
    PE X (.Call (.Name "min" p1) [y] [⟨some "default", .Constant .none k0 kp, kp2⟩] p) (tE G X.K (.mind a)) := by
  obtain ⟨gl, n1, n2⟩ := glOf hn
  refine PE.imp (pe_callBK (mind_ok g.calm) gl (g.blts _ hb) PyProof.Rows.boot_min (pa_cons ha pa_nil (star1 st)) (pk_cons pe_non pk_nil) n2 n1 (by rw [star1 st]; rfl) (by rw [star1 st]; rfl) rfl rfl rfl) fun σ H Q h => ?_
  obtain ⟨B, W, ρ, τ, r, ρ', w, e, q⟩ := h
  simp only [ev, Option.bind_eq_bind, Option.bind_eq_some_iff, Prod.exists] at e
  obtain ⟨ra, ρ1, e1, da, e3, d, e4, e5⟩ := e
  obtain ⟨rfl, rfl⟩ := inj2 e5
  refine ⟨B, W, ρ, τ, ra, ρ1, w, e1, fun v1 H1 W1 s1 w1 => ?_⟩
  exact ⟨_, v1, da, d, rfl, rfl, w1.rq hd_mem e3, e4, fun v hr => w1.pop.fin s1 (Same.refl _) (resP hr) q⟩
end
end Ev
set_option Elab.async false
set_option linter.all false
set_option maxRecDepth 100000
set_option maxHeartbeats 4000000
/-! Ev, part 15: comprehensions. -/
namespace Ev
open PySem PySem.Spec PyProof.Rows L2
variable {K : PySem.W.Frag} {H H' H1 : Hp} {B W W1 : AS} {σ : L2.St} {ρ ρ1 ρf : Rho} {τ : List Itm}

/-- a value at hand, one's own, is written -/
theorem Wd.wrT {d d' : D} {p : Addr} (w : Wd K H B W σ ρ ((.ref p, .val true d) :: τ)) (k : ∀ b o, b ≠ p → H b = some o → H' b = some o) (tup : ∀ xs, H p ≠ some (.tup xs)) (frz : ∀ o u, H p ≠ some (.frz o u)) (dom : ∀ b, H' b = none → H b = none)
    (c : Cont K H' (AV B W) p d') : Stp H W H' W ∧ Wd K H' B W σ ρ ((.ref p, .val true d') :: τ) := by
  obtain ⟨p', e0, wp, c0⟩ := w.tmp _ hd_mem
  have e0 : V.ref p = V.ref p' := e0
  cases e0
  have h0 := List.pairwise_cons.mp w.apS
  have s : Stp H W H' W := ⟨fun a o e n => k a o (fun z => n (by rw [z]; exact wp)) e, fun a xs e => k a _ (fun z => tup xs (by rw [← z]; exact e)) e, fun a o u e => k a _ (fun z => frz o u (by rw [← z]; exact e)) e, dom, fun a h => .inl h⟩
  have go : ∀ {v o d}, (o = true → v ≠ .ref p) → ItV K H B W v o d → ItV K H' B W v o d := fun {v o d} ne q => q.go s fun q' u ho hv hw hu => ⟨k q' u (fun z => ne ho (by rw [hv, z])) hu, hw⟩
  have th : ∀ a, (∃ o, H a = some o) → ∃ o, H' a = some o := fun a ⟨o, q⟩ => by
    cases q' : H' a with
    | some o' => exact ⟨o', rfl⟩
    | none => rw [dom a q'] at q; cases q
  refine ⟨s, w.len, w.dis, fun a h => th a (w.bd a h), fun i o e h => ?_, fun x hx => ?_, w.ap, fun i e v h1 h2 x hx e' he => ?_, .cons (fun y hy e1 e2 z1 z2 => h0.1 y hy d e2 rfl z2) h0.2, fun a h => th a (w.wd a h)⟩
  · obtain ⟨v, h1, h2⟩ := w.slot i o e h
    refine ⟨v, h1, go (fun ho z => ?_) h2⟩
    subst ho
    exact w.apT i e v h h1 _ hd_mem d rfl z.symm
  · rcases List.mem_cons.mp hx with z | z
    · subst z
      exact ⟨p, rfl, wp, c⟩
    · have := w.tmp x (List.mem_cons_of_mem _ z)
      obtain ⟨v', r'⟩ := x
      cases r' with
      | val o e => exact go (fun ho q => by
          subst ho
          exact h0.1 _ z d e rfl rfl q.symm) this
      | loc j => exact this
  · rcases List.mem_cons.mp hx with z | z
    · subst z
      exact w.apT i e v h1 h2 (.ref p, .val true d) hd_mem d rfl
    · exact w.apT i e v h1 h2 x (List.mem_cons_of_mem _ z) e' he

def keepIt (σ : L2.St) (ρ : Rho) (vs : List Nat) : List Itm := vs.filterMap fun v => match look ρ v, σ[v]? with
  | some (false, d), some (some x) => some (x, R.val false d)
  | _, _ => none
theorem Wd.keep (w : Wd K H B W σ ρ τ) : ∀ vs : List Nat, Wd K H B W σ ρ (keepIt σ ρ vs ++ τ)
  | [] => w
  | v :: vs => by
    have ih := Wd.keep w vs
    unfold keepIt
    rw [List.filterMap_cons]
    cases h : look ρ v with
    | none => exact ih
    | some p =>
      obtain ⟨o, d⟩ := p
      cases o with
      | true => exact ih
      | false =>
        obtain ⟨x, h1, h2⟩ := w.slot v false d h
        simp only [h1]
        exact ih.plain h2
theorem keep_noloc (vs : List Nat) : NoLoc (keepIt σ ρ vs) := fun x hx => by
  obtain ⟨v, _, e⟩ := List.mem_filterMap.mp hx
  split at e
  · cases e; rfl
  · cases e
theorem mem_keep {vs : List Nat} {v : Nat} {d : D} {x : V} (hv : v ∈ vs) (h : look ρ v = some (false, d)) (h1 : σ[v]? = some (some x)) : (x, R.val false d) ∈ keepIt σ ρ vs :=
  List.mem_filterMap.mpr ⟨v, hv, by simp only [h, h1]⟩
theorem backR_len (ρ0 ρ : Rho) : ∀ vs : List Nat, (backR ρ0 ρ vs).length = ρ.length
  | [] => rfl
  | v :: vs => by unfold backR; rw [List.length_set, backR_len ρ0 ρ vs]
theorem look_getD {ρ0 : Rho} {v : Nat} : (ρ0.getD v none) = look ρ0 v := by
  unfold look
  rw [List.getD_eq_getElem?_getD]
  cases ρ0[v]? with
  | none => rfl
  | some p => cases p <;> rfl
theorem look_back {ρ0 ρ : Rho} {j : Nat} : ∀ {vs : List Nat}, look (backR ρ0 ρ vs) j = if j ∈ vs ∧ j < ρ.length then look ρ0 j else look ρ j
  | [] => by simp [backR]
  | v :: vs => by
    unfold backR
    rw [look_set, backR_len, look_back (vs := vs), look_getD]
    by_cases h : v = j
    · subst h
      by_cases hl : v < ρ.length
      · rw [if_pos ⟨rfl, hl⟩, if_pos ⟨List.mem_cons_self, hl⟩]
      · rw [if_neg (fun z => hl z.2), if_neg (fun z => hl z.2), if_neg (fun z => hl z.2)]
    · rw [if_neg (fun z => h z.1)]
      by_cases hm : j ∈ vs ∧ j < ρ.length
      · rw [if_pos hm, if_pos ⟨List.mem_cons_of_mem _ hm.1, hm.2⟩]
      · rw [if_neg hm, if_neg (fun z => hm ⟨(List.mem_cons.mp z.1).resolve_left (fun e => h e.symm), z.2⟩)]
theorem Wd.back {vs : List Nat} {τ2 : List Itm} {Di : Itm} (hl : ρf.length = ρ1.length) (hp : ∀ v ∈ vs, plainAt ρ1 v = true) (h1 : Wd K H1 B W1 σ ρ1 τ) (hn : ∀ v ∈ vs, look ρf v = none)
    (w : Wd K H B W (L2.wipe σ vs) ρf (Di :: (keepIt σ ρ1 vs ++ τ2))) (nl : NoLoc (Di :: τ2)) : Wd K H B W σ (backR ρ1 ρf vs) (Di :: τ2) := by
  have w0 : Wd K H B W (L2.wipe σ vs) ρf (Di :: τ2) := w.sub (.cons₂ _ (List.sublist_append_right ..))
  have out : ∀ {i o d}, look ρf i = some (o, d) → i ∉ vs := fun {i o d} h z => by rw [hn i z] at h; cases h
  have own : ∀ {i d}, look (backR ρ1 ρf vs) i = some (true, d) → look ρf i = some (true, d) ∧ i ∉ vs := fun {i d} h => by
    rw [look_back] at h
    split at h
    · rename_i z
      have := hp i z.1
      unfold plainAt at this
      rw [h] at this
      cases this
    · exact ⟨h, out h⟩
  refine ⟨by rw [backR_len, w.len, wipe_length], w0.dis, w0.bd, fun i o d h => ?_, NoLoc.ok nl w0.tmp, fun i j di dj v ne a b e => ?_, fun i d v a b => ?_, w0.apS, w0.wd⟩
  · rw [look_back] at h
    split at h
    · rename_i z
      cases o with
      | true =>
        have := hp i z.1
        unfold plainAt at this
        rw [h] at this
        cases this
      | false =>
        obtain ⟨x, e1, _⟩ := h1.slot i false d h
        exact ⟨x, e1, w.tmp _ (List.mem_cons_of_mem _ (List.mem_append_left _ (mem_keep z.1 h e1)))⟩
    · obtain ⟨v, e1, e2⟩ := w0.slot i o d h
      rw [wipe_at (out h)] at e1
      exact ⟨v, e1, e2⟩
  · obtain ⟨a1, a2⟩ := own a
    obtain ⟨b1, b2⟩ := own b
    have q := w0.ap i j di dj v ne a1 b1 (by rw [wipe_at a2]; exact e)
    rw [wipe_at b2] at q
    exact q
  · obtain ⟨a1, a2⟩ := own a
    exact w0.apT i d v a1 (by rw [wipe_at a2]; exact b)
theorem wipe_ext {σ σ2 : L2.St} {vs : List Nat} (hl : σ2.length = σ.length) (h : ∀ i, i ∉ vs → σ2[i]? = (L2.wipe σ vs)[i]?) : L2.wipe σ2 vs = L2.wipe σ vs := by
  apply List.ext_getElem?
  intro i
  by_cases hi : i ∈ vs
  · have none_at : ∀ (s : L2.St) (vs : List Nat), i ∈ vs → (L2.wipe s vs)[i]? = if i < s.length then some none else none := fun s vs => by
      induction vs with
      | nil => intro h; cases h
      | cons v vs ih =>
        intro h
        unfold L2.wipe
        by_cases e : v = i
        · subst e
          by_cases c : v < s.length
          · rw [List.getElem?_set_self (by rw [wipe_length]; exact c), if_pos c]
          · rw [List.getElem?_eq_none (by rw [List.length_set, wipe_length]; omega), if_neg c]
        · rw [List.getElem?_set_ne e]
          exact ih ((List.mem_cons.mp h).resolve_left fun z => e z.symm)
    rw [none_at σ2 vs hi, none_at σ vs hi, hl]
  · rw [wipe_at hi, h i hi]
/-- without the places that are borrowed -/
def bare (τ : List Itm) : List Itm := τ.filter fun x => !isLocR x.2
theorem bare_noloc (τ : List Itm) : NoLoc (bare τ) := fun x hx => by
  have := (List.mem_filter.mp hx).2
  simpa using this
theorem Wd.unbare {x : Itm} {H0 : Hp} {W0 : AS} {ρ0 : Rho} (w0 : Wd K H0 B W0 σ ρ0 τ) (w : Wd K H B W σ ρ (x :: bare τ)) : Wd K H B W σ ρ (x :: τ) := by
  have mem : ∀ y ∈ τ, ∀ e, y.2 = .val true e → y ∈ bare τ := fun y hy e he => List.mem_filter.mpr ⟨hy, by rw [he]; rfl⟩
  have h0 := List.pairwise_cons.mp w.apS
  refine ⟨w.len, w.dis, w.bd, w.slot, fun y hy => ?_, w.ap, fun i d v h1 h2 y hy e he => ?_, ?_, w.wd⟩
  · rcases List.mem_cons.mp hy with z | z
    · subst z; exact w.tmp _ hd_mem
    · by_cases hb : isLocR y.2 = true
      · have := w0.tmp y z
        obtain ⟨v, r⟩ := y
        cases r with
        | val o d => cases hb
        | loc i => exact this
      · exact w.tmp y (List.mem_cons_of_mem _ (List.mem_filter.mpr ⟨z, by simpa using hb⟩))
  · rcases List.mem_cons.mp hy with z | z
    · subst z; exact w.apT i d v h1 h2 _ hd_mem e he
    · exact w.apT i d v h1 h2 y (List.mem_cons_of_mem _ (mem y z e he)) e he
  · refine .cons (fun y hy d e z1 z2 => h0.1 y (mem y hy e z2) d e z1 z2) ?_
    exact w0.apS

section
variable {G : Sig} {X : Cx} {x y tg : Expr} {p : Pos} {a elt : E}
def CInv (K : PySem.W.Frag) (B : AS) (σ : L2.St) (vs : List Nat) (H0 : Hp) (W2 : AS) (Da : Addr) (τin : List Itm) (turn : D → Rho → Option (Option D × Rho)) (its ys : List D) (ρ2 : Rho) (n i : Nat) (Hc : Hp) : Prop :=
  ∃ (Wc : AS) (ρc : Rho) (ds rest : List D), Stp H0 W2 Hc Wc ∧ Wd K Hc B Wc (L2.wipe σ vs) ρc ((.ref Da, .val true (.list ds)) :: τin) ∧ compF turn vs (its.drop i) ρc = some (rest, ρ2) ∧ ys = ds ++ rest ∧ ds.length ≤ i ∧ (∀ v ∈ vs, look ρc v = none) ∧ ρc.length = n
theorem k_comp (g : Good G X) {vs : List Nat} {tgt : Tg} {it : It} {cd : Tes} {ifs : List Expr} {scope : Scope} {own : List (Str × Nat)} (ho : own.map (·.2) = vs) (hi : PI X tg x (tI G X.K it)) (ok : BlkOk X.N X.env.scope scope own)
    (hg : ∀ (s : Shared) (H : Hp) (C : Addr) (cl : List (Str × Addr)) (fp : List Addr), PG (X.blk s H scope (compEnvC scope cl C X.env) fp) tg (tG X.K tgt))
    (ht : ∀ (s : Shared) (H : Hp) (C : Addr) (cl : List (Str × Addr)) (fp : List Addr), PTs (X.blk s H scope (compEnvC scope cl C X.env) fp) ifs (Ev.tC G X.K cd))
    (he : ∀ (s : Shared) (H : Hp) (C : Addr) (cl : List (Str × Addr)) (fp : List Addr), PE (X.blk s H scope (compEnvC scope cl C X.env) fp) y (tE G X.K elt))
    (hs : ∀ v, foldedSetIterable x X.env v = pure v) (hv : (tgs tgt).all (fun i => vs.contains i) = true) : ∀ σ H Q, tE G X.K (.comp vs tgt it cd elt) σ H Q → tLc (tI G X.K it) (tG X.K tgt) (Ev.tC G X.K cd) (tE G X.K elt) vs σ H Q := by
  intro σ H Q h
  obtain ⟨B, W, ρ, τ, r, ρ', w, e, q⟩ := h
  simp only [ev, Option.bind_eq_bind, Option.bind_eq_some_iff, Prod.exists] at e
  obtain ⟨its, ρ1, e1, e2⟩ := e
  split at e2
  rotate_left
  · cases e2
  rename_i hpl
  rw [Bool.and_eq_true, List.all_eq_true] at hpl
  simp only [Option.bind_eq_some_iff, Prod.exists] at e2
  obtain ⟨ys, ρ2, e3, e4⟩ := e2
  obtain ⟨rfl, rfl⟩ := inj2 e4
  refine ⟨B, W, ρ, τ, its, ρ1, w, e1, fun J zs H1 W1 s1 nz w1 src hlen Da hDa => ?_⟩
  -- at the start
  have wb : Wd X.K H1 B W1 σ ρ1 (zs ++ bare τ) := w1.sub ((List.Sublist.refl zs).append List.filter_sublist)
  have nlb : NoLoc (keepIt σ ρ1 vs ++ (zs ++ bare τ)) := fun z hz => by
    rcases List.mem_append.mp hz with h | h
    · exact keep_noloc vs z h
    · rcases List.mem_append.mp h with h | h
      · exact nz z h
      · exact bare_noloc τ z h
  obtain ⟨W2, s2, w2⟩ := ((wb.keep vs).wipe nlb vs).add (H' := upd H1 Da (.lst [])) (same_up hDa) (res_lst hDa (Rps.nil (K := X.K) (H := H1) (O := AV B W1)))
  have wipe_none : ∀ (r : Rho), ∀ v ∈ vs, look (wipeR r vs) v = none := fun r v hv => by
    cases h : look (wipeR r vs) v with
    | none => rfl
    | some p => exact absurd hv (look_wipe h).2
  -- the invariant
  have key : ∀ turn : D → Rho → Option (Option D × Rho), (∀ d ρ, turn d ρ = ((bindT tgt d ρ).bind fun ρ1 => (evC G cd ρ1).bind fun z => if z.1 = true then (ev G elt z.2).bind fun z => (escR z.2 z.1).bind fun z => some (some z.1, z.2) else some (none, z.2))) →
      compF turn vs its (wipeR ρ1 vs) = some (ys, ρ2) → _ := fun turn hturn e9 => (?_ : ∃ W : Nat → Nat → Hp → Prop, (∃ m, W 0 m (upd H1 Da (.lst []))) ∧ ∀ i m H, W i m H →
    (J.stop i H ∧ Q (.ref Da) H) ∨ (J.go i H ∧ ∃ Nx : Hp → Prop, (∀ H', Nx H' → ∃ m', m' < m ∧ W (i + 1) m' H') ∧ ∀ x H', J.yld i H x H' → tG X.K tgt x (L2.wipe σ vs) H' fun σ2 H2 => L2.wipe σ2 vs = L2.wipe σ vs ∧ Ev.tC G X.K cd σ2 H2 fun b H3 =>
      if b = true then tE G X.K elt σ2 H3 fun y H4 => ∃ acc, H4 Da = some (.lst acc) ∧ acc.length < sizeLine ∧ Nx (upd H4 Da (.lst (acc ++ [y]))) else Nx H3))
  · exact key _ (fun _ _ => rfl) e3
  refine ⟨fun i m Hc => m = its.length - i ∧ i ≤ its.length ∧ CInv X.K B σ vs (upd H1 Da (.lst [])) W2 Da (keepIt σ ρ1 vs ++ (zs ++ bare τ)) turn its ys ρ2 ρ1.length i Hc,
    ⟨_, rfl, Nat.zero_le _, W2, wipeR ρ1 vs, [], ys, .refl, w2, e9, rfl, Nat.le_refl _, wipe_none ρ1, wipeR_len ρ1 vs⟩, ?_⟩
  rintro i m Hc ⟨rfl, hle, Wc, ρc, ds, rest, sc, wc, ec, ey, hdl, hnc, hlc⟩
  have rp : ∀ v d, (v, R.val false d) ∈ zs → Rp X.K Hc (AV B Wc) v d := fun v d hz => wc.tmp (v, .val false d) (List.mem_cons_of_mem _ (List.mem_append_right _ (List.mem_append_left _ hz)))
  by_cases hlt : i < its.length
  · right
    have hget : its[i]? = some its[i] := List.getElem?_eq_getElem hlt
    obtain ⟨go, yld⟩ := (src Hc _ rp i).1 _ hget
    rw [List.drop_eq_getElem_cons hlt] at ec
    simp only [compF] at ec
    split at ec
    rotate_left
    · cases ec
    rename_i yo ρt et
    split at ec
    rotate_left
    · cases ec
    rename_i rest' ρ2' er
    obtain ⟨rfl, rfl⟩ := inj2 ec
    rw [hturn] at et
    simp only [Option.bind_eq_some_iff, Prod.exists] at et
    obtain ⟨ρa, ea, tb, ρb, eb, et⟩ := et
    refine ⟨go, CInv X.K B σ vs (upd H1 Da (.lst [])) W2 Da (keepIt σ ρ1 vs ++ (zs ++ bare τ)) turn its ys ρ2' ρ1.length (i + 1), fun H' hN => ⟨its.length - (i + 1), by omega, rfl, hlt, hN⟩, fun xv H' hy => ?_⟩
    obtain ⟨sm, rx⟩ := yld xv H' hy
    have wg := (wc.grow sm).plain rx
    have nD : NoLoc ((V.ref Da, R.val true (PyData.list ds)) :: (keepIt σ ρ1 vs ++ (zs ++ bare τ))) := fun z hz => (List.mem_cons.mp hz).elim (fun h => by rw [h]; rfl) (nlb z)
    refine ⟨B, Wc, ρc, _, its[i], ρa, nD, wg, ea, fun σ2 l2 o2 wt => ?_⟩
    have hw2 : L2.wipe σ2 vs = L2.wipe σ vs := wipe_ext (by rw [l2, wipe_length]) fun j hj => o2 j fun z => hj (by
      have := List.all_eq_true.mp hv j z
      simpa using this)
    refine ⟨hw2, B, Wc, ρa, _, tb, ρb, wt, eb, fun H2 W3 s3 w3 => ?_⟩
    have lenb : ∀ {Hx : Hp} {Wx : AS} {ρx : Rho} {τx : List Itm}, Wd X.K Hx B Wx σ2 ρx τx → ρx.length = ρ1.length := fun hx => by rw [hx.len, l2, wipe_length, ← w1.len]
    have next : ∀ {Hx : Hp} {Wx : AS} {ρx : Rho} {ds' : List D}, Stp (upd H1 Da (.lst [])) W2 Hx Wx → Wd X.K Hx B Wx σ2 ρx ((.ref Da, .val true (.list ds')) :: (keepIt σ ρ1 vs ++ (zs ++ bare τ))) → compF turn vs (its.drop (i + 1)) (wipeR ρx vs) = some (rest', ρ2') →
        ds ++ (yo.toList ++ rest') = ds' ++ rest' → ds'.length ≤ i + 1 → CInv X.K B σ vs (upd H1 Da (.lst [])) W2 Da (keepIt σ ρ1 vs ++ (zs ++ bare τ)) turn its ys ρ2' ρ1.length (i + 1) Hx := fun {Hx Wx ρx ds'} sx wx ex eq hl => by
      have nD' : NoLoc ((V.ref Da, R.val true (PyData.list ds')) :: (keepIt σ ρ1 vs ++ (zs ++ bare τ))) := fun z hz => (List.mem_cons.mp hz).elim (fun h => by rw [h]; rfl) (nlb z)
      have wx' := wx.wipe nD' vs
      rw [hw2] at wx'
      exact ⟨Wx, wipeR ρx vs, ds', rest', sx, wx', ex, ey.trans eq, hl, wipe_none ρx, by rw [wipeR_len]; exact lenb wx⟩
    cases tb with
    | false =>
      rw [if_neg Bool.false_ne_true] at et
      refine iteF ?_
      obtain ⟨rfl, rfl⟩ := inj2 et
      exact next ((sc.trans (.ofSame sm)).trans s3) w3 er (by simp) (by omega)
    | true =>
      rw [if_pos rfl] at et
      refine iteT ?_
      simp only [Option.bind_eq_some_iff, Prod.exists] at et
      obtain ⟨ro, ρd, ed, yd, ρe, ee, ef⟩ := et
      obtain ⟨rfl, rfl⟩ := inj2 ef
      refine ⟨B, W3, ρb, _, ro, ρd, w3, ed, fun yv H4 W4 s4 w4 => ?_⟩
      obtain ⟨W5, s5, w5, ry⟩ := esc_fin w4 ee
      have w6 := w5.perm (List.Perm.swap _ _ _)
      obtain ⟨p', e0, wp, acc, hacc, racc⟩ := w6.tmp _ hd_mem
      have e0 : V.ref Da = V.ref p' := e0
      cases e0
      have hal : acc.length < sizeLine := by rw [racc.len]; omega
      refine ⟨acc, hacc, hal, ?_⟩
      have st7 : Stp H4 W5 (upd H4 Da (.lst (acc ++ [yv]))) W5 := upd_step (K := X.K) hacc wp
      obtain ⟨s7, w7⟩ := w6.wrT (H' := upd H4 Da (.lst (acc ++ [yv]))) (d' := .list (ds ++ [yd])) (fun b u z e => by rw [upd_ne z]; exact e) (fun xs e => by rw [hacc] at e; cases e) (fun ob u e => by rw [hacc] at e; cases e) st7.dom
        ⟨_, upd_same, Rps.mv st7.mv _ _ (racc.app (.cons ry .nil))⟩
      have w8 := (w7.perm (List.Perm.swap _ _ _)).pop
      exact next (((((sc.trans (.ofSame sm)).trans s3).trans s4).trans s5).trans s7) w8 er (by simp) (by simp; omega)
  · left
    have ei : i = its.length := by omega
    subst ei
    rw [List.drop_length] at ec
    simp only [compF] at ec
    obtain ⟨rfl, rfl⟩ := inj2 ec
    refine ⟨(src Hc _ rp _).2 (List.getElem?_eq_none (Nat.le_refl _)), ?_⟩
    rw [List.append_nil] at ey
    subst ey
    have nl2 : NoLoc ((V.ref Da, R.val true (PyData.list ys)) :: (zs ++ bare τ)) := fun z hz => by
      rcases List.mem_cons.mp hz with h | h
      · rw [h]; rfl
      · rcases List.mem_append.mp h with h | h
        · exact nz z h
        · exact bare_noloc τ z h
    have wf := Wd.back hlc (fun v hv => hpl.1 v hv) w1 hnc wc nl2
    have wf2 := wf.sub (.cons₂ _ (List.sublist_append_right zs _))
    exact q _ _ _ (((s1.trans s2)).trans sc) ((w1.sub (List.sublist_append_right zs _)).unbare wf2)
theorem upd_stepD {K : PySem.W.Frag} {H : Hp} {W : AS} {a : Addr} {kvs kvs2 : List (Key × V)} (hz : H a = some (.dK kvs)) (wa : W a) : Stp H W (upd H a (.dK kvs2)) W :=
  ⟨fun b o e n => by rw [upd_ne (fun z => n (by rw [z]; exact wa))]; exact e, fun b zs e => by rw [upd_ne (fun z => by rw [z, hz] at e; cases e)]; exact e,
    fun b o u e => by rw [upd_ne (fun z => by rw [z, hz] at e; cases e)]; exact e, fun b e => by
      by_cases z : b = a
      · rw [z, upd_same] at e; cases e
      · rw [upd_ne z] at e; exact e, fun b h => .inl h⟩
def DInv (K : PySem.W.Frag) (B : AS) (σ : L2.St) (vs : List Nat) (H0 : Hp) (W2 : AS) (Da : Addr) (τin : List Itm) (turn : D → Rho → Option (Option D × Rho)) (its ys : List D) (ρ2 : Rho) (n i : Nat) (Hc : Hp) : Prop :=
  ∃ (Wc : AS) (ρc : Rho) (ds rest : List D), Stp H0 W2 Hc Wc ∧ Wd K Hc B Wc (L2.wipe σ vs) ρc ((.ref Da, .val true (.dict (dputs [] ds))) :: τin) ∧ compF turn vs (its.drop i) ρc = some (rest, ρ2) ∧ ys = ds ++ rest ∧ ds.length ≤ i ∧ (∀ v ∈ vs, look ρc v = none) ∧ ρc.length = n
theorem k_dcomp (g : Good G X) {vs : List Nat} {tgt : Tg} {it : It} {cd : Tes} {k v : E} {y2 : Expr} {ifs : List Expr} {scope : Scope} {own : List (Str × Nat)} (ho : own.map (·.2) = vs) (hi : PI X tg x (tI G X.K it)) (ok : BlkOk X.N X.env.scope scope own)
    (hg : ∀ (s : Shared) (H : Hp) (C : Addr) (cl : List (Str × Addr)) (fp : List Addr), PG (X.blk s H scope (compEnvC scope cl C X.env) fp) tg (tG X.K tgt))
    (ht : ∀ (s : Shared) (H : Hp) (C : Addr) (cl : List (Str × Addr)) (fp : List Addr), PTs (X.blk s H scope (compEnvC scope cl C X.env) fp) ifs (Ev.tC G X.K cd))
    (he : ∀ (s : Shared) (H : Hp) (C : Addr) (cl : List (Str × Addr)) (fp : List Addr), PE (X.blk s H scope (compEnvC scope cl C X.env) fp) y (tE G X.K k))
    (he2 : ∀ (s : Shared) (H : Hp) (C : Addr) (cl : List (Str × Addr)) (fp : List Addr), PE (X.blk s H scope (compEnvC scope cl C X.env) fp) y2 (tE G X.K v))
    (hs : ∀ v, foldedSetIterable x X.env v = pure v) (hv : (tgs tgt).all (fun i => vs.contains i) = true) : ∀ σ H Q, tE G X.K (.dcomp vs tgt it cd k v) σ H Q → tDc (tI G X.K it) (tG X.K tgt) (Ev.tC G X.K cd) (tE G X.K k) (tE G X.K v) vs σ H Q := by
  intro σ H Q h
  obtain ⟨B, W, ρ, τ, r, ρ', w, e, q⟩ := h
  simp only [ev, Option.bind_eq_bind, Option.bind_eq_some_iff, Prod.exists] at e
  obtain ⟨its, ρ1, e1, e2⟩ := e
  split at e2
  rotate_left
  · cases e2
  rename_i hpl
  rw [Bool.and_eq_true, List.all_eq_true] at hpl
  simp only [Option.bind_eq_some_iff, Prod.exists] at e2
  obtain ⟨ys, ρ2, e3, e4⟩ := e2
  obtain ⟨rfl, rfl⟩ := inj2 e4
  refine ⟨B, W, ρ, τ, its, ρ1, w, e1, fun J zs H1 W1 s1 nz w1 src hlen Da hDa => ?_⟩
  -- at the start
  have wb : Wd X.K H1 B W1 σ ρ1 (zs ++ bare τ) := w1.sub ((List.Sublist.refl zs).append List.filter_sublist)
  have nlb : NoLoc (keepIt σ ρ1 vs ++ (zs ++ bare τ)) := fun z hz => by
    rcases List.mem_append.mp hz with h | h
    · exact keep_noloc vs z h
    · rcases List.mem_append.mp h with h | h
      · exact nz z h
      · exact bare_noloc τ z h
  obtain ⟨W2, s2, w2⟩ := ((wb.keep vs).wipe nlb vs).add (H' := upd H1 Da (.dK [])) (same_up hDa) (show Res X.K H1 _ (AV B W1) (.ref Da) true (.dict []) from ⟨Da, rfl, hDa, [], upd_same, .nil⟩)
  have wipe_none : ∀ (r : Rho), ∀ v ∈ vs, look (wipeR r vs) v = none := fun r v hv => by
    cases h : look (wipeR r vs) v with
    | none => rfl
    | some p => exact absurd hv (look_wipe h).2
  -- the invariant
  have key : ∀ turn : D → Rho → Option (Option D × Rho), (∀ d ρ, turn d ρ = ((bindT tgt d ρ).bind fun ρ1 => (evC G cd ρ1).bind fun z => if z.1 = true then (ev G k z.2).bind fun z => (ev G v z.2).bind fun z2 => (escR z2.2 z2.1).bind fun z3 => (rdR z3.2 z.1).bind fun x => if isKey x = true then some (some (.tuple [x, z3.1]), z3.2) else none else some (none, z.2))) →
      compF turn vs its (wipeR ρ1 vs) = some (ys, ρ2) → _ := fun turn hturn e9 => (?_ : ∃ W : Nat → Nat → Hp → Prop, (∃ m, W 0 m (upd H1 Da (.dK []))) ∧ ∀ i m H, W i m H →
    (J.stop i H ∧ Q (.ref Da) H) ∨ (J.go i H ∧ ∃ Nx : Hp → Prop, (∀ H', Nx H' → ∃ m', m' < m ∧ W (i + 1) m' H') ∧ ∀ x H', J.yld i H x H' → tG X.K tgt x (L2.wipe σ vs) H' fun σ2 H2 => L2.wipe σ2 vs = L2.wipe σ vs ∧ Ev.tC G X.K cd σ2 H2 fun b H3 =>
      if b = true then tE G X.K k σ2 H3 fun y H4 => tE G X.K v σ2 H4 fun z H5 => ∃ kvs key, y = kV key ∧ H5 Da = some (.dK kvs) ∧ kvs.length < sizeLine ∧ Nx (upd H5 Da (.dK (putK kvs key z))) else Nx H3))
  · exact key _ (fun _ _ => rfl) e3
  refine ⟨fun i m Hc => m = its.length - i ∧ i ≤ its.length ∧ DInv X.K B σ vs (upd H1 Da (.dK [])) W2 Da (keepIt σ ρ1 vs ++ (zs ++ bare τ)) turn its ys ρ2 ρ1.length i Hc,
    ⟨_, rfl, Nat.zero_le _, W2, wipeR ρ1 vs, [], ys, .refl, w2, e9, rfl, Nat.le_refl _, wipe_none ρ1, wipeR_len ρ1 vs⟩, ?_⟩
  rintro i m Hc ⟨rfl, hle, Wc, ρc, ds, rest, sc, wc, ec, ey, hdl, hnc, hlc⟩
  have rp : ∀ v d, (v, R.val false d) ∈ zs → Rp X.K Hc (AV B Wc) v d := fun v d hz => wc.tmp (v, .val false d) (List.mem_cons_of_mem _ (List.mem_append_right _ (List.mem_append_left _ hz)))
  by_cases hlt : i < its.length
  · right
    have hget : its[i]? = some its[i] := List.getElem?_eq_getElem hlt
    obtain ⟨go, yld⟩ := (src Hc _ rp i).1 _ hget
    rw [List.drop_eq_getElem_cons hlt] at ec
    simp only [compF] at ec
    split at ec
    rotate_left
    · cases ec
    rename_i yo ρt et
    split at ec
    rotate_left
    · cases ec
    rename_i rest' ρ2' er
    obtain ⟨rfl, rfl⟩ := inj2 ec
    rw [hturn] at et
    simp only [Option.bind_eq_some_iff, Prod.exists] at et
    obtain ⟨ρa, ea, tb, ρb, eb, et⟩ := et
    refine ⟨go, DInv X.K B σ vs (upd H1 Da (.dK [])) W2 Da (keepIt σ ρ1 vs ++ (zs ++ bare τ)) turn its ys ρ2' ρ1.length (i + 1), fun H' hN => ⟨its.length - (i + 1), by omega, rfl, hlt, hN⟩, fun xv H' hy => ?_⟩
    obtain ⟨sm, rx⟩ := yld xv H' hy
    have wg := (wc.grow sm).plain rx
    have nD : NoLoc ((V.ref Da, R.val true (PyData.dict (dputs [] ds))) :: (keepIt σ ρ1 vs ++ (zs ++ bare τ))) := fun z hz => (List.mem_cons.mp hz).elim (fun h => by rw [h]; rfl) (nlb z)
    refine ⟨B, Wc, ρc, _, its[i], ρa, nD, wg, ea, fun σ2 l2 o2 wt => ?_⟩
    have hw2 : L2.wipe σ2 vs = L2.wipe σ vs := wipe_ext (by rw [l2, wipe_length]) fun j hj => o2 j fun z => hj (by
      have := List.all_eq_true.mp hv j z
      simpa using this)
    refine ⟨hw2, B, Wc, ρa, _, tb, ρb, wt, eb, fun H2 W3 s3 w3 => ?_⟩
    have lenb : ∀ {Hx : Hp} {Wx : AS} {ρx : Rho} {τx : List Itm}, Wd X.K Hx B Wx σ2 ρx τx → ρx.length = ρ1.length := fun hx => by rw [hx.len, l2, wipe_length, ← w1.len]
    have next : ∀ {Hx : Hp} {Wx : AS} {ρx : Rho} {ds' : List D}, Stp (upd H1 Da (.dK [])) W2 Hx Wx → Wd X.K Hx B Wx σ2 ρx ((.ref Da, .val true (.dict (dputs [] ds'))) :: (keepIt σ ρ1 vs ++ (zs ++ bare τ))) → compF turn vs (its.drop (i + 1)) (wipeR ρx vs) = some (rest', ρ2') →
        ds ++ (yo.toList ++ rest') = ds' ++ rest' → ds'.length ≤ i + 1 → DInv X.K B σ vs (upd H1 Da (.dK [])) W2 Da (keepIt σ ρ1 vs ++ (zs ++ bare τ)) turn its ys ρ2' ρ1.length (i + 1) Hx := fun {Hx Wx ρx ds'} sx wx ex eq hl => by
      have nD' : NoLoc ((V.ref Da, R.val true (PyData.dict (dputs [] ds'))) :: (keepIt σ ρ1 vs ++ (zs ++ bare τ))) := fun z hz => (List.mem_cons.mp hz).elim (fun h => by rw [h]; rfl) (nlb z)
      have wx' := wx.wipe nD' vs
      rw [hw2] at wx'
      exact ⟨Wx, wipeR ρx vs, ds', rest', sx, wx', ex, ey.trans eq, hl, wipe_none ρx, by rw [wipeR_len]; exact lenb wx⟩
    cases tb with
    | false =>
      rw [if_neg Bool.false_ne_true] at et
      refine iteF ?_
      obtain ⟨rfl, rfl⟩ := inj2 et
      exact next ((sc.trans (.ofSame sm)).trans s3) w3 er (by simp) (by omega)
    | true =>
      rw [if_pos rfl] at et
      refine iteT ?_
      simp only [Option.bind_eq_some_iff, Prod.exists] at et
      obtain ⟨rk, ρd, ed, ro, ρe, ee, yd, ρf, ef, xd, eg, eh⟩ := et
      split at eh
      rotate_left
      · cases eh
      rename_i hkey
      obtain ⟨rfl, rfl⟩ := inj2 eh
      refine ⟨B, W3, ρb, _, rk, ρd, w3, ed, fun kv H4 W4 s4 w4 => ⟨B, W4, ρd, _, ro, ρe, w4, ee, fun yv H5 W5 s5 w5 => ?_⟩⟩
      obtain ⟨W6, s6, w6, ry⟩ := esc_fin w5 ef
      have rkq : Rq X.K H5 (AV B W6) kv xd := w6.rq (List.mem_cons_of_mem _ hd_mem) eg
      have rkp : Rp X.K H5 (AV B W6) kv xd := by
        cases xd <;> first | (simp [isKey] at hkey; done) | exact rkq
      obtain ⟨key, hk2⟩ := key_of hkey rkp
      subst hk2
      have w6' := w6.sub (.cons₂ _ (List.sublist_cons_self ..))
      have w7 := w6'.perm (List.Perm.swap _ _ _)
      obtain ⟨p', e0, wp, kvs, hacc, racc⟩ := w7.tmp _ hd_mem
      have e0 : V.ref Da = V.ref p' := e0
      cases e0
      have hal : kvs.length < sizeLine := by
        have := dputs_len ds []
        rw [racc.len]
        simp only [List.length_nil] at this
        omega
      refine ⟨kvs, key, rfl, hacc, hal, ?_⟩
      have st7 : Stp H5 W6 (upd H5 Da (.dK (putK kvs key yv))) W6 := upd_stepD (K := X.K) hacc wp
      obtain ⟨s7, w8⟩ := w7.wrT (H' := upd H5 Da (.dK (putK kvs key yv))) (d' := .dict (dputs [] (ds ++ [.tuple [xd, yd]]))) (fun b u z e => by rw [upd_ne z]; exact e) (fun xs e => by rw [hacc] at e; cases e) (fun ob u e => by rw [hacc] at e; cases e) st7.dom
        ⟨_, upd_same, RpKs.mv st7.mv _ _ (by rw [dputs_snoc]; exact dput_of rkp ry racc)⟩
      have w9 := (w8.perm (List.Perm.swap _ _ _)).pop
      exact next ((((((sc.trans (.ofSame sm)).trans s3).trans s4).trans s5).trans s6).trans s7) w9 er (by simp) (by simp; omega)
  · left
    have ei : i = its.length := by omega
    subst ei
    rw [List.drop_length] at ec
    simp only [compF] at ec
    obtain ⟨rfl, rfl⟩ := inj2 ec
    refine ⟨(src Hc _ rp _).2 (List.getElem?_eq_none (Nat.le_refl _)), ?_⟩
    rw [List.append_nil] at ey
    subst ey
    have nl2 : NoLoc ((V.ref Da, R.val true (PyData.dict (dputs [] ys))) :: (zs ++ bare τ)) := fun z hz => by
      rcases List.mem_cons.mp hz with h | h
      · rw [h]; rfl
      · rcases List.mem_append.mp h with h | h
        · exact nz z h
        · exact bare_noloc τ z h
    have wf := Wd.back hlc (fun v hv => hpl.1 v hv) w1 hnc wc nl2
    have wf2 := wf.sub (.cons₂ _ (List.sublist_append_right zs _))
    exact q _ _ _ (((s1.trans s2)).trans sc) ((w1.sub (List.sublist_append_right zs _)).unbare wf2)
end
end Ev
set_option Elab.async false
set_option linter.all false
set_option maxRecDepth 100000
set_option maxHeartbeats 4000000
/-! Ev, part 16: every expression. -/
namespace Ev
open PySem PySem.Spec PyProof.Rows L2

theorem Good.blk {G : Sig} {X : Cx} (g : Good G X) (s : Shared) (H : Hp) (scope : Scope) (cenv : Env) (fp : List Addr) : Good G (X.blk s H scope cenv fp) :=
  ⟨g.calm, g.nd, g.un, g.gd, PassesOwn.never, fun x F h => ⟨(g.fns x F h).ex⟩, g.csts, g.blts⟩

structure CompOk (G : Sig) (X : Cx) (vs : List Nat) (tgt : Tg) (it : It) (cd : Tes) (elt : E) (tg x : Expr) (ifs : List Expr) (scope : Scope) (y : Expr) (own : List (Str × Nat)) : Prop where
  ho : own.map (·.2) = vs
  hi : PI X tg x (tI G X.K it)
  ok : BlkOk X.N X.env.scope scope own
  hg : ∀ (s : Shared) (H : Hp) (C : Addr) (cl : List (Str × Addr)) (fp : List Addr), PG (X.blk s H scope (compEnvC scope cl C X.env) fp) tg (tG X.K tgt)
  ht : ∀ (s : Shared) (H : Hp) (C : Addr) (cl : List (Str × Addr)) (fp : List Addr), PTs (X.blk s H scope (compEnvC scope cl C X.env) fp) ifs (Ev.tC G X.K cd)
  he : ∀ (s : Shared) (H : Hp) (C : Addr) (cl : List (Str × Addr)) (fp : List Addr), PE (X.blk s H scope (compEnvC scope cl C X.env) fp) y (tE G X.K elt)
  hs : ∀ v, foldedSetIterable x X.env v = pure v
  hv : (tgs tgt).all (fun i => vs.contains i) = true
abbrev ownOf (N : List Str) (vs : List Nat) : List (Str × Nat) := vs.map fun v => (N.getD v (Str.ofString ""), v)
theorem own_snd (N : List Str) (vs : List Nat) : (ownOf N vs).map (·.2) = vs := by
  unfold ownOf
  rw [List.map_map]
  exact List.map_id _
theorem no_set {G : Sig} {N : List Str} {sc : Scope} {it : It} {t x : Expr} {env : Env} (h : chkI G.csts G.blts N sc it t x = true) (v : Value) : foldedSetIterable x env v = pure v := by
  cases x with
  | Set es k p =>
    cases it <;> simp [chkI] at h
  | _ => rfl
theorem CompOk.pe {G : Sig} {X : Cx} (g : Good G X) {vs : List Nat} {tgt : Tg} {it : It} {cd : Tes} {elt : E} {tg x : Expr} {ifs : List Expr} {scope : Scope} {y : Expr} {own : List (Str × Nat)} {p : Pos} (c : CompOk G X vs tgt it cd elt tg x ifs scope y own) :
    PE X (.ListComp y [⟨tg, x, ifs, 0⟩] scope p) (tE G X.K (.comp vs tgt it cd elt)) := by
  refine PE.imp (pe_lc (own := own) g.calm g.nd c.hi c.ok c.hg c.ht c.he c.hs) fun σ H Q h => ?_
  rw [c.ho]
  exact k_comp g c.ho c.hi c.ok c.hg c.ht c.he c.hs c.hv σ H Q h

variable {G : Sig}
mutual
theorem pe_ok : ∀ (e : E) {X : Cx} {x : Expr}, Good G X → chk G.csts G.blts X.N X.env.scope e x = true → PE X x (tE G X.K e)
  | .var i, X, x, g, h => by
    unfold chk at h
    split at h
    · simp only [Bool.and_eq_true, decide_eq_true_eq] at h
      exact k_var h.1.1 h.1.2 h.2
    · cases h
  | .int i, X, x, g, h => by
    unfold chk at h
    split at h
    · rw [decide_eq_true_eq] at h
      subst h
      exact k_const pe_int (fun ρ => by simp only [ev]) fun H O => .int i
    · cases h
  | .bl b, X, x, g, h => by
    unfold chk at h
    split at h
    · rw [beq_iff_eq] at h
      subst h
      exact k_const pe_bl (fun ρ => by simp only [ev]) fun H O => .bl b
    · cases h
  | .non, X, x, g, h => by
    unfold chk at h
    split at h
    · exact k_const pe_non (fun ρ => by simp only [ev]) fun H O => .non
    · cases h
  | .str s, X, x, g, h => by
    unfold chk at h
    split at h
    · simp only [Bool.and_eq_true, decide_eq_true_eq] at h
      obtain ⟨h1, h2⟩ := h
      subst h1
      exact k_const pe_str (fun ρ => by simp only [ev]) fun H O => .str s (fits_le h2)
    · cases h
  | .cst y i, X, x, g, h => by
    unfold chk at h
    split at h
    · simp only [Bool.and_eq_true, decide_eq_true_eq] at h
      obtain ⟨⟨h1, h2⟩, h3⟩ := h
      subst h1
      obtain ⟨gl, n1, n2⟩ := glOf h2
      obtain ⟨t, hm⟩ := g.csts _ h3
      exact k_const (v := .int i) (pe_glob gl hm ⟨t, rfl⟩ n1) (fun ρ => by simp only [ev]) fun H O => .int i
    · cases h
  | .op o a b, X, x, g, h => by
    unfold chk at h
    split at h
    · simp only [Bool.and_eq_true, decide_eq_true_eq] at h
      obtain ⟨⟨h1, h2⟩, h3⟩ := h
      subst h1
      exact k_op g (pe_ok a g h2) (pe_ok b g h3)
    · cases h
  | .neg a, X, x, g, h => by
    unfold chk at h
    split at h
    · exact k_neg g (pe_ok a g h)
    · cases h
  | .not a, X, x, g, h => by
    unfold chk at h
    split at h
    · exact k_not g (pe_ok a g h)
    · cases h
  | .and a b, X, x, g, h => by
    unfold chk at h
    split at h
    · rename_i l r rs p
      rw [Bool.and_eq_true] at h
      obtain ⟨h1, h2⟩ := h
      refine k_and (pe_ok a g h1) ?_
      cases rs with
      | nil => exact pe_one (pe_ok b g h2)
      | cons q qs => exact pe_ok b g h2
    · cases h
  | .or a b, X, x, g, h => by
    unfold chk at h
    split at h
    · rename_i l r rs p
      rw [Bool.and_eq_true] at h
      obtain ⟨h1, h2⟩ := h
      refine k_or (pe_ok a g h1) ?_
      cases rs with
      | nil => exact pe_one (pe_ok b g h2)
      | cons q qs => exact pe_ok b g h2
    · cases h
  | .cmp c a b, X, x, g, h => by
    unfold chk at h
    split at h
    · simp only [Bool.and_eq_true, decide_eq_true_eq, Bool.not_eq_true'] at h
      obtain ⟨⟨⟨h1, h2⟩, h3⟩, h4⟩ := h
      subst h1
      exact k_cmp g (pe_ok a g h2) (pe_ok b g h3) h4
    · cases h
  | .chain c1 c2 a b c, X, x, g, h => by
    unfold chk at h
    split at h
    · simp only [Bool.and_eq_true, decide_eq_true_eq, Bool.not_eq_true'] at h
      obtain ⟨⟨⟨⟨⟨h1, h2⟩, h3⟩, h4⟩, h5⟩, h6⟩ := h
      subst h1 h2
      exact k_chain g (pe_ok a g h3) (pe_ok b g h4) (pe_ok c g h5) h6
    · cases h
  | .isC ng a, X, x, g, h => by
    unfold chk at h
    split at h
    · simp only [Bool.and_eq_true, decide_eq_true_eq] at h
      exact k_isC g h.1 (pe_ok a g h.2)
    · cases h
  | .isB ng c a, X, x, g, h => by
    unfold chk at h
    split at h
    · simp only [Bool.and_eq_true, decide_eq_true_eq] at h
      obtain ⟨⟨h1, h2⟩, h3⟩ := h
      subst h2
      exact k_isB g h1 (pe_ok a g h3)
    · cases h
  | .ite c a b, X, x, g, h => by
    unfold chk at h
    split at h
    · simp only [Bool.and_eq_true] at h
      obtain ⟨⟨h1, h2⟩, h3⟩ := h
      exact k_ite (pt_ok c g h1) (pe_ok a g h2) (pe_ok b g h3)
    · cases h
  | .tup es, X, x, g, h => by
    unfold chk at h
    split at h
    · exact k_tup (pa_ok es g h)
    · cases h
  | .lst es, X, x, g, h => by
    unfold chk at h
    split at h
    · exact k_lst (pa_ok es g h)
    · cases h
  | .dnew, X, x, g, h => by
    unfold chk at h
    split at h
    · exact k_dnew
    · cases h
  | .dic1 k v, X, x, g, h => by
    unfold chk at h
    split at h
    · simp only [Bool.and_eq_true, decide_eq_true_eq] at h
      obtain ⟨h1, h2⟩ := h
      subst h1 h2
      exact k_dic1
    · cases h
  | .rev a, X, x, g, h => by
    unfold chk at h
    split at h
    · simp only [Bool.and_eq_true, decide_eq_true_eq] at h
      obtain ⟨h1, h2⟩ := h
      subst h1
      exact k_rev (pe_ok a g h2)
    · cases h
  | .revL a, X, x, g, h => by
    unfold chk at h
    split at h
    · simp only [Bool.and_eq_true, decide_eq_true_eq] at h
      obtain ⟨h1, h2⟩ := h
      subst h1
      exact k_revL (pe_ok a g h2)
    · cases h
  | .lrep a b, X, x, g, h => by
    unfold chk at h
    split at h
    · simp only [Bool.and_eq_true, decide_eq_true_eq] at h
      obtain ⟨⟨h1, h2⟩, h3⟩ := h
      subst h1
      exact k_lrep g (pe_ok a g h2) (pe_ok b g h3)
    · cases h
  | .ix a b, X, x, g, h => by
    unfold chk at h
    split at h
    · simp only [Bool.and_eq_true] at h
      exact k_ix g (pe_ok a g h.1.1) (pe_ok b g h.1.2) h.2
    · cases h
  | .sl a lo hi, X, x, g, h => by
    unfold chk at h
    split at h
    · simp only [Bool.and_eq_true] at h
      exact k_sl (pe_ok a g h.1.1) (po_ok lo g h.1.2) (po_ok hi g h.2)
    · cases h
  | .prim p es, X, x, g, h => by
    unfold chk at h
    split at h
    · simp only [Bool.and_eq_true, decide_eq_true_eq] at h
      obtain ⟨⟨⟨h1, h2⟩, h3⟩, h4⟩ := h
      subst h1
      exact k_prim g (pa_ok es g h4) (chks_stars h4) h2 h3
    · cases h
  | .isi a ty, X, x, g, h => by
    unfold chk at h
    split at h
    · simp only [Bool.and_eq_true, decide_eq_true_eq] at h
      obtain ⟨⟨⟨⟨⟨⟨⟨⟨h1, h2⟩, h3⟩, h4⟩, h5⟩, h6⟩, h7⟩, h8⟩, h9⟩ := h
      subst h1 h6
      exact k_isi g (pe_ok a g h4) h5 h2 h3 h7 h8 h9
    · cases h
  | .maxd a, X, x, g, h => by
    unfold chk at h
    split at h
    · simp only [Bool.and_eq_true, decide_eq_true_eq] at h
      obtain ⟨⟨⟨⟨⟨h1, h2⟩, h3⟩, h4⟩, h5⟩, h6⟩ := h
      subst h1 h6
      exact k_maxd g (pe_ok a g h4) h5 h2 h3
    · cases h
  | .maxe a b, X, x, g, h => by
    unfold chk at h
    split at h
    · simp only [Bool.and_eq_true, decide_eq_true_eq] at h
      obtain ⟨⟨⟨⟨⟨⟨h1, h2⟩, h3⟩, h4⟩, h5⟩, h6⟩, h7⟩ := h
      subst h1 h6
      exact k_maxe g (pe_ok a g h4) (pe_ok b g h7) h5 h2 h3
    · cases h
  | .lrng a, X, x, g, h => by
    unfold chk at h
    split at h
    · simp only [Bool.and_eq_true, decide_eq_true_eq] at h
      obtain ⟨⟨⟨⟨⟨⟨⟨h1, h2⟩, h3⟩, h4⟩, h5⟩, h6⟩, h7⟩, h8⟩ := h
      subst h1 h4
      exact k_lrng g (pe_ok a g h7) h8 h2 h3 h5 h6
    · cases h
  | .trng a, X, x, g, h => by
    unfold chk at h
    split at h
    · simp only [Bool.and_eq_true, decide_eq_true_eq] at h
      obtain ⟨⟨⟨⟨⟨⟨⟨h1, h2⟩, h3⟩, h4⟩, h5⟩, h6⟩, h7⟩, h8⟩ := h
      subst h1 h4
      exact k_trng g (pe_ok a g h7) h8 h2 h3 h5 h6
    · cases h
  | .trng2 a b, X, x, g, h => by
    unfold chk at h
    split at h
    · simp only [Bool.and_eq_true, decide_eq_true_eq] at h
      obtain ⟨⟨⟨⟨⟨⟨⟨⟨⟨h1, h2⟩, h3⟩, h4⟩, h5⟩, h6⟩, h7⟩, h8⟩, h9⟩, h10⟩ := h
      subst h1 h4
      exact k_trng2 g (pe_ok a g h7) (pe_ok b g h9) h8 h10 h2 h3 h5 h6
    · cases h
  | .call f es, X, x, g, h => by
    unfold chk at h
    split at h
    · simp only [Bool.and_eq_true, decide_eq_true_eq] at h
      obtain ⟨⟨h1, h2⟩, h3⟩ := h
      subst h1
      exact k_call g (pa_ok es g h3) (chks_stars h3) h2
    · cases h
  | .callm f i es, X, x, g, h => by
    unfold chk at h
    split at h
    · simp only [Bool.and_eq_true, decide_eq_true_eq] at h
      obtain ⟨⟨⟨⟨⟨h1, h2⟩, h3⟩, h4⟩, h5⟩, h6⟩ := h
      subst h1
      have st := chks_stars h6
      exact k_callm g (j_cons (k_var h3 h4 h5) (pa_ok es g h6) rfl) (by unfold noStars at st ⊢; rw [List.all_cons, st]; rfl) h2
    · cases h
  | .callf f a es, X, x, g, h => by
    unfold chk at h
    split at h
    · simp only [Bool.and_eq_true, decide_eq_true_eq] at h
      obtain ⟨⟨⟨⟨h1, h2⟩, h3⟩, h4⟩, h5⟩ := h
      subst h1
      have st := chks_stars h5
      exact k_callf g (j_cons (pe_ok a g h4) (pa_ok es g h5) h3) (by unfold noStars at st ⊢; rw [List.all_cons, st, h3]; rfl) h2
    · cases h
  | .dget i k, X, x, g, h => by
    unfold chk at h
    split at h
    · simp only [Bool.and_eq_true, decide_eq_true_eq] at h
      obtain ⟨⟨⟨⟨⟨⟨h1, h2⟩, h3⟩, h4⟩, h5⟩, h6⟩, h7⟩ := h
      subst h1
      exact k_dget g h2 h3 h4 (pe_ok k g h5) h6 h7
    · cases h
  | .dgetd i k z, X, x, g, h => by
    unfold chk at h
    split at h
    · simp only [Bool.and_eq_true, decide_eq_true_eq] at h
      obtain ⟨⟨⟨⟨⟨⟨⟨⟨h1, h2⟩, h3⟩, h4⟩, h5⟩, h6⟩, h8⟩, h9⟩, h7⟩ := h
      subst h1
      exact k_dgetd g h2 h3 h4 (pe_ok k g h5) h6 (pe_ok z g h8) h9 h7
    · cases h
  | .dpop i k, X, x, g, h => by
    unfold chk at h
    split at h
    · simp only [Bool.and_eq_true, decide_eq_true_eq] at h
      obtain ⟨⟨⟨⟨⟨⟨h1, h2⟩, h3⟩, h4⟩, h5⟩, h6⟩, h7⟩ := h
      subst h1
      exact k_dpop g h2 h3 h4 (pe_ok k g h5) h6 h7
    · cases h
  | .ditems i, X, x, g, h => by
    unfold chk at h
    split at h
    · simp only [Bool.and_eq_true, decide_eq_true_eq] at h
      obtain ⟨⟨⟨⟨⟨⟨⟨h1, h2⟩, h3⟩, h4⟩, h5⟩, h6⟩, h7⟩, h8⟩ := h
      subst h1 h4
      exact k_ditems g h5 h6 h7 h2 h3 h8
    · cases h
  | .sset a, X, x, g, h => by
    unfold chk at h
    split at h
    · simp only [Bool.and_eq_true, decide_eq_true_eq] at h
      obtain ⟨⟨⟨⟨⟨⟨⟨h1, h2⟩, h3⟩, h4⟩, h5⟩, h6⟩, h7⟩, h8⟩ := h
      subst h1 h4
      exact k_sset g (pe_ok a g h7) h8 h2 h3 h5 h6
    · cases h
  | .mind a, X, x, g, h => by
    unfold chk at h
    split at h
    · simp only [Bool.and_eq_true, decide_eq_true_eq] at h
      obtain ⟨⟨⟨⟨⟨h1, h2⟩, h3⟩, h4⟩, h5⟩, h6⟩ := h
      subst h1 h6
      exact k_mind g (pe_ok a g h4) h5 h2 h3
    · cases h
  | .meth m i es, X, x, g, h => by
    unfold chk at h
    split at h
    · simp only [Bool.and_eq_true, decide_eq_true_eq] at h
      obtain ⟨⟨⟨⟨⟨⟨h1, h2⟩, h3⟩, h4⟩, h5⟩, h6⟩, h7⟩ := h
      subst h1
      refine k_meth h2 h3 h4 (pa_ok es g h5) (chks_stars h5) h6 h7 fun z => ?_
      subst z
      cases es with
      | nil => rfl
      | cons => simp [chks] at h5
    · cases h
  | .comp vs tg it cd elt, X, x, g, h => by
    unfold chk at h
    split at h
    · rename_i y t i ifs s p
      simp only [Bool.and_eq_true] at h
      obtain ⟨⟨⟨⟨⟨⟨h1, h2⟩, h3⟩, h4⟩, h5⟩, h6⟩, h7⟩ := h
      exact CompOk.pe (own := ownOf X.N vs) g ⟨own_snd _ _, pi_ok it g h1, blkOk_by h5, fun s' H C cl fp => g_ok (X := X.blk s' H s (compEnvC s cl C X.env) fp) (fnb := false) g.calm g.nd (fun z => by cases z) tg t h2, fun s' H C cl fp => pts_ok cd (g.blk s' H s _ fp) h3, fun s' H C cl fp => pe_ok elt (g.blk s' H s _ fp) h4, no_set h1, h7⟩
    · cases h
  | .dcomp vs tg it cd k v, X, x, g, h => by
    unfold chk at h
    split at h
    · rename_i y y2 t i ifs s p
      simp only [Bool.and_eq_true] at h
      obtain ⟨⟨⟨⟨⟨⟨⟨h1, h2⟩, h3⟩, h4⟩, h5⟩, h6⟩, h7⟩, h8⟩ := h
      have hk : ∀ (s' : Shared) (H : Hp) (C : Addr) (cl : List (Str × Addr)) (fp : List Addr), PE (X.blk s' H s (compEnvC s cl C X.env) fp) y (tE G X.K k) := fun s' H C cl fp => pe_ok k (g.blk s' H s (compEnvC s cl C X.env) fp) h4
      have hv : ∀ (s' : Shared) (H : Hp) (C : Addr) (cl : List (Str × Addr)) (fp : List Addr), PE (X.blk s' H s (compEnvC s cl C X.env) fp) y2 (tE G X.K v) := fun s' H C cl fp => pe_ok v (g.blk s' H s (compEnvC s cl C X.env) fp) h8
      have hg : ∀ (s' : Shared) (H : Hp) (C : Addr) (cl : List (Str × Addr)) (fp : List Addr), PG (X.blk s' H s (compEnvC s cl C X.env) fp) t (tG X.K tg) := fun s' H C cl fp => g_ok (X := X.blk s' H s (compEnvC s cl C X.env) fp) (fnb := false) g.calm g.nd (fun z => by cases z) tg t h2
      have ht : ∀ (s' : Shared) (H : Hp) (C : Addr) (cl : List (Str × Addr)) (fp : List Addr), PTs (X.blk s' H s (compEnvC s cl C X.env) fp) ifs (Ev.tC G X.K cd) := fun s' H C cl fp => pts_ok cd (g.blk s' H s (compEnvC s cl C X.env) fp) h3
      refine PE.imp (pe_dc (own := ownOf X.N vs) g.calm g.nd (pi_ok it g h1) (blkOk_by h5) hg ht hk hv (no_set h1)) fun σ H Q h => ?_
      rw [own_snd]
      exact k_dcomp g (own_snd X.N vs) (pi_ok it g h1) (blkOk_by h5) hg ht hk hv (no_set h1) h7 σ H Q h
    · cases h
  | .stuck, X, x, g, h => ⟨fun pins s σ H Q I q => by
    obtain ⟨B, W, ρ, τ, r, ρ', w, e, q⟩ := q
    simp only [ev] at e
    cases e⟩
theorem pa_ok : ∀ (es : Es) {X : Cx} {xs : List Expr}, Good G X → chks G.csts G.blts X.N X.env.scope es xs = true → PA X xs (tEs G X.K es)
  | .nil, X, [], g, h => j_nil
  | .nil, X, _ :: _, g, h => by simp [chks] at h
  | .cons e es, X, [], g, h => by simp [chks] at h
  | .cons e es, X, x :: xs, g, h => by
    simp only [chks, Bool.and_eq_true] at h
    exact j_cons (pe_ok e g h.1.2) (pa_ok es g h.2) h.1.1
theorem po_ok : ∀ (es : Es) {X : Cx} {o : Option Expr}, Good G X → chkO G.csts G.blts X.N X.env.scope es o = true → PO X o (tPt G X.K es)
  | .nil, X, none, g, h => j_none
  | .nil, X, some _, g, h => by simp [chkO] at h
  | .cons e .nil, X, some x, g, h => by
    simp only [chkO] at h
    exact j_some (pe_ok e g h)
  | .cons e .nil, X, none, g, h => by simp [chkO] at h
  | .cons e (.cons e2 es), X, o, g, h => by cases o <;> simp [chkO] at h
theorem pt_ok : ∀ (t : Te) {X : Cx} {x : Expr}, Good G X → chkTe G.csts G.blts X.N X.env.scope t x = true → PT X x (tT G X.K t)
  | .val e, X, x, g, h => by
    simp only [chkTe, Bool.and_eq_true, Bool.or_eq_true] at h
    rcases h.2 with h2 | h2
    · exact t_val (pe_ok e g h.1) h2
    · exact pc_ok e g h.1 h2
  | .not a, X, x, g, h => by
    unfold chkTe at h
    split at h
    · exact t_not (pt_ok a g h)
    · cases h
  | .and a b, X, x, g, h => by
    unfold chkTe at h
    split at h
    · rename_i l r rs p
      rw [Bool.and_eq_true] at h
      obtain ⟨h1, h2⟩ := h
      refine (w_and (pt_ok a g h1) ?_).pt
      cases rs with
      | nil => exact pw_and1 (pt_ok b g h2)
      | cons q qs => exact pw_ok b g h2
    · cases h
  | .or a b, X, x, g, h => by
    unfold chkTe at h
    split at h
    · rename_i l r rs p
      rw [Bool.and_eq_true] at h
      obtain ⟨h1, h2⟩ := h
      refine (w_or (pt_ok a g h1) ?_).pt
      cases rs with
      | nil => exact pw_or1 (pt_ok b g h2)
      | cons q qs => exact pw_ok b g h2
    · cases h
theorem pw_ok : ∀ (t : Te) {X : Cx} {op : BoolOp} {es : List Expr} {p : Pos}, Good G X → chkTe G.csts G.blts X.N X.env.scope t (.BoolOp op es p) = true → PW X (.BoolOp op es p) (tT G X.K t)
  | .val e, X, op, es, p, g, h => by simp [chkTe, plainT] at h
  | .not a, X, op, es, p, g, h => by simp [chkTe] at h
  | .and a b, X, op, es, p, g, h => by
    unfold chkTe at h
    split at h
    · rename_i l r rs p' e
      cases e
      rw [Bool.and_eq_true] at h
      obtain ⟨h1, h2⟩ := h
      refine w_and (pt_ok a g h1) ?_
      cases rs with
      | nil => exact pw_and1 (pt_ok b g h2)
      | cons q qs => exact pw_ok b g h2
    · cases h
  | .or a b, X, op, es, p, g, h => by
    unfold chkTe at h
    split at h
    · rename_i l r rs p' e
      cases e
      rw [Bool.and_eq_true] at h
      obtain ⟨h1, h2⟩ := h
      refine w_or (pt_ok a g h1) ?_
      cases rs with
      | nil => exact pw_or1 (pt_ok b g h2)
      | cons q qs => exact pw_ok b g h2
    · cases h
theorem pc_ok : ∀ (e : E) {X : Cx} {x : Expr}, Good G X → chk G.csts G.blts X.N X.env.scope e x = true → (match x with | .Compare .. => true | _ => false) = true → PT X x (tT G X.K (.val e))
  | .cmp c a b, X, x, g, h, _ => by
    unfold chk at h
    split at h
    · simp only [Bool.and_eq_true, decide_eq_true_eq, Bool.not_eq_true'] at h
      obtain ⟨⟨⟨h1, h2⟩, h3⟩, h4⟩ := h
      subst h1
      exact t_cmp g (pe_ok a g h2) (pe_ok b g h3) h4
    · cases h
  | .chain c1 c2 a b c, X, x, g, h, _ => by
    unfold chk at h
    split at h
    · simp only [Bool.and_eq_true, decide_eq_true_eq, Bool.not_eq_true'] at h
      obtain ⟨⟨⟨⟨⟨h1, h2⟩, h3⟩, h4⟩, h5⟩, h6⟩ := h
      subst h1 h2
      exact t_chain g (pe_ok a g h3) (pe_ok b g h4) (pe_ok c g h5) h6
    · cases h
  | .isC ng a, X, x, g, h, _ => by
    unfold chk at h
    split at h
    · simp only [Bool.and_eq_true, decide_eq_true_eq] at h
      exact t_isC g h.1 (pe_ok a g h.2)
    · cases h
  | .isB ng c a, X, x, g, h, _ => by
    unfold chk at h
    split at h
    · simp only [Bool.and_eq_true, decide_eq_true_eq] at h
      obtain ⟨⟨h1, h2⟩, h3⟩ := h
      subst h2
      exact t_isB g h1 (pe_ok a g h3)
    · cases h
  | .var _, X, x, g, h, z => by cases x <;> simp [chk] at h z
  | .int _, X, x, g, h, z => by cases x <;> simp [chk] at h z
  | .bl _, X, x, g, h, z => by cases x <;> simp [chk] at h z
  | .non, X, x, g, h, z => by cases x <;> simp [chk] at h z
  | .str _, X, x, g, h, z => by cases x <;> simp [chk] at h z
  | .cst _ _, X, x, g, h, z => by cases x <;> simp [chk] at h z
  | .op _ _ _, X, x, g, h, z => by cases x <;> simp [chk] at h z
  | .neg _, X, x, g, h, z => by cases x <;> simp [chk] at h z
  | .not _, X, x, g, h, z => by cases x <;> simp [chk] at h z
  | .and _ _, X, x, g, h, z => by cases x <;> simp [chk] at h z
  | .or _ _, X, x, g, h, z => by cases x <;> simp [chk] at h z
  | .ite _ _ _, X, x, g, h, z => by cases x <;> simp [chk] at h z
  | .tup _, X, x, g, h, z => by cases x <;> simp [chk] at h z
  | .lst _, X, x, g, h, z => by cases x <;> simp [chk] at h z
  | .dnew, X, x, g, h, z => by cases x <;> simp [chk] at h z
  | .dic1 _ _, X, x, g, h, z => by cases x <;> simp [chk] at h z
  | .rev _, X, x, g, h, z => by cases x <;> simp [chk] at h z
  | .revL _, X, x, g, h, z => by cases x <;> simp [chk] at h z
  | .lrep _ _, X, x, g, h, z => by cases x <;> simp [chk] at h z
  | .ix _ _, X, x, g, h, z => by cases x <;> simp [chk] at h z
  | .sl _ _ _, X, x, g, h, z => by cases x <;> simp [chk] at h z
  | .prim _ _, X, x, g, h, z => by cases x <;> simp [chk] at h z
  | .isi _ _, X, x, g, h, z => by cases x <;> simp [chk] at h z
  | .maxd _, X, x, g, h, z => by cases x <;> simp [chk] at h z
  | .maxe _ _, X, x, g, h, z => by cases x <;> simp [chk] at h z
  | .lrng _, X, x, g, h, z => by cases x <;> simp [chk] at h z
  | .trng _, X, x, g, h, z => by cases x <;> simp [chk] at h z
  | .trng2 _ _, X, x, g, h, z => by cases x <;> simp [chk] at h z
  | .call _ _, X, x, g, h, z => by cases x <;> simp [chk] at h z
  | .callm _ _ _, X, x, g, h, z => by cases x <;> simp [chk] at h z
  | .callf _ _ _, X, x, g, h, z => by cases x <;> simp [chk] at h z
  | .dget _ _, X, x, g, h, z => by cases x <;> simp [chk] at h z
  | .dgetd _ _ _, X, x, g, h, z => by cases x <;> simp [chk] at h z
  | .dpop _ _, X, x, g, h, z => by cases x <;> simp [chk] at h z
  | .ditems _, X, x, g, h, z => by cases x <;> simp [chk] at h z
  | .sset _, X, x, g, h, z => by cases x <;> simp [chk] at h z
  | .mind _, X, x, g, h, z => by cases x <;> simp [chk] at h z
  | .meth _ _ _, X, x, g, h, z => by cases x <;> simp [chk] at h z
  | .comp _ _ _ _ _, X, x, g, h, z => by cases x <;> simp [chk] at h z
  | .dcomp _ _ _ _ _ _, X, x, g, h, z => by cases x <;> simp [chk] at h z
  | .stuck, X, x, g, h, z => ⟨fun pins s σ H Q I q => by
    obtain ⟨B, W, ρ, τ, t, ρ', w, e, q⟩ := q
    simp only [evT, ev, Option.bind_eq_bind, Option.bind_none] at e
    cases e⟩
theorem pts_ok : ∀ (t : Tes) {X : Cx} {xs : List Expr}, Good G X → chkC G.csts G.blts X.N X.env.scope t xs = true → PTs X xs (Ev.tC G X.K t)
  | .nil, X, [], g, h => c_nil
  | .nil, X, _ :: _, g, h => by simp [chkC] at h
  | .one t, X, [x], g, h => by
    simp only [chkC] at h
    exact c_one (pt_ok t g h)
  | .one t, X, [], g, h => by simp [chkC] at h
  | .one t, X, _ :: _ :: _, g, h => by simp [chkC] at h
theorem pi_ok : ∀ (it : It) {X : Cx} {tg x : Expr}, Good G X → chkI G.csts G.blts X.N X.env.scope it tg x = true → PI X tg x (tI G X.K it)
  | .seq e, X, tg, x, g, h => by
    simp only [chkI, Bool.and_eq_true] at h
    exact i_seq (pe_ok e g h.1)
  | .rng a, X, tg, x, g, h => by
    unfold chkI at h
    split at h
    · simp only [Bool.and_eq_true, decide_eq_true_eq] at h
      obtain ⟨⟨⟨⟨h1, h2⟩, h3⟩, h4⟩, h5⟩ := h
      subst h1
      exact i_rng g (pe_ok a g h4) h5 h2 h3
    · cases h
  | .rng2 a b, X, tg, x, g, h => by
    unfold chkI at h
    split at h
    · simp only [Bool.and_eq_true, decide_eq_true_eq] at h
      obtain ⟨⟨⟨⟨⟨⟨h1, h2⟩, h3⟩, h4⟩, h5⟩, h6⟩, h7⟩ := h
      subst h1
      exact i_rng2 g (pe_ok a g h4) (pe_ok b g h6) h5 h7 h2 h3
    · cases h
  | .enum e, X, tg, x, g, h => by
    unfold chkI at h
    split at h
    · simp only [Bool.and_eq_true, decide_eq_true_eq] at h
      obtain ⟨⟨⟨⟨h1, h2⟩, h3⟩, h4⟩, h5⟩ := h
      subst h1
      exact i_enum g (pe_ok e g h4) h5 h2 h3
    · cases h
  | .zip a b, X, tg, x, g, h => by
    unfold chkI at h
    split at h
    · simp only [Bool.and_eq_true, decide_eq_true_eq] at h
      obtain ⟨⟨⟨⟨⟨⟨h1, h2⟩, h3⟩, h4⟩, h5⟩, h6⟩, h7⟩ := h
      subst h1
      exact i_zip g (pe_ok a g h4) (pe_ok b g h6) h5 h7 h2 h3
    · cases h
end
end Ev
set_option Elab.async false
set_option linter.all false
set_option maxRecDepth 100000
set_option maxHeartbeats 4000000
/-! Ev, part 17: statements. -/
namespace Ev
open PySem PySem.Spec PyProof.Rows L2

/-- what stays of the slots -/
structure Held (lk : Nat) (σ σ' : L2.St) : Prop where
  len : σ'.length = σ.length
  lock : ∀ i, i < lk → σ'[i]? = σ[i]?
theorem Held.refl {lk : Nat} {σ : L2.St} : Held lk σ σ := ⟨rfl, fun _ _ => rfl⟩
theorem Held.trans {lk : Nat} {σ σ' σ'' : L2.St} (a : Held lk σ σ') (b : Held lk σ' σ'') : Held lk σ σ'' := ⟨b.len.trans a.len, fun i h => (b.lock i h).trans (a.lock i h)⟩
theorem Held.set {lk i : Nat} {σ : L2.St} {v : Option V} (h : lk ≤ i) : Held lk σ (σ.set i v) := ⟨List.length_set, fun j hj => List.getElem?_set_ne (by omega)⟩

def Fin (K : PySem.W.Frag) (B W : AS) (τ : List Itm) (lk : Nat) (σ : L2.St) (H : Hp) (D : Ends) : Out → Prop
  | .nx ρ' => ∀ σ' H' W', Held lk σ σ' → Stp H W H' W' → Wd K H' B W' σ' ρ' τ → D.nx σ' H'
  | .bk ρ' => ∀ σ' H' W', Held lk σ σ' → Stp H W H' W' → Wd K H' B W' σ' ρ' τ → D.bk σ' H'
  | .ct ρ' => ∀ σ' H' W', Held lk σ σ' → Stp H W H' W' → Wd K H' B W' σ' ρ' τ → D.ct σ' H'
  | .rt r ρ' => ∀ v σ' H' W', Held lk σ σ' → Stp H W H' W' → Wd K H' B W' σ' ρ' ((v, r) :: τ) → D.rt v H'
def tS (G : Sig) (K : PySem.W.Frag) (lk n : Nat) (s : S) : TS := fun D σ H => ∃ (B W : AS) (ρ : Rho) (τ : List Itm) (o : Out), NoLoc τ ∧ Wd K H B W σ ρ τ ∧ exec G lk n s ρ = some o ∧ Fin K B W τ lk σ H D o
def tSs (G : Sig) (K : PySem.W.Frag) (lk n : Nat) (s : Ss) : TS := fun D σ H => ∃ (B W : AS) (ρ : Rho) (τ : List Itm) (o : Out), NoLoc τ ∧ Wd K H B W σ ρ τ ∧ execs G lk n s ρ = some o ∧ Fin K B W τ lk σ H D o
/-- further on -/
theorem Fin.go {K : PySem.W.Frag} {B W W1 : AS} {τ : List Itm} {lk : Nat} {σ σ1 : L2.St} {H H1 : Hp} {D : Ends} {o : Out} (hh : Held lk σ σ1) (hs : Stp H W H1 W1) (f : Fin K B W τ lk σ H D o) : Fin K B W1 τ lk σ1 H1 D o := by
  cases o with
  | nx ρ => exact fun σ' H' W' h s w => f σ' H' W' (hh.trans h) (hs.trans s) w
  | bk ρ => exact fun σ' H' W' h s w => f σ' H' W' (hh.trans h) (hs.trans s) w
  | ct ρ => exact fun σ' H' W' h s w => f σ' H' W' (hh.trans h) (hs.trans s) w
  | rt r ρ => exact fun v σ' H' W' h s w => f v σ' H' W' (hh.trans h) (hs.trans s) w

section
variable {X : Cx} {st : Stmt} {sts : List Stmt}
theorem PS.imp {t t' : TS} (h : PS X st t) (i : ∀ D σ H, t' D σ H → t D σ H) : PS X st t' := ⟨fun pins s σ H D I q => h.run pins s σ H D I (i D σ H q)⟩
theorem PSs.imp {t t' : TS} (h : PSs X sts t) (i : ∀ D σ H, t' D σ H → t D σ H) : PSs X sts t' := ⟨fun pins s σ H D I q => h.run pins s σ H D I (i D σ H q)⟩
end

structure GoodS (G : Sig) (X : Cx) : Prop extends Good G X where
  fnT : ∀ x, X.fn x = true
  kind : X.env.scope.kind = .function

section
variable {G : Sig} {X : Cx} {lk n : Nat} {x y z tg : Expr} {p p' : Pos} {e a b : E} {body body2 : List Stmt} {sb sb2 : Ss}
theorem s_nil : PSs X [] (tSs G X.K lk n .nil) := by
  refine PSs.imp pss_nil fun D σ H h => ?_
  obtain ⟨B, W, ρ, τ, o, nl, w, e, f⟩ := h
  simp only [execs, Option.some.injEq] at e
  subst e
  exact f σ H W .refl .refl w
theorem s_cons {st : Stmt} {s : S} (h1 : PS X st (tS G X.K lk n s)) (h2 : PSs X body (tSs G X.K lk n sb)) : PSs X (st :: body) (tSs G X.K lk n (.cons s sb)) := by
  refine PSs.imp (pss_cons h1 h2) fun D σ H h => ?_
  obtain ⟨B, W, ρ, τ, o, nl, w, e, f⟩ := h
  simp only [execs] at e
  cases q : exec G lk n s ρ with
  | none => rw [q] at e; cases e
  | some o1 =>
    rw [q] at e
    refine ⟨B, W, ρ, τ, o1, nl, w, q, ?_⟩
    cases o1 with
    | nx ρ1 => exact fun σ' H' W' h s w' => ⟨B, W', ρ1, τ, o, nl, w', e, f.go h s⟩
    | bk ρ1 => cases e; exact f
    | ct ρ1 => cases e; exact f
    | rt r ρ1 => cases e; exact f
theorem locOf {sc : Scope} {v : Str} (h : sc.names.lookup v = some .local ∨ sc.names.lookup v = some .cell) : Loc sc v := h
theorem no_swap (h : isLc y = false) {t : Option Expr} {l : Nat} {env : Env} : swapsWith y t l env = pure false := by
  cases y <;> first | rfl | cases h
/-- the end of a store -/
theorem store_fin {K : PySem.W.Frag} {B W : AS} {H : Hp} {σ : L2.St} {ρ ρ' : Rho} {τ : List Itm} {i : Nat} {r : R} {v : V} (nl : NoLoc τ) (w : Wd K H B W σ ρ ((v, r) :: τ)) (e : storeR lk i r ρ = some ρ') :
    lk ≤ i ∧ ∃ W', Stp H W H W' ∧ Wd K H B W' (σ.set i (some v)) ρ' τ := by
  cases r with
  | val o d =>
    simp only [storeR] at e
    split at e
    · rename_i h
      cases e
      exact ⟨h.1, W, .refl, w.put nl h.2⟩
    · cases e
  | loc j =>
    simp only [storeR] at e
    cases q : look ρ j with
    | none => rw [q] at e; cases e
    | some p =>
      obtain ⟨o, d⟩ := p
      rw [q] at e
      simp only at e
      split at e
      · rename_i h
        cases e
        obtain ⟨W', s, w'⟩ := w.esc (ρ' := ρ.set j (some (false, d))) (d := d) (by simp only [escR, q])
        exact ⟨h.1, W', s, w'.put nl (by rw [List.length_set]; exact h.2)⟩
      · cases e
theorem s_asg (g : GoodS G X) {i : Nat} {v : Str} {pv : Pos} (hN : X.N[i]? = some v) (hl : X.env.scope.names.lookup v = some .local ∨ X.env.scope.names.lookup v = some .cell) (he : PE X y (tE G X.K e)) (hc : swapsWith y (some (.Name v pv)) p.line X.env = pure false) :
    PS X (.Assign [.Name v pv] y p) (tS G X.K lk n (.asg i e)) := by
  refine PS.imp (ps_set g.nd hN (locOf hl) he hc (.inl (g.fnT v))) fun D σ H h => ?_
  obtain ⟨B, W, ρ, τ, o, nl, w, e, f⟩ := h
  simp only [exec, Option.bind_eq_bind, Option.bind_eq_some_iff, Prod.exists] at e
  obtain ⟨r, ρ1, e1, ρ2, e2, e3⟩ := e
  cases e3
  refine ⟨B, W, ρ, τ, r, ρ1, w, e1, fun v1 H1 W1 s1 w1 => ?_⟩
  obtain ⟨hlk, W2, s2, w2⟩ := store_fin nl w1 e2
  exact f _ _ _ (Held.set hlk) (s1.trans s2) w2
theorem s_asgLc (g : GoodS G X) {i : Nat} {v : Str} {pv : Pos} {vs : List Nat} {tgt : Tg} {it : It} {cd : Tes} {elt : E} {ifs : List Expr} {scope : Scope} {own : List (Str × Nat)} {pc : Pos} (hN : X.N[i]? = some v) (hl : X.env.scope.names.lookup v = some .local)
    (c : CompOk G X vs tgt it cd elt tg x ifs scope y own) (hw : swapsWith (.ListComp y [⟨tg, x, ifs, 0⟩] scope pc) (some (.Name v pv)) p.line X.env = pure true) : PS X (.Assign [.Name v pv] (.ListComp y [⟨tg, x, ifs, 0⟩] scope pc) p) (tS G X.K lk n (.asg i (.comp vs tgt it cd elt))) := by
  refine PS.imp (ps_setLc (own := own) g.calm g.nd hN hl hw c.hi c.ok c.hg c.ht c.he c.hs) fun D σ H h => ?_
  obtain ⟨B, W, ρ, τ, o, nl, w, e, f⟩ := h
  simp only [exec, Option.bind_eq_bind, Option.bind_eq_some_iff, Prod.exists] at e
  obtain ⟨r, ρ1, e1, ρ2, e2, e3⟩ := e
  cases e3
  rw [c.ho]
  refine k_comp g.toGood c.ho c.hi c.ok c.hg c.ht c.he c.hs c.hv σ H _ ⟨B, W, ρ, τ, r, ρ1, w, e1, fun v1 H1 W1 s1 w1 => ?_⟩
  obtain ⟨hlk, W2, s2, w2⟩ := store_fin nl w1 e2
  exact f _ _ _ (Held.set hlk) (s1.trans s2) w2
theorem s_asgT (g : GoodS G X) {t : Tg} {ts : List Expr} {k : Nat} {pt : Pos} (ht : chkT true X.N X.env.scope t (.Tuple ts k pt) = true) (he : PE X y (tE G X.K e)) (hc : isLc y = false) (hy : (fun w : Expr => (match w with | .Tuple .. => false | _ => true : Bool)) y = true) : PS X (.Assign [.Tuple ts k pt] y p) (tS G X.K lk n (.asgT t e)) := by
  refine PS.imp (ps_asg he (g_ok (fnb := true) g.calm g.nd (fun _ => g.fnT) t _ ht) (show swapsWith y (some (.Tuple ts k pt)) p.line X.env = pure false from no_swap hc) (by cases y <;> first | rfl | cases hy)) fun D σ H h => ?_
  obtain ⟨B, W, ρ, τ, o, nl, w, e, f⟩ := h
  simp only [exec, Option.bind_eq_bind, Option.bind_eq_some_iff, Prod.exists] at e
  obtain ⟨r, ρ1, e1, d, ρ2, e2, e3⟩ := e
  split at e3
  · rename_i hlk
    simp only [Option.bind_eq_some_iff] at e3
    obtain ⟨ρ3, e3, e4⟩ := e3
    cases e4
    refine ⟨B, W, ρ, τ, r, ρ1, w, e1, fun v1 H1 W1 s1 w1 => ?_⟩
    obtain ⟨W2, s2, w2⟩ := w1.esc e2
    refine ⟨B, W2, ρ2, τ, d, ρ3, nl, w2, e3, fun σ' l' o' w3 => f σ' H1 W2 ⟨l', fun i hi => o' i fun z => ?_⟩ (s1.trans s2) w3⟩
    have := List.all_eq_true.mp hlk i z
    have : lk ≤ i := by simpa using this
    omega
  · cases e3
theorem s_expr (he : PE X y (tE G X.K e)) (hc : isLc y = false) : PS X (.Expr y p) (tS G X.K lk n (.expr e)) := by
  refine PS.imp (ps_expr he (no_swap hc)) fun D σ H h => ?_
  obtain ⟨B, W, ρ, τ, o, nl, w, e, f⟩ := h
  simp only [exec, Option.bind_eq_bind, Option.bind_eq_some_iff, Prod.exists] at e
  obtain ⟨r, ρ1, e1, e2⟩ := e
  cases e2
  exact ⟨B, W, ρ, τ, r, ρ1, w, e1, fun v1 H1 W1 s1 w1 => f _ _ _ .refl s1 w1.pop⟩
theorem s_ret (he : PE X y (tE G X.K e)) : PS X (.Return (some y) p) (tS G X.K lk n (.ret e)) := by
  refine PS.imp (ps_ret he) fun D σ H h => ?_
  obtain ⟨B, W, ρ, τ, o, nl, w, e, f⟩ := h
  simp only [exec, Option.bind_eq_bind, Option.bind_eq_some_iff, Prod.exists] at e
  obtain ⟨r, ρ1, e1, e2⟩ := e
  cases e2
  exact ⟨B, W, ρ, τ, r, ρ1, w, e1, fun v1 H1 W1 s1 w1 => f v1 _ _ _ .refl s1 w1⟩
theorem s_retN : PS X (.Return none p) (tS G X.K lk n .retN) := by
  refine PS.imp ps_retN fun D σ H h => ?_
  obtain ⟨B, W, ρ, τ, o, nl, w, e, f⟩ := h
  simp only [exec, Option.some.injEq] at e
  subst e
  exact f .non σ H W .refl .refl (w.plain .non)
theorem s_ifs {c : Te} (hc : PT X x (tT G X.K c)) (ha : PSs X body (tSs G X.K lk n sb)) (hb : PSs X body2 (tSs G X.K lk n sb2)) : PS X (.If x body body2 p) (tS G X.K lk n (.ifs c sb sb2)) := by
  refine PS.imp (ps_if hc ha hb) fun D σ H h => ?_
  obtain ⟨B, W, ρ, τ, o, nl, w, e, f⟩ := h
  simp only [exec, Option.bind_eq_bind, Option.bind_eq_some_iff, Prod.exists] at e
  obtain ⟨t, ρ1, e1, e2⟩ := e
  refine ⟨B, W, ρ, τ, t, ρ1, w, e1, fun H1 W1 s1 w1 => ?_⟩
  cases t with
  | true => exact iteT ⟨B, W1, ρ1, τ, o, nl, w1, e2, f.go .refl s1⟩
  | false => exact iteF ⟨B, W1, ρ1, τ, o, nl, w1, e2, f.go .refl s1⟩
theorem s_pass : PS X (.Pass p) (tS G X.K lk n .pass) := by
  refine PS.imp ps_pass fun D σ H h => ?_
  obtain ⟨B, W, ρ, τ, o, nl, w, e, f⟩ := h
  simp only [exec, Option.some.injEq] at e
  subst e
  exact f σ H W .refl .refl w
theorem s_brk : PS X (.Break p) (tS G X.K lk n .brk) := by
  refine PS.imp ps_break fun D σ H h => ?_
  obtain ⟨B, W, ρ, τ, o, nl, w, e, f⟩ := h
  simp only [exec, Option.some.injEq] at e
  subst e
  exact f σ H W .refl .refl w
theorem s_cont : PS X (.Continue p) (tS G X.K lk n .cont) := by
  refine PS.imp ps_continue fun D σ H h => ?_
  obtain ⟨B, W, ρ, τ, o, nl, w, e, f⟩ := h
  simp only [exec, Option.some.injEq] at e
  subst e
  exact f σ H W .refl .refl w
theorem s_aug (g : GoodS G X) {i : Nat} {v : Str} {pv : Pos} {o : O2} (hN : X.N[i]? = some v) (hl : X.env.scope.names.lookup v = some .local ∨ X.env.scope.names.lookup v = some .cell) (he : PE X y (tE G X.K e)) :
    PS X (.AugAssign (.Name v pv) (opOf o) y p) (tS G X.K lk n (.aug i o e)) := by
  have base : (o = .add ∨ o = .sub) → ∃ f : Int → Int → Int, PS X (.AugAssign (.Name v pv) (opOf o) y p) (tAug i (tE G X.K e) (ipI f)) ∧ ∀ a b, op2 o (.int a) (.int b) = some (false, .int (f a b)) := fun h => by
    rcases h with h | h
    · subst h
      exact ⟨_, ps_aug g.nd hN (locOf hl) he ip_add (.inl (g.fnT v)), fun a b => rfl⟩
    · subst h
      exact ⟨_, ps_aug g.nd hN (locOf hl) he ip_sub (.inl (g.fnT v)), fun a b => rfl⟩
  refine ⟨fun pins s σ H D I h => ?_⟩
  obtain ⟨B, W, ρ, τ, o', nl, w, e, f⟩ := h
  simp only [exec] at e
  split at e
  · rename_i a hla
    simp only [Option.bind_eq_bind, Option.bind_eq_some_iff, Prod.exists] at e
    obtain ⟨r, ρ1, e1, d, e2, e3⟩ := e
    obtain ⟨x0, hx1, hx2⟩ := w.slot i _ _ hla
    have hx2 : Rp X.K H (AV B W) x0 (.int a) := hx2
    cases hx2
    cases d with
    | int b =>
      simp only [Option.bind_eq_some_iff, Prod.exists] at e3
      obtain ⟨zo, zd, e4, e5⟩ := e3
      split at e5
      · rename_i hc
        cases e5
        obtain ⟨fn, ps, hfn⟩ := base hc.2.2
        rw [hfn] at e4
        cases e4
        refine ps.run pins s σ H D I ⟨_, hx1, B, W, ρ, τ, r, ρ1, w, e1, fun v1 H1 W1 s1 w1 => ?_⟩
        have hr := w1.rq hd_mem e2
        cases hr
        exact ⟨a, b, rfl, rfl, f _ _ _ (Held.set hc.1) s1 ((w1.pop.plain (.int _)).put nl hc.2.1)⟩
      · cases e5
    | _ => cases e3
  · cases e
theorem sw_end {nm : List Str} {u v : Str} {b1 b2 : Bool} (h : nm = [u, v]) (ed : [u, v].eraseDups = [u, v]) (f1 : b1 = false) (f2 : b2 = false) :
    (if (nm.length != 0 + 1 + 1 || nm.eraseDups.length != nm.length) = true then pure none else if b1 = true then pure none else if b2 = true then (do
      unsupported "assign.tuple-of-constant-expressions:order-of-the-stores"
      pure (some nm)) else pure (some nm)) = (pure (some [u, v]) : Sem (Option (List Str))) := by
  subst h f1 f2
  rw [ed, if_neg (by simp), if_neg (by simp), if_neg (by simp)]
theorem s_par (g : GoodS G X) {i j : Nat} {u v : Str} {pu pv pt p2 : Pos} {k k2 : Nat} (hij : i ≠ j) (hu : X.N[i]? = some u) (hv : X.N[j]? = some v) (lu : X.env.scope.names.lookup u = some .local) (lv : X.env.scope.names.lookup v = some .local) (ha : PE X y (tE G X.K a)) (hb : PE X z (tE G X.K b))
    (n1 : notStar y = true) (n2 : notStar z = true) (hln : (pu.line == pv.line) = true) (hne : (u == v) = false) (f1 : ([y, z].all (foldedForSure 8)) = false) (f2 : ([y, z].all (constantsAlone 8)) = false) :
    PS X (.Assign [.Tuple [.Name u pu, .Name v pv] k pt] (.Tuple [y, z] k2 p2) p) (tS G X.K lk n (.par i j a b)) := by
  have sw : swappedStores [.Tuple [.Name u pu, .Name v pv] k pt] (.Tuple [y, z] k2 p2) X.env = pure (some [u, v]) := by
    have hbk : (X.env.blockKind != .function) = false := by unfold Env.blockKind; rw [g.kind]; rfl
    have ku : X.env.kindOf u = some .local := lu
    have kv : X.env.kindOf v = some .local := lv
    have l1 : (pv.line == pu.line) = true := by rw [beq_iff_eq] at hln ⊢; exact hln.symm
    have l2 : (pu.line == pu.line) = true := beq_self_eq_true _
    have ed : [u, v].eraseDups = [u, v] := by
      have hvu : (v == u) = false := by
        rw [← Bool.not_eq_true] at hne ⊢
        exact fun z => hne (by rw [beq_iff_eq] at z ⊢; exact z.symm)
      simp [List.eraseDups_cons, hvu]
    have e0 : ∀ w : Expr, notStar w = true → ∀ (P : Bool → Prop), P false → P (match w with | .Starred .. => true | _ => false) := fun w hw P hP => by
      cases w <;> first | exact hP | cases hw
    have st : ([y, z].any fun | .Starred .. => true | _ => false) = false := by
      rw [List.any_cons, List.any_cons, List.any_nil]
      refine e0 y n1 (fun t => (t || _) = false) ?_
      exact e0 z n2 (fun t => (false || (t || false)) = false) rfl
    have fm : ([Expr.Name u pu, .Name v pv].filterMap fun
        | .Name id pos => if X.env.kindOf id == some .local && pos.line == pu.line then some id else none
        | _ => none) = [u, v] := by
      have l1' : pv.line = pu.line := by simpa using l1
      simp [List.filterMap_cons, ku, kv, l1']
    unfold swappedStores
    simp only [List.length_cons, List.length_nil, List.head?_cons, Option.map_some, Option.getD_some]
    rw [if_neg (by rw [hbk]; simp)]
    generalize hS : List.any [y, z] _ = tst
    have hS' : tst = false := hS.symm.trans st
    subst hS'
    rw [if_neg Bool.false_ne_true]
    exact sw_end fm ed f1 f2
  refine PS.imp (ps_par g.calm g.nd hu hv hij lu lv (pa_cons ha (pa_cons hb pa_nil (star1 n2)) (star1 n1)) sw rfl) fun D σ H h => ?_
  obtain ⟨B, W, ρ, τ, o, nl, w, e, f⟩ := h
  simp only [exec, Option.bind_eq_bind, Option.bind_eq_some_iff, Prod.exists] at e
  obtain ⟨ra, ρ1, e1, rb, ρ2, e2, e3⟩ := e
  split at e3
  · cases e3
  rename_i hloc
  rw [Bool.or_eq_true, not_or] at hloc
  simp only [Option.bind_eq_some_iff] at e3
  obtain ⟨ρ3, e3, ρ4, e4, e5⟩ := e3
  cases e5
  refine ⟨B, W, ρ, τ, ra, ρ1, w, e1, fun v1 H1 W1 s1 w1 => ⟨B, W1, ρ1, _, rb, ρ2, w1, e2, fun v2 H2 W2 s2 w2 => ⟨v1, v2, rfl, ?_⟩⟩⟩
  have w3 := w2.perm (List.Perm.swap _ _ _)
  have nl2 : NoLoc ((v2, rb) :: τ) := fun z hz => (List.mem_cons.mp hz).elim (fun h => by rw [h]; simpa using hloc.2) (nl z)
  obtain ⟨h1, W3, s3, w4⟩ := store_fin nl2 w3 e3
  obtain ⟨h2, W4, s4, w5⟩ := store_fin nl w4 e4
  exact f _ _ _ ((Held.set h1).trans (Held.set h2)) (((s1.trans s2).trans s3).trans s4) w5
theorem sw_end2 {nm : List Str} {r : Sem (Option (List Str))} (h : nm.length ≠ 2) : (if (nm.length != 0 + 1 + 1 || nm.eraseDups.length != nm.length) = true then pure none else r) = (pure none : Sem (Option (List Str))) := by
  have : (nm.length != 0 + 1 + 1) = true := by simpa using h
  rw [this, Bool.true_or, if_pos rfl]
theorem s_parT (g : GoodS G X) {i j : Nat} {u v : Str} {pu pv pt p2 : Pos} {k k2 : Nat} (hij : i ≠ j) (hu : X.N[i]? = some u) (hv : X.N[j]? = some v) (lu : X.env.scope.names.lookup u = some .local ∨ X.env.scope.names.lookup u = some .cell) (lv : X.env.scope.names.lookup v = some .local ∨ X.env.scope.names.lookup v = some .cell)
    (lc : X.env.scope.names.lookup u = some .cell ∨ X.env.scope.names.lookup v = some .cell) (ha : PE X y (tE G X.K a)) (hb : PE X z (tE G X.K b)) (n1 : notStar y = true) (n2 : notStar z = true) :
    PS X (.Assign [.Tuple [.Name u pu, .Name v pv] k pt] (.Tuple [y, z] k2 p2) p) (tS G X.K lk n (.parT i j a b)) := by
  have sw : swappedStores [.Tuple [.Name u pu, .Name v pv] k pt] (.Tuple [y, z] k2 p2) X.env = pure none := by
    have hbk : (X.env.blockKind != .function) = false := by unfold Env.blockKind; rw [g.kind]; rfl
    have e0 : ∀ w : Expr, notStar w = true → ∀ (P : Bool → Prop), P false → P (match w with | .Starred .. => true | _ => false) := fun w hw P hP => by
      cases w <;> first | exact hP | cases hw
    have st : ([y, z].any fun | .Starred .. => true | _ => false) = false := by
      rw [List.any_cons, List.any_cons, List.any_nil]
      refine e0 y n1 (fun t => (t || _) = false) ?_
      exact e0 z n2 (fun t => (false || (t || false)) = false) rfl
    have fm : ([Expr.Name u pu, .Name v pv].filterMap fun
        | .Name id pos => if X.env.kindOf id == some .local && pos.line == pu.line then some id else none
        | _ => none).length ≠ 2 := by
      rcases lc with h | h
      · have ku : X.env.kindOf u = some .cell := h
        by_cases q : X.env.kindOf v = some .local ∧ pv.line = pu.line <;> simp [List.filterMap_cons, ku, q]
      · have kv : X.env.kindOf v = some .cell := h
        by_cases q : X.env.kindOf u = some .local <;> simp [List.filterMap_cons, kv, q]
    unfold swappedStores
    simp only [List.length_cons, List.length_nil, List.head?_cons, Option.map_some, Option.getD_some]
    rw [if_neg (by rw [hbk]; simp)]
    generalize hS : List.any [y, z] _ = tst
    have hS' : tst = false := hS.symm.trans st
    subst hS'
    rw [if_neg Bool.false_ne_true]
    exact sw_end2 fm
  refine PS.imp (ps_asg (pe_tup (pa_cons ha (pa_cons hb pa_nil (star1 n2)) (star1 n1))) (pg_tup g.calm (pgs_cons (pg_name g.nd hu (locOf lu) (.inl (g.fnT u))) (pgs_cons (pg_name g.nd hv (locOf lv) (.inl (g.fnT v))) pgs_nil))) rfl sw rfl) fun D σ H h => ?_
  obtain ⟨B, W, ρ, τ, o, nl, w, e, f⟩ := h
  simp only [exec, Option.bind_eq_bind, Option.bind_eq_some_iff, Prod.exists] at e
  obtain ⟨ra, ρ1, e1, rb, ρ2, e2, e3⟩ := e
  split at e3
  · cases e3
  rename_i hloc
  rw [Bool.or_eq_true, not_or] at hloc
  simp only [Option.bind_eq_some_iff] at e3
  obtain ⟨ρ3, e3, ρ4, e4, e5⟩ := e3
  cases e5
  refine ⟨B, W, ρ, τ, ra, ρ1, w, e1, fun v1 H1 W1 s1 w1 => ⟨B, W1, ρ1, _, rb, ρ2, w1, e2, fun v2 H2 W2 s2 w2 => ⟨(by show 2 ≤ sizeLine; decide), fun q hq => ⟨q, [v1, v2], rfl, .inl (.inl upd_same), rfl, v1, [v2], rfl, v2, [], rfl, rfl, ?_⟩⟩⟩⟩
  have sm : Same H2 (upd H2 q (.tup [v1, v2])) := same_up hq
  have w3 := (w2.grow sm).perm (List.Perm.swap _ _ _)
  have nl2 : NoLoc ((v2, rb) :: τ) := fun z hz => (List.mem_cons.mp hz).elim (fun h => by rw [h]; simpa using hloc.2) (nl z)
  obtain ⟨h1, W3, s3, w4⟩ := store_fin nl2 w3 e3
  obtain ⟨h2, W4, s4, w5⟩ := store_fin nl w4 e4
  exact f _ _ _ ((Held.set h1).trans (Held.set h2)) ((((s1.trans s2).trans (.ofSame sm)).trans s3).trans s4) w5
theorem cell_swap {v : Str} {pv : Pos} {l : Nat} (h : X.env.scope.names.lookup v = some .cell) (y : Expr) : swapsWith y (some (.Name v pv)) l X.env = pure false := by
  have kv : X.env.kindOf v = some .cell := h
  have nl : (some NameKind.cell == some NameKind.local) = false := rfl
  cases y <;> first | rfl | (unfold swapsWith; simp only [kv, nl, Bool.and_false, Bool.false_and])
theorem set_or (hu : X.A.units + 200 < cLine) : PSet X (fun o i v H Q => rSetL o i v H Q ∨ ∃ a H', o = .ref a ∧ DPut H a i v H' ∧ Q H') := by
  intro pins s σ H o i v ov iv u Q I ro ri rv h
  rcases h with h | ⟨a, H', rfl, d, q⟩
  · exact set_list pins s σ H o i v ov iv u Q I ro ri rv h
  · cases ro
    exact d_setItem (by omega) I d ri rv fun s' I' => ⟨H', I', q⟩
end
end Ev
set_option Elab.async false
set_option linter.all false
set_option maxRecDepth 100000
set_option maxHeartbeats 4000000
/-! Ev, part 18: loops, stores in objects, all statements. -/
namespace Ev
open PySem PySem.Spec PyProof.Rows L2
section
variable {G : Sig} {X : Cx} {lk n : Nat} {x y z tg : Expr} {p p' : Pos} {e a b : E} {body body2 : List Stmt} {sb sb2 : Ss}
theorem s_setix (g : GoodS G X) {i : Nat} {v : Str} {pv ps : Pos} (hN : X.N[i]? = some v) (hv : isVis X.env.scope v = true) (hn : okNm v = true) (ha : PE X y (tE G X.K a)) (he : PE X z (tE G X.K e)) (hs : notSl y = true) (hc : isLc z = false) (hu : X.A.units + 200 < cLine) :
    PS X (.Assign [.Subscript (.Name v pv) y ps] z p) (tS G X.K lk n (.setix i a e)) := by
  refine PS.imp (ps_asg he (pg_sub (pe_var hN (visOf hv) (nmOf hn).1 (nmOf hn).2.1) ha (set_or hu) (by intro w; cases y <;> first | rfl | cases hs)) (show swapsWith z (some (.Subscript (.Name v pv) y ps)) p.line X.env = pure false from no_swap hc) (by cases z <;> rfl) rfl) fun D σ H h => ?_
  obtain ⟨B, W, ρ, τ, o, nl, w, e, f⟩ := h
  simp only [exec] at e
  split at e
  rotate_left
  · cases e
  rename_i d0 h0
  simp only [Option.bind_eq_bind, Option.bind_eq_some_iff, Prod.exists] at e
  obtain ⟨r, ρ1, e1, ra, ρ2, e2, d, ρ3, e3, k, e4, e5⟩ := e
  obtain ⟨v0, q1, s0, rfl, ws, c⟩ := w.slot i true _ h0
  refine ⟨B, W, ρ, τ, r, ρ1, w, e1, fun v1 H1 W1 s1 w1 => ⟨.ref s0, q1, B, W1, ρ1, _, ra, ρ2, w1, e2, fun v2 H2 W2 s2 w2 => ?_⟩⟩
  obtain ⟨W3, s3, w3⟩ := (w2.perm (List.Perm.swap _ _ _)).esc e3
  have rv : Rp X.K H2 (AV B W3) v1 d := w3.tmp _ hd_mem
  have w4 := w3.perm (List.Perm.swap _ _ _)
  have rk : Rq X.K H2 (AV B W3) v2 k := w4.rq hd_mem e4
  split at e5
  · rename_i xs zi hlook
    split at e5
    rotate_left
    · cases e5
    rename_i j hj
    cases e5
    obtain ⟨v', hq2, s', rfl, ws', zs, hz, rz⟩ := w4.slot i true _ hlook
    rw [q1] at hq2
    cases hq2
    have hk : v2 = .int zi := by cases rk; rfl
    subst hk
    refine .inl ⟨s0, zs, zi, j, rfl, rfl, hz, by rw [rz.len]; exact hj, ?_⟩
    have st3 : Stp H2 W3 (upd H2 s0 (.lst (zs.set j v1))) W3 := upd_step (K := X.K) hz ws'
    obtain ⟨s4, w5⟩ := w4.wr (H' := upd H2 s0 (.lst (zs.set j v1))) (d' := .list (xs.set j d)) hlook q1 (fun b u z e => by rw [upd_ne z]; exact e) (fun xs e => by rw [hz] at e; cases e) (fun ob u e => by rw [hz] at e; cases e) st3.dom
      (fun _ => ⟨_, upd_same, Rps.mv st3.mv _ _ (Rps.set rv j rz)⟩)
    exact f _ _ _ .refl (((s1.trans s2).trans s3).trans s4) w5.pop.pop
  · rename_i k0 xq kx kvs hlook
    split at e5
    rotate_left
    · cases e5
    rename_i hk
    cases e5
    rw [Bool.and_eq_true, decide_eq_true_eq] at hk
    obtain ⟨v', hq2, s', rfl, ws', zs, hz, rz⟩ := w4.slot i true _ hlook
    rw [q1] at hq2
    cases hq2
    have rk' : Rp X.K H2 (AV B W3) v2 k0 := by
      cases k0 <;> first | (simp [isKey] at hk; done) | exact rk
    obtain ⟨key, hkey⟩ := key_of hk.1 rk'
    subst hkey
    have rkey := rk'
    refine .inr ⟨s0, _, rfl, DPut.k hz (by rw [rz.len]; exact hk.2), ?_⟩
    have st3 : Stp H2 W3 (upd H2 s0 (.dK (putK zs key v1))) W3 :=
      ⟨fun a o e n => by rw [upd_ne (fun z => n (by rw [z]; exact ws'))]; exact e, fun a zs e => by rw [upd_ne (fun z => by rw [z, hz] at e; cases e)]; exact e,
        fun a o u e => by rw [upd_ne (fun z => by rw [z, hz] at e; cases e)]; exact e, fun a e => by
          by_cases z : a = s0
          · rw [z, upd_same] at e; cases e
          · rw [upd_ne z] at e; exact e, fun a h => .inl h⟩
    obtain ⟨s4, w5⟩ := w4.wr (H' := upd H2 s0 (.dK (putK zs key v1))) (d' := .dict (dput kvs k0 d)) hlook q1 (fun b u z e => by rw [upd_ne z]; exact e) (fun xs e => by rw [hz] at e; cases e) (fun ob u e => by rw [hz] at e; cases e) st3.dom
      (fun _ => ⟨_, upd_same, RpKs.mv st3.mv _ _ (dput_of rkey rv rz)⟩)
    exact f _ _ _ .refl (((s1.trans s2).trans s3).trans s4) w5.pop.pop
  · cases e5
def FInv (K : PySem.W.Frag) (B : AS) (lk : Nat) (σ0 : L2.St) (H0 : Hp) (W0 : AS) (τ : List Itm) (turn : D → Rho → Option Out) (its : List D) (o : Out) (i : Nat) (σ : L2.St) (H : Hp) : Prop :=
  ∃ (W : AS) (ρ : Rho), Held lk σ0 σ ∧ Stp H0 W0 H W ∧ Wd K H B W σ ρ τ ∧ forF turn (its.drop i) ρ = some o
theorem s_for (g : GoodS G X) {t : Tg} {it : It} (hi : PI X tg x (tI G X.K it)) (hg : PG X tg (tG X.K t)) (hb : PSs X body (tSs G X.K lk n sb)) (hs : ∀ v, foldedSetIterable x X.env v = pure v) :
    PS X (.For tg x body [] p) (tS G X.K lk n (.for_ t it sb)) := by
  refine PS.imp (ps_for g.pass g.calm hi hg hb hs) fun D σ H h => ?_
  obtain ⟨B, W, ρ, τ, o, nl, w, e, f⟩ := h
  simp only [exec, Option.bind_eq_bind, Option.bind_eq_some_iff, Prod.exists] at e
  obtain ⟨its, ρ1, e1, e2⟩ := e
  split at e2
  rotate_left
  · cases e2
  rename_i hlk
  generalize ht : (fun (d : PyData) (ρ : Rho) => match bindT t d ρ with
    | some ρ1 => execs G lk n sb ρ1
    | none => none) = turn at e2
  have hturn : ∀ d ρ, turn d ρ = match bindT t d ρ with
    | some ρ1 => execs G lk n sb ρ1
    | none => none := fun d ρ => by rw [← ht]
  refine ⟨B, W, ρ, τ, its, ρ1, w, e1, fun J zs H1 W1 s1 nz w1 src hlen => ?_⟩
  have nl1 : NoLoc (zs ++ τ) := fun z hz => (List.mem_append.mp hz).elim (nz z) (nl z)
  refine ⟨fun i m σc Hc => m = its.length - i ∧ i ≤ its.length ∧ FInv X.K B lk σ H1 W1 (zs ++ τ) turn its o i σc Hc, ⟨_, rfl, Nat.zero_le _, W1, ρ1, .refl, .refl, w1, e2⟩, ?_⟩
  rintro i m σc Hc ⟨rfl, hle, Wc, ρc, hc, sc, wc, ec⟩
  have rp : ∀ v d, (v, R.val false d) ∈ zs → Rp X.K Hc (AV B Wc) v d := fun v d hz => wc.tmp (v, .val false d) (List.mem_append_left _ hz)
  by_cases hlt : i < its.length
  · right
    have hget : its[i]? = some its[i] := List.getElem?_eq_getElem hlt
    obtain ⟨go, yld⟩ := (src Hc _ rp i).1 _ hget
    rw [List.drop_eq_getElem_cons hlt] at ec
    simp only [forF] at ec
    refine ⟨go, FInv X.K B lk σ H1 W1 (zs ++ τ) turn its o (i + 1), fun σ' H' hN => ⟨its.length - (i + 1), by omega, rfl, hlt, hN⟩, fun xv H' hy => ?_⟩
    obtain ⟨sm, rx⟩ := yld xv H' hy
    have wg := (wc.grow sm).plain rx
    cases hbd : bindT t its[i] ρc with
    | none => rw [hturn, hbd] at ec; cases ec
    | some ρa =>
      cases hex : execs G lk n sb ρa with
      | none => rw [hturn, hbd] at ec; simp only [hex] at ec; cases ec
      | some o1 =>
        rw [hturn, hbd] at ec
        simp only [hex] at ec
        refine ⟨B, Wc, ρc, _, its[i], ρa, nl1, wg, hbd, fun σ2 l2 o2 wt => ⟨B, Wc, ρa, _, o1, nl1, wt, hex, ?_⟩⟩
        have h2 : Held lk σ σ2 := hc.trans ⟨l2, fun j hj => o2 j fun z => by
          have := List.all_eq_true.mp hlk j z
          have : lk ≤ j := by simpa using this
          omega⟩
        have sx : Stp H1 W1 H' Wc := sc.trans (.ofSame sm)
        cases o1 with
        | nx ρ' => exact fun σ' Hx Wx hx stx wx => ⟨Wx, ρ', h2.trans hx, sx.trans stx, wx, ec⟩
        | ct ρ' => exact fun σ' Hx Wx hx stx wx => ⟨Wx, ρ', h2.trans hx, sx.trans stx, wx, ec⟩
        | bk ρ' =>
          cases ec
          exact fun σ' Hx Wx hx stx wx => f σ' Hx Wx (h2.trans hx) (s1.trans (sx.trans stx)) (wx.sub (List.sublist_append_right zs _))
        | rt r ρ' =>
          cases ec
          exact fun v' σ' Hx Wx hx stx wx => f v' σ' Hx Wx (h2.trans hx) (s1.trans (sx.trans stx)) (wx.sub (.cons₂ _ (List.sublist_append_right zs _)))
  · left
    have ei : i = its.length := by omega
    subst ei
    rw [List.drop_length] at ec
    simp only [forF, Option.some.injEq] at ec
    subst ec
    exact ⟨(src Hc _ rp _).2 (List.getElem?_eq_none (Nat.le_refl _)), f σc Hc Wc hc (s1.trans sc) (wc.sub (List.sublist_append_right zs _))⟩
theorem s_while (g : GoodS G X) {c : Te} (hc : PT X x (tT G X.K c)) (hb : PSs X body (tSs G X.K lk n sb)) : PS X (.While x body [] p) (tS G X.K lk n (.while_ c sb)) := by
  refine PS.imp (ps_while g.pass hc hb) fun D σ H h => ?_
  obtain ⟨B, W, ρ, τ, o, nl, w, e, f⟩ := h
  simp only [exec] at e
  refine ⟨fun m σc Hc => ∃ (Wc : AS) (ρc : Rho), Held lk σ σc ∧ Stp H W Hc Wc ∧ Wd X.K Hc B Wc σc ρc τ ∧ whileF (fun ρ => evT G c ρ) (fun ρ => execs G lk n sb ρ) m ρc = some o, ⟨n, W, ρ, .refl, .refl, w, e⟩, ?_⟩
  rintro m σc Hc ⟨Wc, ρc, hh, sc, wc, ec⟩
  cases m with
  | zero => simp only [whileF] at ec; cases ec
  | succ m =>
    simp only [whileF] at ec
    split at ec
    · rename_i ρ1 e1
      simp only [Option.some.injEq] at ec
      subst ec
      exact ⟨B, Wc, ρc, τ, false, ρ1, wc, e1, fun H1 W1 s1 w1 => iteF (f σc H1 W1 hh (sc.trans s1) w1)⟩
    · rename_i ρ1 e1
      refine ⟨B, Wc, ρc, τ, true, ρ1, wc, e1, fun H1 W1 s1 w1 => iteT ⟨fun σ' H' => ∃ (Wc : AS) (ρc : Rho), Held lk σ σ' ∧ Stp H W H' Wc ∧ Wd X.K H' B Wc σ' ρc τ ∧ whileF (fun ρ => evT G c ρ) (fun ρ => execs G lk n sb ρ) m ρc = some o, fun σ' H' hN => ⟨m, Nat.lt_succ_self m, hN⟩, ?_⟩⟩
      split at ec
      · rename_i ρ2 e2
        exact ⟨B, W1, ρ1, τ, _, nl, w1, e2, fun σ' Hx Wx hx stx wx => ⟨Wx, ρ2, hh.trans hx, (sc.trans s1).trans stx, wx, ec⟩⟩
      · rename_i ρ2 e2
        exact ⟨B, W1, ρ1, τ, _, nl, w1, e2, fun σ' Hx Wx hx stx wx => ⟨Wx, ρ2, hh.trans hx, (sc.trans s1).trans stx, wx, ec⟩⟩
      · rename_i ρ2 e2
        cases ec
        exact ⟨B, W1, ρ1, τ, _, nl, w1, e2, fun σ' Hx Wx hx stx wx => f σ' Hx Wx (hh.trans hx) ((sc.trans s1).trans stx) wx⟩
      · rename_i r ρ2 e2
        cases ec
        exact ⟨B, W1, ρ1, τ, _, nl, w1, e2, fun v' σ' Hx Wx hx stx wx => f v' σ' Hx Wx (hh.trans hx) ((sc.trans s1).trans stx) wx⟩
      · cases ec
    · cases ec
end
end Ev
set_option Elab.async false
set_option linter.all false
set_option maxRecDepth 100000
set_option maxHeartbeats 4000000
/-! Ev: a dict comprehension on its name's own line. -/
namespace Ev
open PySem PySem.Spec PyProof.Rows L2
variable {X : Cx}
theorem ps_setDc {i : Nat} {y : Str} {py : Pos} {kx vx tg iter : Expr} {ifs : List Expr} {scope : Scope} {own : List (Str × Nat)} {pos spos : Pos} {wi : TI} {g : TG} {tt : TT} {tk tv : TE} (hc : X.calm = true) (hN : X.N.Nodup) (hy : X.N[i]? = some y) (hyl : X.env.scope.names.lookup y = some .local)
    (hsw : swapsWith (.DictComp kx vx [⟨tg, iter, ifs, 0⟩] scope pos) (some (.Name y py)) spos.line X.env = pure true) (hi : PI X tg iter wi) (ok : BlkOk X.N X.env.scope scope own)
    (hg : ∀ (s : Shared) (H : Hp) (C : Addr) (cl : List (Str × Addr)) (fp : List Addr), PG (X.blk s H scope (compEnvC scope cl C X.env) fp) tg g) (ht : ∀ (s : Shared) (H : Hp) (C : Addr) (cl : List (Str × Addr)) (fp : List Addr), PTs (X.blk s H scope (compEnvC scope cl C X.env) fp) ifs tt)
    (hk : ∀ (s : Shared) (H : Hp) (C : Addr) (cl : List (Str × Addr)) (fp : List Addr), PE (X.blk s H scope (compEnvC scope cl C X.env) fp) kx tk)
    (he : ∀ (s : Shared) (H : Hp) (C : Addr) (cl : List (Str × Addr)) (fp : List Addr), PE (X.blk s H scope (compEnvC scope cl C X.env) fp) vx tv) (hs : ∀ x, foldedSetIterable iter X.env x = pure x) :
    PS X (.Assign [.Name y py] (.DictComp kx vx [⟨tg, iter, ifs, 0⟩] scope pos) spos) (tAsg (tDc wi g tt tk tv (own.map (·.2))) (gName i)) := by
  refine ⟨fun pins s σ H D I h => ?_⟩
  rw [exec_Assign_Name_used _ _ _ _ hsw]
  refine wpAny_bind (wpAny_standAt (wpAny_bind ?_))
  show wpAny _ X.A (do let _ ← comprehension (.DictComp kx vx [⟨tg, iter, ifs, 0⟩] scope pos) scope X.env (firstIterPos [⟨tg, iter, ifs, 0⟩] pos) newDict false (eval iter X.env) (some (assign (.Name y py) X.env))) _ _ s
  have h : tDc wi g tt tk tv (own.map (·.2)) σ H (fun x H1 => gName i x σ H1 D.nx) := h
  refine wpAny_bind (thn (dc_core (Qf := fun _ s' => SP X pins D .next s') hc hN I hi ok hg ht hk he hs h fun L C s' m H' I' q hn f => ?_) fun _ s' hq => wpAny_pure (wpAny_pure hq))
  show wpAny _ _ (assign (.Name y py) X.env (.ref L)) _ _ _
  refine wpAny_assign_Name (store_ok2 (v := V.ref L) I' hN hy (.inl hyl) rfl (fun s2 I2 ⟨a, sb, ha⟩ => ?_) (.inr hyl))
  obtain ⟨f0, f1, f2, f3, f4, f5⟩ := f
  have haC : C ≠ a := by
    rcases ha with z | z
    · rw [z]; exact f1
    · exact fun e => f4 y a z e.symm
  refine ⟨m, hn.sameBut sb haC, fun h3 sb3 => ?_⟩
  exact ⟨_, H', I2.turned (t' := s2.toks) (fun b o hb e => (sb3.2 b hb).trans e) f0 f1 f3 f4 f5, q⟩
theorem sw_trueD {kx vx : Expr} {gs : List Comprehension} {scope : Scope} {pos py : Pos} {y : Str} {l : Nat} {env : Env} (hk : env.scope.kind = .function) (hy : env.scope.names.lookup y = some .local) (hl : (py.line == pos.line) = true)
    (ha : (scope.names.any fun (n, k) => n == y && (k == .local || k == .cell)) = false) : swapsWith (.DictComp kx vx gs scope pos) (some (.Name y py)) l env = pure true := by
  have ky : env.kindOf y = some .local := hy
  have hb : env.blockKind = .function := by unfold Env.blockKind; rw [hk]; rfl
  unfold swapsWith
  simp only [hb, ky, ha, Expr.pos, hl]
  rfl
variable {G : Sig} {lk n : Nat}
theorem s_asgDc (g : GoodS G X) {i : Nat} {v : Str} {pv : Pos} {vs : List Nat} {tgt tg' : Tg} {it : It} {cd : Tes} {ek e2 : E} {y y2 t x : Expr} {ifs : List Expr} {scope : Scope} {own : List (Str × Nat)} {pc p : Pos} (hN : X.N[i]? = some v) (hl : X.env.scope.names.lookup v = some .local)
    (hw : swapsWith (.DictComp y y2 [⟨t, x, ifs, 0⟩] scope pc) (some (.Name v pv)) p.line X.env = pure true) (ho : own.map (·.2) = vs) (hi : PI X t x (tI G X.K it)) (ok : BlkOk X.N X.env.scope scope own)
    (hg : ∀ (s : Shared) (H : Hp) (C : Addr) (cl : List (Str × Addr)) (fp : List Addr), PG (X.blk s H scope (compEnvC scope cl C X.env) fp) t (tG X.K tgt))
    (ht : ∀ (s : Shared) (H : Hp) (C : Addr) (cl : List (Str × Addr)) (fp : List Addr), PTs (X.blk s H scope (compEnvC scope cl C X.env) fp) ifs (Ev.tC G X.K cd))
    (he : ∀ (s : Shared) (H : Hp) (C : Addr) (cl : List (Str × Addr)) (fp : List Addr), PE (X.blk s H scope (compEnvC scope cl C X.env) fp) y (tE G X.K ek))
    (he2 : ∀ (s : Shared) (H : Hp) (C : Addr) (cl : List (Str × Addr)) (fp : List Addr), PE (X.blk s H scope (compEnvC scope cl C X.env) fp) y2 (tE G X.K e2))
    (hs : ∀ v, foldedSetIterable x X.env v = pure v) (hv : (tgs tgt).all (fun i => vs.contains i) = true) : PS X (.Assign [.Name v pv] (.DictComp y y2 [⟨t, x, ifs, 0⟩] scope pc) p) (tS G X.K lk n (.asg i (.dcomp vs tgt it cd ek e2))) := by
  refine PS.imp (ps_setDc (own := own) g.calm g.nd hN hl hw hi ok hg ht he he2 hs) fun D σ H h => ?_
  obtain ⟨B, W, ρ, τ, o, nl, w, e, f⟩ := h
  simp only [exec, Option.bind_eq_bind, Option.bind_eq_some_iff, Prod.exists] at e
  obtain ⟨r, ρ1, e1, ρ2, e2', e3⟩ := e
  cases e3
  rw [ho]
  refine k_dcomp g.toGood ho hi ok hg ht he he2 hs hv σ H _ ⟨B, W, ρ, τ, r, ρ1, w, e1, fun v1 H1 W1 s1 w1 => ?_⟩
  obtain ⟨hlk, W2, s2, w2⟩ := store_fin nl w1 e2'
  exact f _ _ _ (Held.set hlk) (s1.trans s2) w2
end Ev
set_option Elab.async false
set_option linter.all false
set_option maxRecDepth 100000
set_option maxHeartbeats 4000000
/-! Ev, part 19: every statement. -/
namespace Ev
open PySem PySem.Spec PyProof.Rows L2
theorem comp_ok {G : Sig} {X : Cx} (g : Good G X) {e : E} {y t i : Expr} {ifs : List Expr} {s : Scope} {p : Pos} (h : chk G.csts G.blts X.N X.env.scope e (.ListComp y [⟨t, i, ifs, 0⟩] s p) = true) :
    ∃ vs tg it cd elt, e = .comp vs tg it cd elt ∧ CompOk G X vs tg it cd elt t i ifs s y (ownOf X.N vs) := by
  cases e with
  | comp vs tg it cd elt =>
    unfold chk at h
    simp only [Bool.and_eq_true] at h
    obtain ⟨⟨⟨⟨⟨⟨h1, h2⟩, h3⟩, h4⟩, h5⟩, h6⟩, h7⟩ := h
    exact ⟨vs, tg, it, cd, elt, rfl, ⟨own_snd _ _, pi_ok it g h1, blkOk_by h5, fun s' H C cl fp => g_ok (X := X.blk s' H s (compEnvC s cl C X.env) fp) (fnb := false) g.calm g.nd (fun z => by cases z) tg t h2, fun s' H C cl fp => pts_ok cd (g.blk s' H s _ fp) h3, fun s' H C cl fp => pe_ok elt (g.blk s' H s _ fp) h4, no_set h1, h7⟩⟩
  | _ => simp [chk] at h
theorem lc_shape {G : Sig} {N : List Str} {sc : Scope} {e : E} {y : Expr} (h : chk G.csts G.blts N sc e y = true) (hl : isLc y = true) (hnd : ∀ a b c d e, y ≠ .DictComp a b c d e) : ∃ z t i ifs s p, y = .ListComp z [⟨t, i, ifs, 0⟩] s p := by
  cases y with
  | ListComp z gs s p =>
    cases e with
    | comp vs tg it cd elt =>
      unfold chk at h
      split at h
      · rename_i heq
        cases heq
        exact ⟨_, _, _, _, _, _, rfl⟩
      · cases h
    | _ => simp [chk] at h
  | SetComp => cases e <;> simp [chk] at h
  | DictComp a b c d e => exact absurd rfl (hnd a b c d e)
  | _ => cases hl
variable {G : Sig} {lk n : Nat}
mutual
theorem ps_ok : ∀ (s : S) {X : Cx} {x : Stmt}, GoodS G X → chkS G.csts G.blts X.N X.env.scope s x = true → PS X x (tS G X.K lk n s)
  | .asg i e, X, x, g, h => by
    unfold chkS at h
    split at h
    · rename_i v pv y p
      simp only [Bool.and_eq_true, decide_eq_true_eq, Bool.or_eq_true, Bool.not_eq_true'] at h
      obtain ⟨⟨⟨h1, h2⟩, h3⟩, h4⟩ := h
      cases hl : isLc y with
      | false => exact s_asg g h1 h2 (pe_ok e g.toGood h3) (no_swap hl)
      | true =>
        rcases h4 with (h4 | h4) | h4
        · rw [hl] at h4; cases h4
        · exact s_asg g h1 h2 (pe_ok e g.toGood h3) (cell_swap h4 y)
        by_cases dc : ∃ a b c d e, y = .DictComp a b c d e
        · obtain ⟨z, z2, gs, sc0, p', rfl⟩ := dc
          cases e with
          | dcomp vs tg it cd ek e2 =>
            have h3' := h3
            unfold chk at h3
            split at h3
            · rename_i y0 y2 t i' ifs s0 p0 heq
              cases heq
              simp only [Bool.and_eq_true] at h3
              obtain ⟨⟨⟨⟨⟨⟨⟨k1, k2⟩, k3⟩, k4⟩, k5⟩, k6⟩, k7⟩, k8⟩ := h3
              unfold swp at h4
              simp only [Bool.and_eq_true, decide_eq_true_eq, Bool.not_eq_true'] at h4
              exact s_asgDc (tg' := tg) g h1 h4.1.1 (sw_trueD g.kind h4.1.1 h4.1.2 h4.2) (own_snd _ _) (pi_ok it g.toGood k1) (blkOk_by k5)
                (fun s' H C cl fp => g_ok (X := X.blk s' H sc0 (compEnvC sc0 cl C X.env) fp) (fnb := false) g.calm g.nd (fun z => by cases z) tg t k2)
                (fun s' H C cl fp => pts_ok cd (g.toGood.blk s' H sc0 (compEnvC sc0 cl C X.env) fp) k3)
                (fun s' H C cl fp => pe_ok ek (g.toGood.blk s' H sc0 (compEnvC sc0 cl C X.env) fp) k4)
                (fun s' H C cl fp => pe_ok e2 (g.toGood.blk s' H sc0 (compEnvC sc0 cl C X.env) fp) k8) (no_set k1) k7
            · cases h3
          | _ => simp [chk] at h3
        obtain ⟨z, t, i', ifs, s', p', rfl⟩ := lc_shape h3 hl (fun a b c d e z => dc ⟨a, b, c, d, e, z⟩)
        obtain ⟨vs, tg, it, cd, elt, rfl, c⟩ := comp_ok g.toGood h3
        unfold swp at h4
        simp only [Bool.and_eq_true, decide_eq_true_eq, Bool.not_eq_true'] at h4
        exact s_asgLc g h1 h4.1.1 c (sw_true g.kind h4.1.1 h4.1.2 h4.2)
    · cases h
  | .asgT t e, X, x, g, h => by
    unfold chkS at h
    split at h
    · simp only [Bool.and_eq_true, Bool.not_eq_true'] at h
      obtain ⟨⟨⟨h1, h2⟩, h3⟩, h4⟩ := h
      exact s_asgT g h1 (pe_ok e g.toGood h2) h3 h4
    · cases h
  | .par i j a b, X, x, g, h => by
    unfold chkS at h
    split at h
    · simp only [Bool.and_eq_true, decide_eq_true_eq, Bool.not_eq_true'] at h
      obtain ⟨⟨⟨⟨⟨⟨⟨⟨⟨⟨⟨⟨h1, h2⟩, h3⟩, h4⟩, h5⟩, h6⟩, h7⟩, h8⟩, h9⟩, h10⟩, h11⟩, h12⟩, h13⟩ := h
      exact s_par g h1 h2 h3 h4 h5 (pe_ok a g.toGood h6) (pe_ok b g.toGood h7) h8 h9 h10 h11 h12 h13
    · cases h
  | .parT i j a b, X, x, g, h => by
    unfold chkS at h
    split at h
    · simp only [Bool.and_eq_true, decide_eq_true_eq] at h
      obtain ⟨⟨⟨⟨⟨⟨⟨⟨⟨h1, h2⟩, h3⟩, h4⟩, h5⟩, h6⟩, h7⟩, h8⟩, h9⟩, h10⟩ := h
      exact s_parT g h1 h2 h3 h4 h5 h6 (pe_ok a g.toGood h7) (pe_ok b g.toGood h8) h9 h10
    · cases h
  | .setix i a e, X, x, g, h => by
    unfold chkS at h
    split at h
    · simp only [Bool.and_eq_true, decide_eq_true_eq, Bool.not_eq_true'] at h
      obtain ⟨⟨⟨⟨⟨⟨h1, h2⟩, h3⟩, h4⟩, h5⟩, h6⟩, h7⟩ := h
      exact s_setix g h1 h2 h3 (pe_ok a g.toGood h4) (pe_ok e g.toGood h5) h6 h7 g.un
    · cases h
  | .aug i o e, X, x, g, h => by
    unfold chkS at h
    split at h
    · simp only [Bool.and_eq_true, decide_eq_true_eq] at h
      obtain ⟨⟨⟨h1, h2⟩, h3⟩, h4⟩ := h
      subst h1
      exact s_aug g h2 h3 (pe_ok e g.toGood h4)
    · cases h
  | .expr e, X, x, g, h => by
    unfold chkS at h
    split at h
    · simp only [Bool.and_eq_true, Bool.not_eq_true'] at h
      exact s_expr (pe_ok e g.toGood h.1) h.2
    · cases h
  | .ret e, X, x, g, h => by
    unfold chkS at h
    split at h
    · exact s_ret (pe_ok e g.toGood h)
    · cases h
  | .retN, X, x, g, h => by
    unfold chkS at h
    split at h
    · exact s_retN
    · cases h
  | .ifs c a b, X, x, g, h => by
    unfold chkS at h
    split at h
    · simp only [Bool.and_eq_true] at h
      exact s_ifs (pt_ok c g.toGood h.1.1) (pss_ok a g h.1.2) (pss_ok b g h.2)
    · cases h
  | .for_ t it body, X, x, g, h => by
    unfold chkS at h
    split at h
    · simp only [Bool.and_eq_true] at h
      exact s_for g (pi_ok it g.toGood h.1.2) (g_ok (fnb := true) g.calm g.nd (fun _ => g.fnT) t _ h.1.1) (pss_ok body g h.2) (no_set h.1.2)
    · cases h
  | .while_ c body, X, x, g, h => by
    unfold chkS at h
    split at h
    · simp only [Bool.and_eq_true] at h
      exact s_while g (pt_ok c g.toGood h.1) (pss_ok body g h.2)
    · cases h
  | .brk, X, x, g, h => by
    unfold chkS at h
    split at h
    · exact s_brk
    · cases h
  | .cont, X, x, g, h => by
    unfold chkS at h
    split at h
    · exact s_cont
    · cases h
  | .pass, X, x, g, h => by
    unfold chkS at h
    split at h
    · exact s_pass
    · cases h
  | .stuck, X, x, g, h => ⟨fun pins s σ H D I q => by
    obtain ⟨B, W, ρ, τ, o, nl, w, e, f⟩ := q
    simp only [exec] at e
    cases e⟩
theorem pss_ok : ∀ (ss : Ss) {X : Cx} {xs : List Stmt}, GoodS G X → chkSs G.csts G.blts X.N X.env.scope ss xs = true → PSs X xs (tSs G X.K lk n ss)
  | .nil, X, [], g, h => s_nil
  | .nil, X, _ :: _, g, h => by simp [chkSs] at h
  | .cons s ss, X, [], g, h => by simp [chkSs] at h
  | .cons s ss, X, x :: xs, g, h => by
    simp only [chkSs, Bool.and_eq_true] at h
    exact s_cons (ps_ok s g h.1) (pss_ok ss g h.2)
end
end Ev
set_option Elab.async false
set_option linter.all false
set_option maxRecDepth 100000
set_option maxHeartbeats 4000000
/-! Ev, part 20: a def keeps its run. -/
namespace Ev
open PySem PySem.Spec PyProof.Rows L2
variable {K : PySem.W.Frag} {H H' H1 H2 : Hp} {O O' B W W' W1 : AS} {σ : L2.St} {ρ ρ' : Rho}

theorem look_rep {l : Rho} {k i : Nat} {p : Bool × D} (h : look (l ++ List.replicate k none) i = some p) : l[i]? = some (some p) := by
  unfold look at h
  by_cases c : i < l.length
  · rw [List.getElem?_append_left c] at h
    split at h
    · rename_i q e
      cases h
      exact e
    · cases h
  · rw [List.getElem?_append_right (by omega), List.getElem?_replicate] at h
    split at h
    · rename_i q e
      split at e <;> cases e
    · cases h
theorem look_entry {N : Nat} {m : Bool} {ds : List D} {i : Nat} {o : Bool} {d : D} (h : look (entry N m ds) i = some (o, d)) : ds[i]? = some d ∧ o = (m && i == 0) := by
  cases ds with
  | nil => have := look_rep (l := []) h; cases this
  | cons x r =>
    have h := look_rep (l := some (m, x) :: r.map (fun d => some (false, d))) h
    cases i with
    | zero =>
      simp only [List.getElem?_cons_zero] at h
      cases h
      exact ⟨rfl, by simp⟩
    | succ j =>
      simp only [List.getElem?_cons_succ, List.getElem?_map] at h
      cases q : r[j]? with
      | none => rw [q] at h; cases h
      | some y =>
        rw [q] at h
        cases h
        exact ⟨by simpa using q, by simp⟩
theorem Rps.getD : ∀ {vs : List V} {ds : List D} {i : Nat} {d : D}, Rps K H O vs ds → ds[i]? = some d → ∃ v, vs[i]? = some v ∧ Rp K H O v d
  | [], _, i, d, h, e => by cases h; cases i <;> cases e
  | v :: vs, _, 0, d, h, e => by
    cases h with
    | cons a b => cases e; exact ⟨_, rfl, a⟩
  | v :: vs, _, i + 1, d, h, e => by
    cases h with
    | cons a b => exact Rps.getD (i := i) b e
theorem start_at {N : List Str} {vs : List V} {i : Nat} {v : V} (h : vs[i]? = some v) : (L2.start N vs)[i]? = some (some v) := by
  have hi : i < vs.length := by
    by_cases c : i < vs.length
    · exact c
    · rw [List.getElem?_eq_none (by omega)] at h; cases h
  unfold L2.start
  rw [List.getElem?_append_left (by simpa using hi), List.getElem?_map, h]
  rfl
theorem entry_len {N : List Str} {m : Bool} {ds : List D} {vs : List V} (h : vs.length = ds.length) : (entry N.length m ds).length = (L2.start N vs).length := by
  unfold entry L2.start
  cases ds with
  | nil => simp [h]
  | cons d r => simp [h]; omega
theorem wd_plain {N : List Str} {vs : List V} {ds : List D} (hB : ∀ a, B a → ∃ o, H a = some o) (r : Rps K H B vs ds) : Wd K H B (fun _ => False) (L2.start N vs) (entry N.length false ds) [] := by
  have own : ∀ {i o d}, look (entry N.length false ds) i = some (o, d) → o = false := fun h => by simpa using (look_entry h).2
  refine ⟨entry_len r.len, fun a z => z.elim, hB, fun i o d h => ?_, fun x hx => absurd hx (by simp), fun i j di dj v _ h1 => (by cases own h1), fun i d v h1 => (by cases own h1), .nil, fun a z => z.elim⟩
  obtain ⟨v, h1, h2⟩ := r.getD (look_entry h).1
  cases own h
  exact ⟨v, start_at h1, Rp.mv (Mv.less fun a z => z.elim id False.elim) _ _ h2⟩
theorem wd_own {N : List Str} {s : Addr} {xs vr : List V} {dl dr : List D} (hs : H s = some (.lst xs)) (nb : ¬ B s) (hB : ∀ a, B a → ∃ o, H a = some o) (rl : Rps K H (fun a => B a ∨ a = s) xs dl) (r : Rps K H (fun a => B a ∨ a = s) vr dr) :
    Wd K H B (fun a => a = s) (L2.start N (.ref s :: vr)) (entry N.length true (.list dl :: dr)) [] := by
  have own : ∀ {i d}, look (entry N.length true (.list dl :: dr)) i = some (true, d) → i = 0 := fun h => by simpa using (look_entry h).2
  refine ⟨entry_len (by simp [r.len]), fun a z => by rw [z]; exact nb, hB, fun i o d h => ?_, fun x hx => absurd hx (by simp), fun i j di dj v ne h1 h2 => absurd ((own h1).trans (own h2).symm) ne, fun i d v _ _ x hx => absurd hx (by simp), .nil, fun a z => by rw [z]; exact ⟨_, hs⟩⟩
  obtain ⟨h1, h2⟩ := look_entry h
  cases i with
  | zero =>
    cases h1
    have : o = true := by simpa using h2
    subst this
    exact ⟨.ref s, start_at rfl, s, rfl, rfl, xs, hs, rl⟩
  | succ j =>
    have : o = false := by simpa using h2
    subst this
    obtain ⟨v, q1, q2⟩ := r.getD (i := j) (by simpa using h1)
    exact ⟨v, start_at (by simpa using q1), q2⟩
def resR (ρ : Rho) : R → Option (Bool × D)
  | .val o d => some (o, d)
  | .loc i => look ρ i
theorem Wd.res {v : V} {r : R} {o : Bool} {d : D} {τ : List Itm} (w : Wd K H B W σ ρ ((v, r) :: τ)) (h : resR ρ r = some (o, d)) : ItV K H B W v o d := by
  have q := w.tmp _ hd_mem
  cases r with
  | val o' d' => cases h; exact q
  | loc i =>
    obtain ⟨v', h1, h2⟩ := w.slot i o d h
    have q : σ[i]? = some (some v) := q
    rw [q] at h1
    cases h1
    exact h2
theorem ItV.res {v : V} {o : Bool} {d : D} (h : ItV K H' B W' v o d) (hO : ∀ a, O a → AV B W' a) (hf : o = true → ∀ p, v = .ref p → W' p → H p = none) : Res K H H' O v o d := by
  cases o with
  | false => exact Rp.mv (Mv.less hO) _ _ h
  | true =>
    obtain ⟨p, rfl, w, c⟩ := h
    exact ⟨p, rfl, hf rfl p rfl w, c.mv (Mv.less fun a z => z.elim (hO a) fun e => by rw [e]; exact .inr w) fun _ q => q⟩
theorem finR_inv {m : Bool} {ρ : Rho} {r : R} {out : (Bool × D) × D} (h : finR m ρ r = some out) : resR ρ r = some out.1 ∧ (m = true → look ρ 0 = some (true, out.2) ∧ r ≠ .loc 0) := by
  have fin : ∀ {p}, finish m ρ p = some out → p = out.1 ∧ (m = true → look ρ 0 = some (true, out.2)) := fun {p} q => by
    unfold finish at q
    split at q
    · split at q
      · rename_i hm s hs
        cases q
        exact ⟨rfl, fun _ => hs⟩
      · cases q
    · rename_i hm
      cases q
      exact ⟨rfl, fun z => absurd z hm⟩
  cases r with
  | val o d =>
    simp only [finR] at h
    obtain ⟨h1, h2⟩ := fin h
    exact ⟨by rw [← h1]; rfl, fun z => ⟨h2 z, fun e => by cases e⟩⟩
  | loc i =>
    simp only [finR] at h
    split at h
    · cases h
    · rename_i hm
      split at h
      · rename_i p hp
        obtain ⟨h1, h2⟩ := fin h
        refine ⟨by rw [← h1]; exact hp, fun z => ⟨h2 z, fun e => ?_⟩⟩
        cases e
        rw [z] at hm
        simp at hm
      · cases h
theorem fin_inv {m : Bool} {ρ : Rho} {p : Bool × D} {out : (Bool × D) × D} (h : finish m ρ p = some out) : p = out.1 ∧ (m = true → look ρ 0 = some (true, out.2)) := by
  unfold finish at h
  split at h
  · split at h
    · rename_i hm s hs
      cases h
      exact ⟨rfl, fun _ => hs⟩
    · cases h
  · rename_i hm
    cases h
    exact ⟨rfl, fun z => absurd z hm⟩
theorem run_inv {G : Sig} {n N : Nat} {m : Bool} {sb : Ss} {ds : List D} {out : (Bool × D) × D} (h : run G n N m sb ds = some out) :
    ∃ o, execs G (if m then 1 else 0) n sb (entry N m ds) = some o ∧ ((∃ r ρ, o = .rt r ρ ∧ finR m ρ r = some out) ∨ ∃ ρ, o = .nx ρ ∧ finish m ρ (false, PyData.none) = some out) := by
  unfold run at h
  split at h
  · rename_i r ρ e
    exact ⟨_, e, .inl ⟨r, ρ, rfl, h⟩⟩
  · rename_i ρ e
    exact ⟨_, e, .inr ⟨ρ, rfl, h⟩⟩
  · cases h
theorem body_plain {G : Sig} {n : Nat} {N : List Str} {sb : Ss} {Q : VK} {vs : List V} (hsp : spA K (run G n N.length false sb) vs H Q E0) : tSs G K 0 n sb { nx := fun _ H' => Q .non H', rt := Q } (L2.start N vs) H := by
  obtain ⟨B, ds, out, hB, r, e, q⟩ := hsp
  obtain ⟨o, e1, h⟩ := run_inv e
  have same : ∀ {H' W'}, Stp H (fun _ => False) H' W' → Same H H' := fun st a o h => st.keep a o h fun z => z
  refine ⟨B, _, _, [], o, fun x hx => absurd hx (by simp), wd_plain hB r, e1, ?_⟩
  rcases h with ⟨r, ρ, rfl, e2⟩ | ⟨ρ, rfl, e2⟩
  · obtain ⟨h1, _⟩ := finR_inv e2
    intro v σ' H' W' hh st w
    exact q v H' (same st) ((w.res h1).res (fun a z => .inl z) fun _ p _ hp => (st.new p hp).elim False.elim id)
  · obtain ⟨h1, _⟩ := fin_inv e2
    intro σ' H' W' hh st w
    refine q .non H' (same st) ?_
    rw [← h1]
    exact .non
theorem body_own {G : Sig} {n : Nat} {N : List Str} {sb : Ss} {Q : VK} {vs : List V} (hsp : spM K (run G n N.length true sb) vs H Q E0) : tSs G K 1 n sb { nx := fun _ H' => Q .non H', rt := Q } (L2.start N vs) H := by
  obtain ⟨B, s, xs, vr, ds, dr, ds', out, rfl, hs, nb, hB, rl, r, e, q⟩ := hsp
  obtain ⟨o, e1, h⟩ := run_inv e
  refine ⟨B, _, _, [], o, fun x hx => absurd hx (by simp), wd_own hs nb hB rl r, e1, ?_⟩
  have st0 : ∀ {σ'}, Held 1 (L2.start N (.ref s :: vr)) σ' → σ'[0]? = some (some (.ref s)) := fun hh => (hh.lock 0 (by omega)).trans (start_at rfl)
  have go : ∀ {σ' H' W' ρ τ v}, Held 1 (L2.start N (.ref s :: vr)) σ' → Stp H (fun a => a = s) H' W' → Wd K H' B W' σ' ρ τ → look ρ 0 = some (true, .list ds') → (∀ a, B a ∨ a = s → AV B W' a) → ItV K H' B W' v out.1 out.2 → (out.1 = true → v ≠ .ref s) → Q v H' := fun {σ' H' W' ρ τ v} hh st w h0 sub it ne => by
    obtain ⟨v0, q1, p, rfl, hp, ys, hy, ry⟩ := w.slot 0 true _ h0
    rw [st0 hh] at q1
    cases q1
    exact q v H' ys (fun b o nb hb => st.keep b o hb nb) hy (Rps.mv (Mv.less sub) _ _ ry) (it.res sub fun ho p hv hp => (st.new p hp).elim (fun e => absurd (by rw [hv, e]) (ne ho)) id)
  have subOf : ∀ {σ' H' W' ρ τ}, Held 1 (L2.start N (.ref s :: vr)) σ' → Wd K H' B W' σ' ρ τ → look ρ 0 = some (true, .list ds') → ∀ a, B a ∨ a = s → AV B W' a := fun {σ' H' W' ρ τ} hh w h0 a z => by
    obtain ⟨v0, q1, p, rfl, hp, ys, hy, ry⟩ := w.slot 0 true _ h0
    rw [st0 hh] at q1
    cases q1
    exact z.elim .inl fun e => by rw [e]; exact .inr hp
  rcases h with ⟨r, ρ, rfl, e2⟩ | ⟨ρ, rfl, e2⟩
  · obtain ⟨h1, hx⟩ := finR_inv e2
    obtain ⟨h2, h3⟩ := hx rfl
    clear hx
    intro v σ' H' W' hh st w
    refine go hh st w h2 (subOf hh w h2) (w.res h1) fun ho => ?_
    cases r with
    | val o' d' =>
      cases h1
      have ho : o' = true := ho
      subst ho
      exact w.apT 0 _ _ h2 (st0 hh) _ hd_mem d' rfl
    | loc i =>
      have hi : 0 ≠ i := fun e => h3 (by rw [e])
      have h1 : look ρ i = some out := h1
      have hz : σ'[i]? = some (some v) := w.tmp _ hd_mem
      intro ev
      obtain ⟨o2, d2⟩ := out
      have ho : o2 = true := ho
      subst ho
      exact w.ap 0 i _ _ (.ref s) hi h2 h1 (st0 hh) (by rw [hz, ev])
  · obtain ⟨h1, hx⟩ := fin_inv e2
    have h2 := hx rfl
    clear hx
    have h1 : (false, PyData.none) = out := h1
    subst h1
    intro σ' H' W' hh st w
    exact go hh st w h2 (subOf hh w h2) .non fun ho => by cases ho
end Ev
set_option Elab.async false
set_option linter.all false
set_option maxRecDepth 100000
set_option maxHeartbeats 4000000
/-! Ev, part 21: defs of the text, the law's own call. -/
namespace Ev
open PySem PySem.Spec PyProof.Rows L2

/-- the same fragment, perhaps without a list -/
def Cuts (K K' : PySem.W.Frag) : Prop := ∀ b o, K.lookup b = some o → (∀ xs n, o.data ≠ .seq xs n) → K'.lookup b = some o
theorem Cuts.refl {K : PySem.W.Frag} : Cuts K K := fun _ _ h _ => h
def less (K : PySem.W.Frag) (a : Addr) : PySem.W.Frag := K.filter fun p => p.1 != a
theorem less_ne {a b : Addr} (h : b ≠ a) : ∀ K : PySem.W.Frag, (less K a).lookup b = K.lookup b
  | [] => rfl
  | (c, o) :: r => by
    unfold less
    rw [List.filter_cons]
    have ih : (r.filter fun p => p.1 != a).lookup b = r.lookup b := less_ne h r
    by_cases e : c = a
    · subst e
      have : (b == c) = false := by simpa using h
      simp [List.lookup, ih, this]
    · have : (c != a) = true := by simpa using e
      simp [List.lookup, ih, e]
theorem less_at (a : Addr) : ∀ K : PySem.W.Frag, (less K a).lookup a = none
  | [] => rfl
  | (c, o) :: r => by
    unfold less
    rw [List.filter_cons]
    have ih : (r.filter fun p => p.1 != a).lookup a = none := less_at a r
    by_cases e : c = a
    · subst e
      simp [ih]
    · have : (a == c) = false := by
        simp
        exact fun z => e z.symm
      simp [List.lookup, ih, e, this]
theorem Cuts.less {K : PySem.W.Frag} {a : Addr} {o : Obj} {xs : Array Value} {n : Nat} (h : K.lookup a = some o) (d : o.data = .seq xs n) : Cuts K (less K a) := fun b u e nd => by
  by_cases q : b = a
  · subst q
    rw [h] at e
    cases e
    exact absurd d (nd _ _)
  · rw [less_ne q]
    exact e
theorem less_in {K : PySem.W.Frag} {a : Addr} {h : Heap} (k : K.In h) : (less K a).In h := fun b o e => by
  by_cases q : b = a
  · subst q
    rw [less_at] at e
    cases e
  · rw [less_ne q] at e
    exact k b o e
theorem Fun.cut {K K' : PySem.W.Frag} {x qual : Str} {st : Stmt} {f : Addr} {fd : FuncData} (F : Fun K x qual st f fd) (c : Cuts K K') : Fun K' x qual st f fd := by
  obtain ⟨oc, od, kV, doc, pm, an, cdv, ct, osl, e, l, hc⟩ := F.ex
  have l' := c f _ l fun xs n z => by cases z
  refine ⟨⟨oc, od, kV, doc, pm, an, cdv, ct, osl, e, l', ?_⟩, ?_⟩
  · unfold PySem.W.codeIn at hc ⊢
    split at hc
    · rename_i c0
      split at hc
      · rename_i u1 u2 vs u3 hl
        rw [c c0 _ hl fun xs n z => by cases z]
        exact hc
      · cases hc
    · cases hc
  · unfold PySem.W.keepIn
    simp only [l']
structure Dcl (P : Program) (w : World) (K : PySem.W.Frag) (mg : Str → Option Value) (base : Heap) (k : Nat) (x : Str) (F : Fn) : Prop where
  ex : ∃ (f : Addr) (fd : FuncData) (ps : List Str), FnG P w K mg base k f fd ps F ∧ mg x = some (.ref f) ∧ PySem.W.keepIn K (.ref f) = true ∧ Binds K fd ps [] ∧ ∀ ds r, F.fn ds = some r → ds.length = ps.length
structure GoodG (P : Program) (w : World) (K : PySem.W.Frag) (mg : Str → Option Value) (base : Heap) (k : Nat) (G : Sig) : Prop where
  fns : ∀ x F, G.fns x = some F → Dcl P w K mg base k x F
  csts : ∀ p ∈ G.csts, ∃ t, mg p.1 = some (.int p.2 t)
  blts : ∀ x ∈ G.blts, mg x = none
section
variable {P : Program} {w : World} {K : PySem.W.Frag} {mg : Str → Option Value} {base : Heap}
theorem FnG.mono {j k : Nat} {f : Addr} {fd : FuncData} {ps : List Str} {F : Fn} (h : FnG P w K mg base j f fd ps F) (l : j ≤ k) : FnG P w K mg base k f fd ps F :=
  ⟨fun A outer s H args us vs Q hr => h.run A outer s H args us vs Q (hr.mono l)⟩
theorem Dcl.mono {j k : Nat} {x : Str} {F : Fn} (h : Dcl P w K mg base j x F) (l : j ≤ k) : Dcl P w K mg base k x F := by
  obtain ⟨f, fd, ps, g, r⟩ := h.ex
  exact ⟨f, fd, ps, g.mono l, r⟩
/-- what its run gives -/
def runF (G : Sig) (n : Nat) (N ps : List Str) (m : Bool) (sb : Ss) : Fn := ⟨m, fun ds => if ds.length = ps.length then run G n N.length m sb ds else none⟩
theorem run_of_runF {G : Sig} {n : Nat} {N ps : List Str} {m : Bool} {sb : Ss} {ds : List D} {r} (h : (runF G n N ps m sb).fn ds = some r) : run G n N.length m sb ds = some r := by
  unfold runF at h
  simp only at h
  split at h
  · exact h
  · cases h
theorem fnG_of {k n : Nat} {G : Sig} {x qual : Str} {st : Stmt} {f : Addr} {fd : FuncData} {N ps : List Str} {m : Bool} {sb : Ss} (F : Fun K x qual st f fd) (S : FnScope N ps (defScope st)) (hG : GoodG P w K mg base k G)
    (hc : chkSs G.csts G.blts N (defScope st) sb (defBody st) = true) : FnG P w K mg base (k + 1) f fd ps (runF G n N ps m sb) := by
  obtain ⟨oc, od, kV, doc, pm, an, cdv, ct, osl, rfl, lk, hcd⟩ := F.ex
  refine ⟨fun A outer s H args us vs Q hr hg e0 hb r hl hsp => ?_⟩
  have KI : K.In s.heap := e0.mod.kin.keeps fun b o z => (e0.bs b o z).1
  have NL : s.heap.NoLimit := e0.mod.nolimit.keeps fun b o z => (e0.bs b o z).1
  have hk : ∀ y ∈ ps.zip us, (defScope st).names.lookup y.1 = some .local ∨
      ((defScope st).names.lookup y.1 = some .cell ∧ ((cellsFrom (s.heap.objs.size + 1) (defScope st).names []).lookup y.1).isSome = true) := fun y hy => by
    obtain ⟨nm, v⟩ := y
    refine (S.par nm (List.of_mem_zip hy).1).imp id fun q => ⟨q, ?_⟩
    exact PySem.W.cellsFrom_some _ _ _ (.inl q)
  have call := @codeAny_call_function
  refine codeAny_call_function hr.depth (KI _ _ lk) rfl S.co S.gen rfl
    (PySem.W.codeRec_of KI hcd) (hb _ _ _ _ ?_)
  refine wpAny_newFunctionEnv_cells S.kind hk fun env he s1 x1 => ?_
  subst he
  refine ⟨NL.keeps x1.toInCall.keep, codeAny_func ?_⟩
  have room := hr.deeper (envOfC qual (defScope st) s.heap.objs.size f cdv)
  have I : Inv (cxOf CX0 P w K mg base N qual (defScope st) f cdv A outer s H E0) [] (L2.start N vs) H s1 :=
    inv_start S hr.hd e0 hl r x1
  have good : GoodS G (cxOf CX0 P w K mg base N qual (defScope st) f cdv A outer s H E0).nox :=
    ⟨⟨rfl, S.nd, (by have h1 := room.un; show (A.deeper (envOfC qual (defScope st) s.heap.objs.size f cdv)).units + 200 < _; omega), hg, PassesOwn.never, fun y F' hy => by
      obtain ⟨f', fd', ps', g1, g2, g3, g4, g5⟩ := (hG.fns y F' hy).ex
      exact ⟨⟨f', fd', ps', k, g1, g2, g3, g4, room, g5⟩⟩, hG.csts, hG.blts⟩, fun _ => rfl, S.kind⟩
  have body : PSs (cxOf CX0 P w K mg base N qual (defScope st) f cdv A outer s H E0) (defBody st) (tSs G K (if m then 1 else 0) n sb) := PSs.nox (pss_ok sb good hc)
  have start : tSs G K (if m then 1 else 0) n sb { nx := fun _ H' => Q .non H', rt := Q } (L2.start N vs) H := by
    cases m with
    | false =>
      obtain ⟨B, ds, out, h1, h2, h3, h4⟩ := hsp
      exact body_plain ⟨B, ds, out, h1, h2, run_of_runF h3, h4⟩
    | true =>
      obtain ⟨B, s', xs, vr, ds, dr, ds', out, h1, h2, h3, h4, h5, h6, h7, h8⟩ := hsp
      exact body_own ⟨B, s', xs, vr, ds, dr, ds', out, h1, h2, h3, h4, h5, h6, run_of_runF h7, h8⟩
  refine wpAny_mono (body.run [] s1 (L2.start N vs) H _ I start) (fun fl s' hs => ?_) fun e s' hs => hs
  have fin : ∀ {σ' : L2.St} {H' : Hp} {v : V} {u : Value}, Inv (cxOf CX0 P w K mg base N qual (defScope st) f cdv A outer s H E0) [] σ' H' s' → RelV v u → Q v H' →
      CE outer P w H s Q u s' := fun {σ' H' v u} J rv q => ⟨v, H', J.os, J.bare, J.base, J.hok, rv, q⟩
  cases fl with
  | ret u =>
    obtain ⟨v, σ', H', J, rv, q⟩ := hs
    exact fin J rv q
  | next =>
    obtain ⟨σ', H', J, q⟩ := hs
    exact fin (v := .non) (u := .none) J rfl q
  | brk =>
    obtain ⟨_, _, _, z⟩ := hs
    exact z.elim
  | cont =>
    obtain ⟨_, _, _, z⟩ := hs
    exact z.elim
end
end Ev
set_option Elab.async false
set_option linter.all false
set_option maxRecDepth 100000
set_option maxHeartbeats 4000000
/-! Ev, part 22: the law's own call. -/
namespace Ev
open PySem PySem.Spec PyProof.Rows L2
theorem law_callG {P : Program} {w : World} {K : PySem.W.Frag} {mg mb : Str → Option Value} {k : Nat} {fa a : Addr} {fd : FuncData} {x : Str} {Fl : Fn} {s1 : Shared} {vs : List Value} {ns : List Int}
    (kin : K.In s1.heap) (glob : s1.heap.Ns mainGlobals mg) (bns : s1.heap.Ns builtinsNs mb) (boot : ∀ y : Str, y ≠ "__name__" → mb y = bootBuiltins y)
    (nolim : s1.heap.NoLimit) (gens : s1.gens = #[]) (obj : s1.heap.get? a = some { cls := .type "list", data := .seq vs.toArray })
    (hin : IntsAre vs ns) (few : ns.length ≤ sizeLine) (room : Room k callerA)
    (F : ∀ (K' : PySem.W.Frag) (base : Heap), Cuts K K' → K'.In base → base.Ns mainGlobals mg → FnG P w K' mg base k fa fd [x] Fl)
    (bind : ∀ (s : Shared) (u : Value), BindsTo s fd ⟨[u], []⟩ [(x, u)]) (chg : Fl.chg = false)
    (yes : ∃ e, Fl.fn [.list (ns.map PyData.int)] = some ((false, .bool true), e)) :
    codeAny (model P w) callerA (.call (.ref fa) ⟨[.ref a], []⟩)
      (fun r s' => r = .ok (.ret (.bool true)) ∧ OldK s1.heap s'.heap ∧ s'.os = s1.os ∧ AllBare s'.gens) s1 := by
  -- the fragment without the script, the script as the one thing that is known
  have cut : Cuts K (less K a) := fun b o e nd => by
    by_cases q : b = a
    · subst q
      have e2 := kin b o e
      rw [obj] at e2
      cases e2
      exact absurd rfl (nd _ _)
    · rw [less_ne q]
      exact e
  let box : Obj := { cls := .type "list", data := .seq vs.toArray }
  let H : Hp := fun b => if b = a then some (.frz box (.lst (ns.map V.int))) else none
  have Ha : H a = some (.frz box (.lst (ns.map V.int))) := if_pos rfl
  have Hn : ∀ {b}, b ≠ a → H b = none := fun q => if_neg q
  have ok : HOk P w H s1.heap := fun b u e => by
    by_cases q : b = a
    · subst q
      rw [Ha] at e
      cases e
      refine ⟨obj, ?_, vs, _, vals_ints hin, obj⟩
      rw [List.length_map]
      exact few
    · rw [Hn q] at e
      cases e
  have see : ∀ {b : Addr} {o : Obj}, s1.heap.get? b = some o → b ≠ a → (hidT s1.heap H).get? b = some o := fun e q => hidT_get e (Hn q)
  have nsk : ∀ {b : Addr} {m : Str → Option Value}, s1.heap.Ns b m → (hidT s1.heap H).Ns b m := fun {b m} q => by
    obtain ⟨o, es, ep, e, d, r⟩ := q
    refine ⟨o, es, ep, see e fun z => ?_, d, r⟩
    subst z
    rw [obj] at e
    cases e
    cases d
  have kin' : (less K a).In (hidT s1.heap H) := fun b o e => by
    by_cases q : b = a
    · subst q
      rw [less_at] at e
      cases e
    · rw [less_ne q] at e
      exact see (kin b o e) q
  have lim' : (hidT s1.heap H).NoLimit := by
    obtain ⟨m, h1, h2⟩ := nolim
    exact ⟨m, nsk h1, h2⟩
  have env : Env0 P w (less K a) mg (hidT s1.heap H) callerA [] s1 H :=
    ⟨rfl, ⟨kin', nsk glob, ⟨mb, nsk bns, boot⟩, lim'⟩, fun b o e => of_hidT e, Nat.le_of_eq (hidT_size _ _), trivial, fun b z => absurd z List.not_mem_nil, ok, .of_eq gens⟩
  obtain ⟨e, yes⟩ := yes
  have prom : spF (less K a) Fl [.ref a] H (fun v _ => v = .bl true) E0 := by
    unfold spF
    rw [chg]
    refine ⟨fun _ => False, _, _, fun b z => z.elim, .cons (.lst (fun z => z) (.inr ⟨box, Ha⟩) (rps_ints ns)) .nil, yes, fun v H' _ r => ?_⟩
    have r : Rp (less K a) H' (fun _ => False) v (.bool true) := r
    cases r
    rfl
  refine codeAny_mono ((F _ _ cut kin' (nsk glob)).run callerA [] s1 H ⟨[.ref a], []⟩ [.ref a] [.ref a] _ room rfl env (bind s1 (.ref a)) (.cons rfl .nil) rfl prom) fun r s' h => ?_
  cases r with
  | error er => exact h.elim
  | ok fl =>
    cases fl with
    | next => exact h.elim
    | brk => exact h.elim
    | cont => exact h.elim
    | ret u =>
      obtain ⟨v, H', os, bare, un, ok', rel, q⟩ := h
      have q : v = .bl true := q
      subst q
      have q : u = Value.bool true := rel
      subst q
      refine ⟨rfl, OldK.of_keep fun b o e => ?_, os, bare⟩
      by_cases q : b = a
      · subst q
        obtain ⟨e2, _⟩ := ok' b _ (un.frzs b box _ Ha)
        rw [obj] at e
        cases e
        exact e2
      · exact un.keep b o e (Hn q) (fun z => absurd z List.not_mem_nil) List.not_mem_nil
theorem walk_ofG {l : PySem.W.OpenLaw} {n k : Nat} {q : Program} {loose : List Str} {XP : (Str → Option Value) → Heap → Prop} {YP : World → Heap → Prop} {d : DefRec} {K : Params → PySem.W.Frag} {x : Str}
    (most : l.most = some n) (few : n ≤ sizeLine) (nodef : d.params.defaults = []) (room : Room k callerA)
    (inK : ∀ (w : World) (h : Heap), YP w h → (K w.params).In h)
    (F : ∀ (w : World) (mg : Str → Option Value) (fa : Addr) (h : Heap), (K w.params).In h → h.Ns mainGlobals mg → mg d.name = some (.ref fa) →
      ∃ (fd : FuncData) (Fl : Fn), (∀ (s : Shared) (u : Value), BindsTo s fd ⟨[u], []⟩ [(x, u)]) ∧ Fl.chg = false ∧ (∀ ns : List Int, ns.length ≤ n → ∃ e, Fl.fn [.list (ns.map PyData.int)] = some ((false, .bool true), e)) ∧
        ∀ (K' : PySem.W.Frag) (base : Heap), Cuts (K w.params) K' → K'.In base → base.Ns mainGlobals mg → FnG l.prog w K' mg base k fa fd [x] Fl) :
    PySem.W.WalkO q loose XP YP l.row.toRowW d [] (fun f vs => PySem.call f vs) := by
  refine Att.attach_call most nodef fun w s0 s1 mg mb fa o pm cd doc a vs ns Gd Y ho hd hcd hmg hobj hints hlen hg => ?_
  obtain ⟨fd, Fl, h1, h2, h3, h4⟩ := F w mg fa _ (inK w _ Y) Gd.T.g hmg
  exact law_callG (inK w _ Y) Gd.T.g Gd.T.b Gd.T.builtins Gd.T.nolimit hg hobj hints (Nat.le_trans hlen few) room h4 h1 h2 (h3 ns hlen)
end Ev
set_option Elab.async false
set_option linter.all false
set_option maxRecDepth 100000
set_option maxHeartbeats 4000000
/-! Ev, part 23: what runs give, in plain words. -/
namespace Ev
open PySem PySem.Spec PyProof.Rows L2
/-- it gives something, and that is so -/
def Gv {α : Type} (x : Option α) (Φ : α → Prop) : Prop := ∃ a, x = some a ∧ Φ a
section
variable {α β : Type} {x : Option α} {Φ Ψ : α → Prop}
theorem gv_some {a : α} {Φ : α → Prop} : Gv (some a) Φ ↔ Φ a := ⟨fun ⟨b, e, h⟩ => (by cases e; exact h), fun h => ⟨a, rfl, h⟩⟩
theorem gv_none {Φ : α → Prop} : Gv none Φ ↔ False := ⟨fun ⟨b, e, h⟩ => (by cases e), False.elim⟩
theorem gv_bind {f : α → Option β} {Φ : β → Prop} : Gv (x.bind f) Φ ↔ Gv x fun a => Gv (f a) Φ := by
  cases x with
  | none => simp [gv_none]
  | some a => simp [gv_some]
theorem gv_bind' {f : α → Option β} {Φ : β → Prop} : Gv (x >>= f) Φ ↔ Gv x fun a => Gv (f a) Φ := gv_bind
theorem gv_map {f : α → β} {Φ : β → Prop} : Gv (x.map f) Φ ↔ Gv x fun a => Φ (f a) := by
  cases x with
  | none => simp [gv_none]
  | some a => simp [gv_some]
theorem gv_ite {c : Prop} [Decidable c] {y : Option α} : Gv (if c then x else y) Φ ↔ (c → Gv x Φ) ∧ (¬ c → Gv y Φ) := by
  by_cases h : c <;> simp [h]
theorem Gv.mono (h : Gv x Φ) (i : ∀ a, Φ a → Ψ a) : Gv x Ψ := by
  obtain ⟨a, e, q⟩ := h
  exact ⟨a, e, i a q⟩
theorem Gv.of {a : α} (e : x = some a) (h : Φ a) : Gv x Φ := ⟨a, e, h⟩
end
/-- a statement's run, by how it ends -/
def Gx (x : Option Out) (N B C : Rho → Prop) (T : R → Rho → Prop) : Prop := Gv x fun o => match o with
  | .nx ρ => N ρ
  | .bk ρ => B ρ
  | .ct ρ => C ρ
  | .rt r ρ => T r ρ
section
variable {G : Sig} {lk n : Nat} {N B C N' B' C' : Rho → Prop} {T T' : R → Rho → Prop} {ρ : Rho}
theorem Gx.mono {x : Option Out} (h : Gx x N B C T) (a : ∀ ρ, N ρ → N' ρ) (b : ∀ ρ, B ρ → B' ρ) (c : ∀ ρ, C ρ → C' ρ) (t : ∀ r ρ, T r ρ → T' r ρ) : Gx x N' B' C' T' := by
  obtain ⟨o, e, h⟩ := h
  refine ⟨o, e, ?_⟩
  cases o with
  | nx ρ => exact a ρ h
  | bk ρ => exact b ρ h
  | ct ρ => exact c ρ h
  | rt r ρ => exact t r ρ h
theorem gx_cons {s : S} {ss : Ss} : Gx (execs G lk n (.cons s ss) ρ) N B C T ↔ Gx (Ev.exec G lk n s ρ) (fun ρ1 => Gx (execs G lk n ss ρ1) N B C T) B C T := by
  unfold Gx
  simp only [execs]
  cases Ev.exec G lk n s ρ with
  | none => simp [gv_none]
  | some o => cases o <;> simp [gv_some]
theorem gx_nil : Gx (execs G lk n .nil ρ) N B C T ↔ N ρ := by
  unfold Gx
  simp only [execs, gv_some]
theorem gx_asg {i : Nat} {e : E} : Gx (Ev.exec G lk n (.asg i e) ρ) N B C T ↔ Gv (ev G e ρ) fun p => Gv (storeR lk i p.1 p.2) N := by
  unfold Gx
  simp only [Ev.exec, gv_bind', gv_some]
theorem gx_asgT {t : Tg} {e : E} : Gx (Ev.exec G lk n (.asgT t e) ρ) N B C T ↔ Gv (ev G e ρ) fun p => Gv (escR p.2 p.1) fun q => (tgs t).all (fun i => decide (lk ≤ i)) = true ∧ Gv (bindT t q.1 q.2) N := by
  unfold Gx
  simp only [Ev.exec, gv_bind', gv_some, gv_ite, gv_none]
  refine ⟨fun h => h.mono fun p h => h.mono fun q h => ?_, fun h => h.mono fun p h => h.mono fun q h => ⟨fun _ => h.2, fun z => z h.1⟩⟩
  exact ⟨Classical.byContradiction h.2, h.1 (Classical.byContradiction h.2)⟩
theorem gx_par {i j : Nat} {a b : E} : Gx (Ev.exec G lk n (.par i j a b) ρ) N B C T ↔ Gv (ev G a ρ) fun p => Gv (ev G b p.2) fun q => (isLocR p.1 || isLocR q.1) = false ∧ Gv (storeR lk i p.1 q.2) fun ρ1 => Gv (storeR lk j q.1 ρ1) N := by
  unfold Gx
  simp only [Ev.exec, gv_bind', gv_some, gv_ite, gv_none]
  refine ⟨fun h => h.mono fun p h => h.mono fun q h => ?_, fun h => h.mono fun p h => h.mono fun q h => ⟨fun z => (by rw [h.1] at z; cases z), fun _ => h.2⟩⟩
  have : (isLocR p.1 || isLocR q.1) = false := by
    rw [← Bool.not_eq_true]
    exact h.1
  exact ⟨this, h.2 (by rw [this]; simp)⟩
theorem gx_parT {i j : Nat} {a b : E} : Gx (Ev.exec G lk n (.parT i j a b) ρ) N B C T ↔ Gv (ev G a ρ) fun p => Gv (ev G b p.2) fun q => (isLocR p.1 || isLocR q.1) = false ∧ Gv (storeR lk i p.1 q.2) fun ρ1 => Gv (storeR lk j q.1 ρ1) N := by
  rw [← gx_par (n := n) (i := i) (B := B) (C := C) (T := T)]
  unfold Gx
  simp only [Ev.exec]
theorem gx_expr {e : E} : Gx (Ev.exec G lk n (.expr e) ρ) N B C T ↔ Gv (ev G e ρ) fun p => N p.2 := by
  unfold Gx
  simp only [Ev.exec, gv_bind', gv_some]
theorem gx_ret {e : E} : Gx (Ev.exec G lk n (.ret e) ρ) N B C T ↔ Gv (ev G e ρ) fun p => T p.1 p.2 := by
  unfold Gx
  simp only [Ev.exec, gv_bind', gv_some]
theorem gx_retN : Gx (Ev.exec G lk n .retN ρ) N B C T ↔ T (.val false .none) ρ := by
  unfold Gx
  simp only [Ev.exec, gv_some]
theorem gx_pass : Gx (Ev.exec G lk n .pass ρ) N B C T ↔ N ρ := by
  unfold Gx
  simp only [Ev.exec, gv_some]
theorem gx_ifs {c : Te} {a b : Ss} : Gx (Ev.exec G lk n (.ifs c a b) ρ) N B C T ↔ Gv (evT G c ρ) fun p => (p.1 = true → Gx (execs G lk n a p.2) N B C T) ∧ (p.1 = false → Gx (execs G lk n b p.2) N B C T) := by
  unfold Gx
  simp only [Ev.exec, gv_bind']
  refine ⟨fun h => h.mono fun p h => ?_, fun h => h.mono fun p h => ?_⟩
  · obtain ⟨t, r⟩ := p
    cases t with
    | true => exact ⟨fun _ => h, fun z => (by cases z)⟩
    | false => exact ⟨fun z => (by cases z), fun _ => h⟩
  · obtain ⟨t, r⟩ := p
    cases t with
    | true => exact h.1 rfl
    | false => exact h.2 rfl
/-- a loop: I at turn i -/
theorem gx_for {t : Tg} {it : It} {body : Ss} (I : Nat → Rho → Prop) : (Gv (evI G it ρ) fun p => (tgs t).all (fun i => decide (lk ≤ i)) = true ∧ I 0 p.2 ∧ (∀ i d ρ1, p.1[i]? = some d → I i ρ1 → Gv (bindT t d ρ1) fun ρ2 => Gx (execs G lk n body ρ2) (I (i + 1)) N (I (i + 1)) T) ∧ ∀ ρ1, I p.1.length ρ1 → N ρ1) →
    Gx (Ev.exec G lk n (.for_ t it body) ρ) N B C T := by
  rintro ⟨p, e, h1, h2, h3, h4⟩
  obtain ⟨ds, ρ1⟩ := p
  have go : ∀ (m i : Nat) (ρ1 : Rho), m = ds.length - i → i ≤ ds.length → I i ρ1 → Gx (forF (fun d ρ => match bindT t d ρ with
      | some ρ1 => execs G lk n body ρ1
      | none => none) (ds.drop i) ρ1) N B C T := by
    intro m
    induction m with
    | zero =>
      intro i ρ1 hm hi hI
      have : i = ds.length := by omega
      subst this
      rw [List.drop_length]
      exact ⟨_, rfl, h4 _ hI⟩
    | succ m ih =>
      intro i ρ1 hm hi hI
      have hlt : i < ds.length := by omega
      rw [List.drop_eq_getElem_cons hlt]
      obtain ⟨ρ2, b1, o, b2, b3⟩ := h3 i ds[i] ρ1 (List.getElem?_eq_getElem hlt) hI
      unfold forF
      simp only [b1, b2]
      cases o with
      | nx ρ3 => exact ih (i + 1) ρ3 (by omega) (by omega) b3
      | ct ρ3 => exact ih (i + 1) ρ3 (by omega) (by omega) b3
      | bk ρ3 => exact ⟨_, rfl, b3⟩
      | rt r ρ3 => exact ⟨_, rfl, b3⟩
  have := go ds.length 0 ρ1 (by omega) (Nat.zero_le _) h2
  unfold Gx at this ⊢
  simp only [Ev.exec, e, Option.bind_eq_bind, Option.bind_some, h1, if_true]
  exact this
/-- a while loop: I with what is left -/
theorem gx_while {c : Te} {body : Ss} (I : Nat → Rho → Prop) (m : Nat) (hm : m < n) (h0 : I m ρ) (h : ∀ m ρ1, I m ρ1 → Gv (evT G c ρ1) fun p => (p.1 = true → Gx (execs G lk n body p.2) (fun ρ2 => ∃ k, k < m ∧ I k ρ2) N (fun ρ2 => ∃ k, k < m ∧ I k ρ2) T) ∧ (p.1 = false → N p.2)) :
    Gx (Ev.exec G lk n (.while_ c body) ρ) N B C T := by
  have go : ∀ (j m : Nat) (ρ1 : Rho), m < j → I m ρ1 → Gx (whileF (fun ρ => evT G c ρ) (fun ρ => execs G lk n body ρ) j ρ1) N B C T := by
    intro j
    induction j with
    | zero => intro m ρ1 hm; omega
    | succ j ih =>
      intro m ρ1 hm hI
      obtain ⟨p, e, h1, h2⟩ := h m ρ1 hI
      obtain ⟨b, ρ2⟩ := p
      unfold whileF
      simp only [e]
      cases b with
      | false => exact ⟨_, rfl, h2 rfl⟩
      | true =>
        obtain ⟨o, b2, b3⟩ := h1 rfl
        simp only at b2
        simp only [b2]
        cases o with
        | nx ρ3 =>
          obtain ⟨k, hk, hI'⟩ := b3
          exact ih k ρ3 (by omega) hI'
        | ct ρ3 =>
          obtain ⟨k, hk, hI'⟩ := b3
          exact ih k ρ3 (by omega) hI'
        | bk ρ3 => exact ⟨_, rfl, b3⟩
        | rt r ρ3 => exact ⟨_, rfl, b3⟩
  have := go n m ρ hm h0
  unfold Gx at this ⊢
  simp only [Ev.exec]
  exact this
end
theorem run_gv {G : Sig} {n : Nat} {N ps : List Str} {m : Bool} {sb : Ss} {ds : List D} {Φ : (Bool × D) × D → Prop} (ρ0 : Rho) (lk : Nat) (hl : ds.length = ps.length) (he : entry N.length m ds = ρ0) (hk : (if m then 1 else 0) = lk)
    (h : Gx (execs G lk n sb ρ0) (fun ρ => Gv (Ev.finish m ρ (false, PyData.none)) Φ) (fun _ => False) (fun _ => False) fun r ρ => Gv (finR m ρ r) Φ) : Gv ((runF G n N ps m sb).fn ds) Φ := by
  unfold runF
  simp only
  rw [if_pos hl]
  unfold run
  obtain ⟨o, e, h⟩ := h
  rw [hk, he, e]
  cases o with
  | rt r ρ => exact h
  | nx ρ => exact h
  | bk ρ => exact h.elim
  | ct ρ => exact h.elim
end Ev
set_option Elab.async false
set_option linter.all false
set_option maxRecDepth 100000
set_option maxHeartbeats 4000000
/-! Ev, part 24: what expressions give, step by step. -/
namespace Ev
open PySem PySem.Spec PyProof.Rows L2
section
variable {G : Sig} {ρ : Rho} {Φ : R × Rho → Prop}
theorem gv_if {α : Type} {c : Prop} [Decidable c] {x y : Option α} {Φ : α → Prop} (hc : c) (h : Gv x Φ) : Gv (if c then x else y) Φ := by rw [if_pos hc]; exact h
/-- the same, where it can be computed -/
def Gi {α : Type} (x : Option α) (Φ : α → Prop) : Prop := Gv x Φ
theorem gi_of {α : Type} {x : Option α} {a : α} {Φ : α → Prop} (e : x = some a) (h : Φ a) : Gi x Φ := ⟨a, e, h⟩
theorem gi_mk {α : Type} {x : Option α} {Φ : α → Prop} (h : Gv x Φ) : Gi x Φ := h
def intOf : D → Option Int
  | .int i => some i
  | _ => none
theorem g_intOf {i : Int} {Φ : Int → Prop} (h : Φ i) : Gv (intOf (.int i)) Φ := ⟨_, rfl, h⟩
theorem intOf_inv {d : D} {i : Int} (h : intOf d = some i) : d = .int i := by
  unfold intOf at h
  split at h
  · cases h; rfl
  · cases h
def seqOf : D → Option (List D)
  | .list xs => some xs
  | .tuple xs => some xs
  | _ => none
theorem g_seqL {xs : List D} {Φ : List D → Prop} (h : Φ xs) : Gv (seqOf (.list xs)) Φ := ⟨_, rfl, h⟩
theorem g_seqT {xs : List D} {Φ : List D → Prop} (h : Φ xs) : Gv (seqOf (.tuple xs)) Φ := ⟨_, rfl, h⟩
theorem seqOf_inv {d : D} {xs : List D} (h : seqOf d = some xs) : d = .list xs ∨ d = .tuple xs := by
  unfold seqOf at h
  split at h
  · cases h; exact .inl rfl
  · cases h; exact .inr rfl
  · cases h
theorem pick_t {p q : Prop} (h : p) : (true = true → p) ∧ (true = false → q) := ⟨fun _ => h, fun z => (by cases z)⟩
theorem pick_f {p q : Prop} (h : q) : (false = true → p) ∧ (false = false → q) := ⟨fun z => (by cases z), fun _ => h⟩
def ownL : Bool × D → Option (List D)
  | (true, .list xs) => some xs
  | _ => none
theorem g_own {xs : List D} {Φ : List D → Prop} (h : Φ xs) : Gv (ownL (true, .list xs)) Φ := ⟨_, rfl, h⟩
theorem ownL_inv {w : Bool × D} {xs : List D} (h : ownL w = some xs) : w = (true, .list xs) := by
  unfold ownL at h
  split at h
  · cases h; rfl
  · cases h
def setAt : Bool × D → D → D → Option (Bool × D)
  | (true, .list xs), .int z, d => (ixN xs.length z).map fun k => (true, .list (xs.set k d))
  | (true, .dict kvs), x, d => if isKey x && decide (kvs.length < sizeLine) then some (true, .dict (dput kvs x d)) else none
  | _, _, _ => none
theorem g_setL {xs : List D} {z : Int} {d : D} {Φ : Bool × D → Prop} (h : Gi (ixN xs.length z) fun k => Φ (true, .list (xs.set k d))) : Gv (setAt (true, .list xs) (.int z) d) Φ := by
  unfold setAt
  exact gv_map.mpr h
theorem g_setD {kvs : List (D × D)} {x d : D} {Φ : Bool × D → Prop} (c : isKey x = true) (c2 : kvs.length < sizeLine) (h : Φ (true, .dict (dput kvs x d))) : Gv (setAt (true, .dict kvs) x d) Φ := by
  have : setAt (true, .dict kvs) x d = if isKey x && decide (kvs.length < sizeLine) then some (true, .dict (dput kvs x d)) else none := by cases x <;> rfl
  rw [this]
  exact gv_if (by rw [c, decide_eq_true c2]; rfl) (gv_some.mpr h)
theorem gv_op {o : O2} {a b : E} (h : Gv (ev G a ρ) fun p => Gv (ev G b p.2) fun q => Gv (rdR q.2 p.1) fun x => Gv (rdR q.2 q.1) fun y => Gv (op2 o x y) fun r => Φ (.val r.1 r.2, q.2)) : Gv (ev G (.op o a b) ρ) Φ := by
  simp only [ev, gv_bind', gv_some]
  exact h
theorem gv_neg {a : E} (h : Gv (ev G a ρ) fun p => Gv (rdR p.2 p.1) fun x => Gv (intOf x) fun i => Φ (.val false (.int (-i)), p.2)) : Gv (ev G (.neg a) ρ) Φ := by
  simp only [ev, gv_bind']
  refine h.mono fun p h => h.mono fun x h => ?_
  obtain ⟨i, e, h⟩ := h
  rw [intOf_inv e]
  exact gv_some.mpr h
theorem gv_not {a : E} (h : Gv (ev G a ρ) fun p => Gv (rdR p.2 p.1) fun x => Gv (truth x) fun t => Φ (.val false (.bool (!t)), p.2)) : Gv (ev G (.not a) ρ) Φ := by
  simp only [ev, gv_bind', gv_some]
  exact h
theorem gv_and {a b : E} (h : Gv (ev G a ρ) fun p => Gv (escR p.2 p.1) fun x => Gv (truth x.1) fun t => (t = true → Gv (ev G b x.2) Φ) ∧ (t = false → Φ (.val false x.1, x.2))) : Gv (ev G (.and a b) ρ) Φ := by
  simp only [ev, gv_bind']
  refine h.mono fun p h => h.mono fun x h => h.mono fun t h => ?_
  cases t with
  | true => exact h.1 rfl
  | false => exact gv_some.mpr (h.2 rfl)
theorem gv_or {a b : E} (h : Gv (ev G a ρ) fun p => Gv (escR p.2 p.1) fun x => Gv (truth x.1) fun t => (t = true → Φ (.val false x.1, x.2)) ∧ (t = false → Gv (ev G b x.2) Φ)) : Gv (ev G (.or a b) ρ) Φ := by
  simp only [ev, gv_bind']
  refine h.mono fun p h => h.mono fun x h => h.mono fun t h => ?_
  cases t with
  | true => exact gv_some.mpr (h.1 rfl)
  | false => exact h.2 rfl
theorem gv_cmp {c : C2} {a b : E} (h : Gv (ev G a ρ) fun p => Gv (ev G b p.2) fun q => Gv (rdR q.2 p.1) fun x => Gv (rdR q.2 q.1) fun y => Gv (cmp2 c x y) fun r => Φ (.val false (.bool r), q.2)) : Gv (ev G (.cmp c a b) ρ) Φ := by
  simp only [ev, gv_bind', gv_some]
  exact h
theorem gv_chain {c d : C2} {a b e : E} (h : Gv (ev G a ρ) fun p => Gv (ev G b p.2) fun q => Gv (rdR q.2 p.1) fun x => Gv (rdR q.2 q.1) fun y => Gv (cmp2 c x y) fun r =>
    (r = true → Gv (ev G e q.2) fun s => Gv (rdR s.2 q.1) fun y => Gv (rdR s.2 s.1) fun z => Gv (cmp2 d y z) fun r => Φ (.val false (.bool r), s.2)) ∧ (r = false → Φ (.val false (.bool false), q.2))) : Gv (ev G (.chain c d a b e) ρ) Φ := by
  simp only [ev, gv_bind']
  refine h.mono fun p h => h.mono fun q h => h.mono fun x h => h.mono fun y h => h.mono fun r h => ?_
  cases r with
  | true => simpa only [gv_bind', gv_some, if_true] using h.1 rfl
  | false => exact gv_some.mpr (h.2 rfl)
theorem gv_isC {ng : Bool} {a : E} (h : Gv (ev G a ρ) fun p => Gv (rdR p.2 p.1) fun x => Φ (.val false (.bool (match x with | .none => !ng | _ => ng)), p.2)) : Gv (ev G (.isC ng a) ρ) Φ := by
  simp only [ev, gv_bind', gv_some]
  exact h
theorem gv_iteE {c : Te} {a b : E} (h : Gv (evT G c ρ) fun p => (p.1 = true → Gv (ev G a p.2) Φ) ∧ (p.1 = false → Gv (ev G b p.2) Φ)) : Gv (ev G (.ite c a b) ρ) Φ := by
  simp only [ev, gv_bind']
  refine h.mono fun p h => ?_
  obtain ⟨t, r⟩ := p
  cases t with
  | true => exact h.1 rfl
  | false => exact h.2 rfl
theorem gv_tup {es : Es} (h : Gv (evs G es ρ) fun p => Gv (escRs p.1 p.2) fun q => q.1.length ≤ sizeLine ∧ Φ (.val false (.tuple q.1), q.2)) : Gv (ev G (.tup es) ρ) Φ := by
  simp only [ev, gv_bind']
  refine h.mono fun p h => h.mono fun q h => ?_
  exact gv_if (by simpa [fits] using h.1) (gv_some.mpr h.2)
theorem gv_lst {es : Es} (h : Gv (evs G es ρ) fun p => Gv (escRs p.1 p.2) fun q => q.1.length ≤ sizeLine ∧ Φ (.val true (.list q.1), q.2)) : Gv (ev G (.lst es) ρ) Φ := by
  simp only [ev, gv_bind']
  refine h.mono fun p h => h.mono fun q h => ?_
  exact gv_if (by simpa [fits] using h.1) (gv_some.mpr h.2)
theorem gv_ix {a b : E} (h : Gv (ev G a ρ) fun p => Gv (ev G b p.2) fun q => Gv (rdR q.2 p.1) fun x => Gv (rdR q.2 q.1) fun y => Gv (index2 x y) fun r => Φ (.val false r, q.2)) : Gv (ev G (.ix a b) ρ) Φ := by
  simp only [ev, gv_bind', gv_some]
  exact h
theorem gv_sl {a : E} {lo hi : Es} (h : Gv (ev G a ρ) fun p => Gv (evs G lo p.2) fun q => Gv (rdRs q.2 q.1) fun l => Gv (part l) fun l' => Gv (evs G hi q.2) fun u => Gv (rdRs u.2 u.1) fun m => Gv (part m) fun m' => Gv (rdR u.2 p.1) fun x => Gv (slice2 x l' m') fun r => Φ (.val r.1 r.2, u.2)) : Gv (ev G (.sl a lo hi) ρ) Φ := by
  simp only [ev, gv_bind', gv_some]
  exact h
theorem gv_prim {p : Pm} {es : Es} (h : Gv (evs G es ρ) fun q => Gv (rdRs q.2 q.1) fun ds => Gv (prim p ds) fun r => Φ (.val r.1 r.2, q.2)) : Gv (ev G (.prim p es) ρ) Φ := by
  simp only [ev, gv_bind', gv_some]
  exact h
theorem gv_isi {a : E} {ty : String} (h : Gv (ev G a ρ) fun p => Gv (rdR p.2 p.1) fun x => Φ (.val false (.bool (isiD x ty)), p.2)) : Gv (ev G (.isi a ty) ρ) Φ := by
  simp only [ev, gv_bind', gv_some]
  exact h
theorem gv_maxd {a : E} (h : Gv (ev G a ρ) fun p => Gv (rdR p.2 p.1) fun x => Gv (maxdD x) fun r => Φ (.val false r, p.2)) : Gv (ev G (.maxd a) ρ) Φ := by
  simp only [ev, gv_bind', gv_some]
  exact h
theorem gv_maxe {a b : E} (h : Gv (ev G a ρ) fun p => Gv (ev G b p.2) fun p2 => Gv (escR p2.2 p2.1) fun y => Gv (rdR y.2 p.1) fun x => Gv (maxeD x y.1) fun r => Φ (.val false r, y.2)) : Gv (ev G (.maxe a b) ρ) Φ := by
  simp only [ev, gv_bind', gv_some]
  exact h
theorem gv_lrng {a : E} (h : Gv (ev G a ρ) fun p => Gv (rdR p.2 p.1) fun x => Gv (intOf x) fun i => (0 ≤ i ∧ i ≤ 1000000) ∧ Φ (.val true (.list (upTo i.toNat)), p.2)) : Gv (ev G (.lrng a) ρ) Φ := by
  simp only [ev, gv_bind']
  refine h.mono fun p h => h.mono fun x h => ?_
  obtain ⟨i, e, c, h⟩ := h
  rw [intOf_inv e]
  exact gv_if c (gv_some.mpr h)
def lstOf : D → Option (List D)
  | .list xs => some xs
  | _ => none
theorem g_lstOf {xs : List D} {Φ : List D → Prop} (h : Φ xs) : Gv (lstOf (.list xs)) Φ := ⟨_, rfl, h⟩
theorem lstOf_inv {d : D} {xs : List D} (h : lstOf d = some xs) : d = .list xs := by
  unfold lstOf at h
  split at h
  · cases h; rfl
  · cases h
theorem gv_revL {a : E} (h : Gv (ev G a ρ) fun p => Gv (rdR p.2 p.1) fun x => Gv (lstOf x) fun xs => Φ (.val true (.list xs.reverse), p.2)) : Gv (ev G (.revL a) ρ) Φ := by
  simp only [ev, gv_bind']
  refine h.mono fun p h => h.mono fun x h => ?_
  obtain ⟨i, e, h⟩ := h
  rw [lstOf_inv e]
  exact gv_some.mpr h
theorem gv_trng {a : E} (h : Gv (ev G a ρ) fun p => Gv (rdR p.2 p.1) fun x => Gv (intOf x) fun i => (0 ≤ i ∧ i ≤ 1000000) ∧ Φ (.val false (.tuple (upTo i.toNat)), p.2)) : Gv (ev G (.trng a) ρ) Φ := by
  simp only [ev, gv_bind']
  refine h.mono fun p h => h.mono fun x h => ?_
  obtain ⟨i, e, c, h⟩ := h
  rw [intOf_inv e]
  exact gv_if c (gv_some.mpr h)
def boolOf : D → Option Bool
  | .bool b => some b
  | _ => none
theorem g_boolOf {b : Bool} {Φ : Bool → Prop} (h : Φ b) : Gv (boolOf (.bool b)) Φ := ⟨_, rfl, h⟩
theorem boolOf_inv {d : D} {b : Bool} (h : boolOf d = some b) : d = .bool b := by
  unfold boolOf at h
  split at h
  · cases h; rfl
  · cases h
theorem gv_isB {ng c : Bool} {a : E} (h : Gv (ev G a ρ) fun p => Gv (rdR p.2 p.1) fun x => Gv (boolOf x) fun b => Φ (.val false (.bool (if ng then !decide (b = c) else decide (b = c))), p.2)) : Gv (ev G (.isB ng c a) ρ) Φ := by
  simp only [ev, gv_bind']
  refine h.mono fun p h => h.mono fun x h => ?_
  obtain ⟨b, e, h⟩ := h
  rw [boolOf_inv e]
  exact gv_some.mpr h
theorem gv_call {f : Str} {es : Es} (h : Gv (evs G es ρ) fun q => Gv (rdRs q.2 q.1) fun ds => Gi (G.fns f) fun F => Gv (F.fn ds) fun r => F.chg = false ∧ (q.1.any isLocR && !(frozR r.1)) = false ∧ Φ (.val r.1.1 r.1.2, q.2)) : Gv (ev G (.call f es) ρ) Φ := by
  simp only [ev, gv_bind']
  refine h.mono fun q h => h.mono fun ds h => Gv.mono h fun F h => h.mono fun r h => ?_
  obtain ⟨h1, h2, h3⟩ := h
  obtain ⟨r1, r2⟩ := r
  simp only [h1, h2]
  exact gv_some.mpr h3
theorem gv_callm {f : Str} {i : Nat} {es : Es} (h : Gv (look ρ i) fun w => Gv (ownL w) fun _ => Gv (evs G es ρ) fun q => Gv (rdRs q.2 q.1) fun ds => Gi (G.fns f) fun F => Gv (look q.2 i) fun w => Gv (ownL w) fun xs => Gv (F.fn (.list xs :: ds)) fun r => Gv (ownL (true, r.2)) fun ys =>
    F.chg = true ∧ q.1.any isLocR = false ∧ froz.frozs ys = true ∧ Φ (.val r.1.1 r.1.2, q.2.set i (some (true, .list ys)))) : Gv (ev G (.callm f i es) ρ) Φ := by
  obtain ⟨w, h0, zs, h1, h⟩ := h
  rw [ownL_inv h1] at h0
  simp only [ev, h0, gv_bind']
  refine h.mono fun q h => h.mono fun ds h => Gv.mono h fun F h => ?_
  obtain ⟨w2, e, xs, e2, h⟩ := h
  rw [ownL_inv e2] at e
  rw [e]
  simp only [gv_bind']
  refine h.mono fun r h => ?_
  obtain ⟨ys, e1, h1, h2, h3, h4⟩ := h
  obtain ⟨r1, r2⟩ := r
  have e1 : (true, r2) = (true, PyData.list ys) := ownL_inv e1
  cases e1
  simp only [h1, h2, h3]
  exact gv_some.mpr h4
theorem gv_meth {m : Mt} {i : Nat} {es : Es} (h : Gv (look ρ i) fun w => Gv (ownL w) fun _ => Gv (evs G es ρ) fun q => Gv (escRs q.1 q.2) fun ds => Gv (look ds.2 i) fun w => Gv (ownL w) fun xs => Gv (meth m xs ds.1) fun r => Φ (.val false r.1, ds.2.set i (some (true, .list r.2)))) : Gv (ev G (.meth m i es) ρ) Φ := by
  obtain ⟨w, h0, zs, h1, h⟩ := h
  rw [ownL_inv h1] at h0
  simp only [ev, h0, gv_bind']
  refine h.mono fun q h => h.mono fun ds h => ?_
  obtain ⟨w2, e, xs, e2, h⟩ := h
  rw [ownL_inv e2] at e
  rw [e]
  simp only [gv_bind']
  exact h.mono fun r h => gv_some.mpr h
theorem gv_nil {Ψ : List R × Rho → Prop} (h : Ψ ([], ρ)) : Gv (evs G .nil ρ) Ψ := by
  simp only [evs, gv_some]
  exact h
theorem gv_cons {e : E} {es : Es} {Ψ : List R × Rho → Prop} (h : Gv (ev G e ρ) fun p => Gv (evs G es p.2) fun q => Ψ (p.1 :: q.1, q.2)) : Gv (evs G (.cons e es) ρ) Ψ := by
  simp only [evs, gv_bind', gv_some]
  exact h
theorem gt_val {e : E} {Ψ : Bool × Rho → Prop} (h : Gv (ev G e ρ) fun p => Gv (rdR p.2 p.1) fun x => Gv (truth x) fun t => Ψ (t, p.2)) : Gv (evT G (.val e) ρ) Ψ := by
  simp only [evT, gv_bind', gv_some]
  exact h
theorem gt_not {t : Te} {Ψ : Bool × Rho → Prop} (h : Gv (evT G t ρ) fun p => Ψ (!p.1, p.2)) : Gv (evT G (.not t) ρ) Ψ := by
  simp only [evT, gv_bind', gv_some]
  exact h
theorem gt_and {t u : Te} {Ψ : Bool × Rho → Prop} (h : Gv (evT G t ρ) fun p => (p.1 = true → Gv (evT G u p.2) Ψ) ∧ (p.1 = false → Ψ (false, p.2))) : Gv (evT G (.and t u) ρ) Ψ := by
  simp only [evT, gv_bind']
  refine h.mono fun p h => ?_
  obtain ⟨b, r⟩ := p
  cases b with
  | true => exact h.1 rfl
  | false => exact gv_some.mpr (h.2 rfl)
theorem gt_or {t u : Te} {Ψ : Bool × Rho → Prop} (h : Gv (evT G t ρ) fun p => (p.1 = true → Ψ (true, p.2)) ∧ (p.1 = false → Gv (evT G u p.2) Ψ)) : Gv (evT G (.or t u) ρ) Ψ := by
  simp only [evT, gv_bind']
  refine h.mono fun p h => ?_
  obtain ⟨b, r⟩ := p
  cases b with
  | true => exact gv_some.mpr (h.1 rfl)
  | false => exact h.2 rfl
theorem gc_nil {Ψ : Bool × Rho → Prop} (h : Ψ (true, ρ)) : Gv (evC G .nil ρ) Ψ := by
  simp only [evC, gv_some]
  exact h
theorem gc_one {t : Te} {Ψ : Bool × Rho → Prop} (h : Gv (evT G t ρ) Ψ) : Gv (evC G (.one t) ρ) Ψ := by
  simp only [evC]
  exact h
theorem gi_seq {e : E} {Ψ : List D × Rho → Prop} (h : Gv (ev G e ρ) fun p => Gv (escR p.2 p.1) fun x => Gv (seqOf x.1) fun xs => Ψ (xs, x.2)) : Gv (evI G (.seq e) ρ) Ψ := by
  simp only [evI, gv_bind']
  refine h.mono fun p h => h.mono fun x h => ?_
  obtain ⟨xs, e, h⟩ := h
  rcases seqOf_inv e with e | e <;> (rw [e]; exact gv_some.mpr h)
theorem gi_rng {e : E} {Ψ : List D × Rho → Prop} (h : Gv (ev G e ρ) fun p => Gv (rdR p.2 p.1) fun x => Gv (intOf x) fun i => (i ≤ 16000000 ∧ -16000000 ≤ i) ∧ Ψ (upTo i.toNat, p.2)) : Gv (evI G (.rng e) ρ) Ψ := by
  simp only [evI, gv_bind']
  refine h.mono fun p h => h.mono fun x h => ?_
  obtain ⟨i, e, c, h⟩ := h
  rw [intOf_inv e]
  exact gv_if c (gv_some.mpr h)
theorem gi_enum {e : E} {Ψ : List D × Rho → Prop} (h : Gv (ev G e ρ) fun p => Gv (escR p.2 p.1) fun x => Gv (seqOf x.1) fun xs => Ψ (xs.mapIdx fun k x => .tuple [.int k, x], x.2)) : Gv (evI G (.enum e) ρ) Ψ := by
  simp only [evI, gv_bind']
  refine h.mono fun p h => h.mono fun x h => ?_
  obtain ⟨xs, e, h⟩ := h
  rcases seqOf_inv e with e | e <;> (rw [e]; exact gv_some.mpr h)
theorem gi_zip {a b : E} {Ψ : List D × Rho → Prop} (h : Gv (ev G a ρ) fun p => Gv (ev G b p.2) fun p2 => Gv (escR p2.2 p.1) fun x => Gv (escR x.2 p2.1) fun y => Gv (seqOf x.1) fun xs => Gv (seqOf y.1) fun ys => Ψ (List.zipWith (fun x y => PyData.tuple [x, y]) xs ys, y.2)) : Gv (evI G (.zip a b) ρ) Ψ := by
  simp only [evI, gv_bind']
  refine h.mono fun p h => h.mono fun p2 h => ?_
  obtain ⟨x, e1, y, e2, xs, e3, ys, e4, h⟩ := h
  refine ⟨([x.1, y.1], y.2), ?_, ?_⟩
  · simp only [escRs, e1, e2]
  · have q1 : seqD x.1 = some xs := by rcases seqOf_inv e3 with e | e <;> (rw [e]; rfl)
    have q2 : seqD y.1 = some ys := by rcases seqOf_inv e4 with e | e <;> (rw [e]; rfl)
    simp only [q1, q2]
    exact gv_some.mpr h
/-- a comprehension: I at turn i, with what has come -/
theorem gv_comp {vs : List Nat} {tg : Tg} {it : It} {cd : Tes} {elt : E} (I : Nat → List D → Rho → Prop) (h : Gv (evI G it ρ) fun p => (vs.all (plainAt p.2) && (tgs tg).all (fun i => vs.contains i)) = true ∧ I 0 [] (wipeR p.2 vs) ∧
    (∀ i d acc ρ1, p.1[i]? = some d → I i acc ρ1 → Gv (bindT tg d ρ1) fun ρ2 => Gv (evC G cd ρ2) fun t => (t.1 = true → Gv (ev G elt t.2) fun r => Gv (escR r.2 r.1) fun y => I (i + 1) (acc ++ [y.1]) (wipeR y.2 vs)) ∧ (t.1 = false → I (i + 1) acc (wipeR t.2 vs))) ∧
    ∀ acc ρ1, I p.1.length acc ρ1 → Φ (.val true (.list acc), backR p.2 ρ1 vs)) : Gv (ev G (.comp vs tg it cd elt) ρ) Φ := by
  obtain ⟨p, e, h1, h2, h3, h4⟩ := h
  obtain ⟨ds, ρ1⟩ := p
  simp only [ev, e, Option.bind_eq_bind, Option.bind_some, h1, if_true]
  generalize ht : (fun (d : PyData) (ρ : Rho) => (bindT tg d ρ).bind fun ρ1 => (evC G cd ρ1).bind fun x => if x.fst = true then (ev G elt x.snd).bind fun x => (escR x.snd x.fst).bind fun x => some (some x.fst, x.snd) else some (none, x.snd)) = turn
  have go : ∀ (m i : Nat) (acc : List D) (ρ1 : Rho), m = ds.length - i → i ≤ ds.length → I i acc ρ1 → Gv (compF turn vs (ds.drop i) ρ1) fun q => I ds.length (acc ++ q.1) q.2 := by
    intro m
    induction m with
    | zero =>
      intro i acc ρ1 hm hi hI
      have : i = ds.length := by omega
      subst this
      rw [List.drop_length]
      exact ⟨_, rfl, by show I _ (acc ++ []) ρ1; rw [List.append_nil]; exact hI⟩
    | succ m ih =>
      intro i acc ρ1 hm hi hI
      have hlt : i < ds.length := by omega
      rw [List.drop_eq_getElem_cons hlt]
      obtain ⟨ρ2, b1, ⟨b, ρ3⟩, b2, b3, b4⟩ := h3 i ds[i] acc ρ1 (List.getElem?_eq_getElem hlt) hI
      cases b with
      | true =>
        obtain ⟨⟨r, ρ4⟩, c1, ⟨y, ρ5⟩, c2, c3⟩ := b3 rfl
        have et : turn ds[i] ρ1 = some (some y, ρ5) := by
          rw [← ht]
          simp only at c1 c2
          simp only [b1, b2, c1, c2, Option.bind_some, if_true]
        obtain ⟨⟨ys, ρ6⟩, e1, e2⟩ := ih (i + 1) (acc ++ [y]) (wipeR ρ5 vs) (by omega) (by omega) c3
        refine ⟨(y :: ys, ρ6), ?_, ?_⟩
        · unfold compF
          simp only [et, e1]
          rfl
        · simpa using e2
      | false =>
        have et : turn ds[i] ρ1 = some (none, ρ3) := by
          rw [← ht]
          simp [b1, b2]
        obtain ⟨⟨ys, ρ6⟩, e1, e2⟩ := ih (i + 1) acc (wipeR ρ3 vs) (by omega) (by omega) (b4 rfl)
        refine ⟨(ys, ρ6), ?_, e2⟩
        unfold compF
        simp only [et, e1]
        rfl
  obtain ⟨⟨ys, ρ6⟩, e1, e2⟩ := go ds.length 0 [] (wipeR ρ1 vs) (by omega) (Nat.zero_le _) h2
  rw [List.drop_zero] at e1
  refine ⟨_, ?_, h4 ys ρ6 (by simpa using e2)⟩
  rw [e1]
  rfl
/-- a dict's comprehension -/
theorem gv_dcomp {vs : List Nat} {tg : Tg} {it : It} {cd : Tes} {k v : E} (I : Nat → List D → Rho → Prop) (h : Gv (evI G it ρ) fun p => (vs.all (plainAt p.2) && (tgs tg).all (fun i => vs.contains i)) = true ∧ I 0 [] (wipeR p.2 vs) ∧
    (∀ i d acc ρ1, p.1[i]? = some d → I i acc ρ1 → Gv (bindT tg d ρ1) fun ρ2 => Gv (evC G cd ρ2) fun t => (t.1 = true → Gv (ev G k t.2) fun r => Gv (ev G v r.2) fun r2 => Gv (escR r2.2 r2.1) fun y => Gv (rdR y.2 r.1) fun x => isKey x = true ∧ I (i + 1) (acc ++ [.tuple [x, y.1]]) (wipeR y.2 vs)) ∧ (t.1 = false → I (i + 1) acc (wipeR t.2 vs))) ∧
    ∀ acc ρ1, I p.1.length acc ρ1 → Φ (.val true (.dict (dputs [] acc)), backR p.2 ρ1 vs)) : Gv (ev G (.dcomp vs tg it cd k v) ρ) Φ := by
  obtain ⟨p, e, h1, h2, h3, h4⟩ := h
  obtain ⟨ds, ρ1⟩ := p
  simp only [ev, e, Option.bind_eq_bind, Option.bind_some, h1, if_true]
  generalize ht : (fun (d : PyData) (ρ : Rho) => (bindT tg d ρ).bind fun ρ1 => (evC G cd ρ1).bind fun x => if x.fst = true then (ev G k x.snd).bind fun x => (ev G v x.snd).bind fun x_1 => (escR x_1.snd x_1.fst).bind fun x_2 => (rdR x_2.snd x.fst).bind fun x => if isKey x = true then some (some (PyData.tuple [x, x_2.fst]), x_2.snd) else none else some (none, x.snd)) = turn
  have go : ∀ (m i : Nat) (acc : List D) (ρ1 : Rho), m = ds.length - i → i ≤ ds.length → I i acc ρ1 → Gv (compF turn vs (ds.drop i) ρ1) fun q => I ds.length (acc ++ q.1) q.2 := by
    intro m
    induction m with
    | zero =>
      intro i acc ρ1 hm hi hI
      have : i = ds.length := by omega
      subst this
      rw [List.drop_length]
      exact ⟨_, rfl, by show I _ (acc ++ []) ρ1; rw [List.append_nil]; exact hI⟩
    | succ m ih =>
      intro i acc ρ1 hm hi hI
      have hlt : i < ds.length := by omega
      rw [List.drop_eq_getElem_cons hlt]
      obtain ⟨ρ2, b1, ⟨b, ρ3⟩, b2, b3, b4⟩ := h3 i ds[i] acc ρ1 (List.getElem?_eq_getElem hlt) hI
      cases b with
      | true =>
        obtain ⟨⟨r, ρ4⟩, c1, ⟨r2, ρ4b⟩, c1b, ⟨y, ρ5⟩, c2, x, c2b, c2c, c3⟩ := b3 rfl
        have et : turn ds[i] ρ1 = some (some (.tuple [x, y]), ρ5) := by
          rw [← ht]
          simp only at c1 c2 c1b c2b
          simp only [b1, b2, c1, c2, c1b, c2b, c2c, Option.bind_some, if_true]
        obtain ⟨⟨ys, ρ6⟩, e1, e2⟩ := ih (i + 1) (acc ++ [.tuple [x, y]]) (wipeR ρ5 vs) (by omega) (by omega) c3
        refine ⟨(.tuple [x, y] :: ys, ρ6), ?_, ?_⟩
        · unfold compF
          simp only [et, e1]
          rfl
        · simpa using e2
      | false =>
        have et : turn ds[i] ρ1 = some (none, ρ3) := by
          rw [← ht]
          simp [b1, b2]
        obtain ⟨⟨ys, ρ6⟩, e1, e2⟩ := ih (i + 1) acc (wipeR ρ3 vs) (by omega) (by omega) (b4 rfl)
        refine ⟨(ys, ρ6), ?_, e2⟩
        unfold compF
        simp only [et, e1]
        rfl
  obtain ⟨⟨ys, ρ6⟩, e1, e2⟩ := go ds.length 0 [] (wipeR ρ1 vs) (by omega) (Nat.zero_le _) h2
  rw [List.drop_zero] at e1
  refine ⟨_, ?_, h4 ys ρ6 (by simpa using e2)⟩
  rw [e1]
  rfl
end
section
variable {G : Sig} {lk n : Nat} {N B C : Rho → Prop} {T : R → Rho → Prop} {ρ : Rho}
theorem gx_set {i : Nat} {a e : E} (h : Gv (look ρ i) fun w0 => w0.1 = true ∧ Gv (ev G e ρ) fun p => Gv (ev G a p.2) fun q => Gv (escR q.2 p.1) fun d => Gv (rdR d.2 q.1) fun x => Gv (look d.2 i) fun w => Gv (setAt w x d.1) fun y => N (d.2.set i (some y))) :
    Gx (Ev.exec G lk n (.setix i a e) ρ) N B C T := by
  obtain ⟨w0, h0, h1, h⟩ := h
  obtain ⟨b0, d0⟩ := w0
  cases h1
  unfold Gx
  simp only [Ev.exec, h0, gv_bind']
  refine h.mono fun p h => h.mono fun q h => h.mono fun d h => h.mono fun x h => ?_
  obtain ⟨w, h1, y, h2, h3⟩ := h
  unfold setAt at h2
  split at h2
  · rw [Option.map_eq_some_iff] at h2
    obtain ⟨k, h4, h5⟩ := h2
    subst h5
    simp only [h1, h4]
    exact gv_some.mpr h3
  · split at h2
    · rename_i c
      cases h2
      simp only [h1, c, if_true]
      exact gv_some.mpr h3
    · cases h2
  · cases h2
theorem gx_aug {i : Nat} {o : O2} {e : E} {x : Int} (h0 : look ρ i = some (false, .int x)) (h : Gv (ev G e ρ) fun p => ∃ y z, rdR p.2 p.1 = some (.int y) ∧ op2 o (.int x) (.int y) = some z ∧ (lk ≤ i ∧ i < p.2.length ∧ (o = .add ∨ o = .sub)) ∧ N (p.2.set i (some (false, z.2)))) :
    Gx (Ev.exec G lk n (.aug i o e) ρ) N B C T := by
  unfold Gx
  simp only [Ev.exec, h0, gv_bind']
  refine h.mono fun p ⟨y, z, h1, h2, h3, h4⟩ => ⟨_, h1, ?_⟩
  simp only [gv_bind']
  refine ⟨_, h2, ?_⟩
  exact gv_if h3 (gv_some.mpr h4)
end
end Ev
namespace Ev
open PySem PySem.Spec PyProof.Rows L2
section
variable {G : Sig} {ρ : Rho} {Φ : R × Rho → Prop} {i : Nat} {d : D} {o : Bool}
theorem gv_var (h : Gv (look ρ i) fun q => Φ (match q.1 with | true => (.loc i, ρ) | false => (.val false q.2, ρ))) : Gv (ev G (.var i) ρ) Φ := by
  obtain ⟨⟨b, d⟩, e, h⟩ := h
  unfold ev
  rw [e]
  cases b with
  | true => exact gv_some.mpr h
  | false => exact gv_some.mpr h
theorem gv_int {z : Int} (h : Φ (.val false (.int z), ρ)) : Gv (ev G (.int z) ρ) Φ := by
  unfold ev
  exact gv_some.mpr h
theorem gv_bl {z : Bool} (h : Φ (.val false (.bool z), ρ)) : Gv (ev G (.bl z) ρ) Φ := by
  unfold ev
  exact gv_some.mpr h
theorem gv_non (h : Φ (.val false .none, ρ)) : Gv (ev G .non ρ) Φ := by
  unfold ev
  exact gv_some.mpr h
theorem gv_cst {x : Str} {z : Int} (h : Φ (.val false (.int z), ρ)) : Gv (ev G (.cst x z) ρ) Φ := by
  unfold ev
  exact gv_some.mpr h
theorem gv_dic1 {k v : Int} (h : Φ (.val true (.dict [(.int k, .int v)]), ρ)) : Gv (ev G (.dic1 k v) ρ) Φ := by
  simp only [ev]
  exact gv_some.mpr h
def tupOf : D → Option (List D)
  | .tuple xs => some xs
  | _ => none
theorem g_tupOf {xs : List D} {Φ : List D → Prop} (h : Φ xs) : Gv (tupOf (.tuple xs)) Φ := ⟨_, rfl, h⟩
theorem gv_rev {a : E} (h : Gv (ev G a ρ) fun p => Gv (rdR p.2 p.1) fun x => Gv (tupOf x) fun xs => Φ (.val false (.tuple xs.reverse), p.2)) : Gv (ev G (.rev a) ρ) Φ := by
  obtain ⟨⟨r, ρ1⟩, e, x, e2, xs, e3, h⟩ := h
  simp only at e2 h
  cases x with
  | tuple ys =>
    cases e3
    simp only [ev, e, Option.bind_eq_bind, Option.bind_some, e2]
    exact gv_some.mpr h
  | _ => cases e3
def ownR : R → Option (List D)
  | .val true (.list xs) => some xs
  | _ => none
theorem g_ownR {xs : List D} {Φ : List D → Prop} (h : Φ xs) : Gv (ownR (.val true (.list xs))) Φ := ⟨_, rfl, h⟩
theorem gv_lrep {a b : E} (h : Gv (ev G a ρ) fun p => Gv (ev G b p.2) fun q => Gv (rdR q.2 q.1) fun y => Gv (ownR p.1) fun xs => Gv (intOf y) fun k => (xs.length ≤ 1000 ∧ -1000 ≤ k ∧ k ≤ 1000) ∧ Φ (.val true (.list (List.replicate k.toNat xs).flatten), q.2)) : Gv (ev G (.lrep a b) ρ) Φ := by
  obtain ⟨⟨ra, ρ1⟩, e, ⟨rb, ρ2⟩, e2, y, e3, xs, e4, k, e5, hc, h⟩ := h
  simp only at e2 e3 e4 h
  have ea : ra = .val true (.list xs) := by
    unfold ownR at e4
    split at e4
    · cases e4; rfl
    · cases e4
  have ey := intOf_inv e5
  subst ea ey
  simp only [ev, e, Option.bind_eq_bind, Option.bind_some, e2, e3, hc, and_self, if_true]
  exact gv_some.mpr h
theorem gv_dnew (h : Φ (.val true (.dict []), ρ)) : Gv (ev G .dnew ρ) Φ := by
  unfold ev
  exact gv_some.mpr h
end
section
variable {α : Type} {ρ : Rho} {i : Nat} {d : D} {o : Bool} {Φ : Bool × D → Prop} {Ψ : D → Prop} {Χ : Bool → Prop} {xs ys : List D} {a b : Int}
theorem gv_eq {α : Type} {x : Option α} {a : α} {Φ : α → Prop} (e : x = some a) (h : Φ a) : Gv x Φ := ⟨a, e, h⟩
theorem lk0 {x : Option (Bool × D)} {r : Rho} : look (x :: r) 0 = x := by
  cases x <;> rfl
theorem lkS {x : Option (Bool × D)} {r : Rho} : look (x :: r) (i + 1) = look r i := rfl
theorem gl_0 {x : Bool × D} {r : Rho} (h : Φ x) : Gv (look (some x :: r) 0) Φ := ⟨x, rfl, h⟩
theorem gl_S {x : Option (Bool × D)} {r : Rho} (h : Gv (look r i) Φ) : Gv (look (x :: r) (i + 1)) Φ := h
theorem gr_val (h : Ψ d) : Gv (rdR ρ (.val o d)) Ψ := ⟨d, rfl, h⟩
theorem gr_loc (h : Gv (look ρ i) fun q => Ψ q.2) : Gv (rdR ρ (.loc i)) Ψ := by
  obtain ⟨q, e, h⟩ := h
  exact ⟨q.2, by simp only [rdR, e, Option.map_some], h⟩
theorem ge_val {Ψ : D × Rho → Prop} (h : Ψ (d, ρ)) : Gv (escR ρ (.val o d)) Ψ := ⟨_, rfl, h⟩
theorem ge_loc {Ψ : D × Rho → Prop} (h : Gv (look ρ i) fun q => Ψ (q.2, ρ.set i (some (false, q.2)))) : Gv (escR ρ (.loc i)) Ψ := by
  obtain ⟨q, e, h⟩ := h
  exact ⟨_, by simp only [escR, e], h⟩
theorem gs_val {lk : Nat} {Ψ : Rho → Prop} (c : lk ≤ i ∧ i < ρ.length) (h : Ψ (ρ.set i (some (o, d)))) : Gv (storeR lk i (.val o d) ρ) Ψ := by
  simp only [storeR]
  exact gv_if c (gv_some.mpr h)
theorem gs_loc {lk j : Nat} {Ψ : Rho → Prop} (c : lk ≤ i ∧ i < ρ.length) (h : Gv (look ρ j) fun q => Ψ ((ρ.set j (some (false, q.2))).set i (some (false, q.2)))) : Gv (storeR lk i (.loc j) ρ) Ψ := by
  obtain ⟨q, e, h⟩ := h
  simp only [storeR, e]
  exact gv_if c (gv_some.mpr h)
theorem grs_nil {Ψ : List D → Prop} (h : Ψ []) : Gv (rdRs ρ []) Ψ := ⟨[], rfl, h⟩
theorem grs_cons {r : R} {rs : List R} {Ψ : List D → Prop} (h : Gv (rdR ρ r) fun d => Gv (rdRs ρ rs) fun ds => Ψ (d :: ds)) : Gv (rdRs ρ (r :: rs)) Ψ := by
  obtain ⟨d, e, ds, e2, h⟩ := h
  exact ⟨_, by simp only [rdRs, e, e2], h⟩
theorem ges_nil {Ψ : List D × Rho → Prop} (h : Ψ ([], ρ)) : Gv (escRs [] ρ) Ψ := ⟨_, rfl, h⟩
theorem ges_cons {r : R} {rs : List R} {Ψ : List D × Rho → Prop} (h : Gv (escR ρ r) fun d => Gv (escRs rs d.2) fun ds => Ψ (d.1 :: ds.1, ds.2)) : Gv (escRs (r :: rs) ρ) Ψ := by
  obtain ⟨d, e, ds, e2, h⟩ := h
  exact ⟨_, by simp only [escRs, e, e2], h⟩
theorem gp_nil {Ψ : Option Int → Prop} (h : Ψ none) : Gv (part []) Ψ := ⟨_, rfl, h⟩
theorem gp_one {Ψ : Option Int → Prop} (h : Ψ (some a)) : Gv (part [.int a]) Ψ := ⟨_, rfl, h⟩
theorem g_slL {lo hi : Option Int} (h : Φ (true, .list (cutD xs lo hi))) : Gv (slice2 (.list xs) lo hi) Φ := ⟨_, rfl, h⟩
theorem g_slT {lo hi : Option Int} (h : Φ (false, .tuple (cutD xs lo hi))) : Gv (slice2 (.tuple xs) lo hi) Φ := ⟨_, rfl, h⟩
theorem g_add (h : Φ (false, .int (a + b))) : Gv (op2 .add (.int a) (.int b)) Φ := ⟨_, rfl, h⟩
theorem g_sub (h : Φ (false, .int (a - b))) : Gv (op2 .sub (.int a) (.int b)) Φ := ⟨_, rfl, h⟩
theorem g_mul (c : a.natAbs.log2 + b.natAbs.log2 < 1000000) (h : Φ (false, .int (a * b))) : Gv (op2 .mul (.int a) (.int b)) Φ := by
  simp only [op2]
  exact gv_if c (gv_some.mpr h)
theorem g_fdiv (c : 0 < b ∧ b.natAbs.log2 < 9000) (h : Φ (false, .int (a / b))) : Gv (op2 .fdiv (.int a) (.int b)) Φ := by
  simp only [op2]
  exact gv_if c (gv_some.mpr h)
theorem g_mod (c : 0 < b) (h : Φ (false, .int (a % b))) : Gv (op2 .mod (.int a) (.int b)) Φ := by
  simp only [op2]
  exact gv_if c (gv_some.mpr h)
theorem g_pow (c : 0 ≤ b ∧ (Builtin.Int.intBits a : Int) * b ≤ 2 ^ 27) (h : Φ (false, .int (a ^ b.toNat))) : Gv (op2 .pow (.int a) (.int b)) Φ := by
  simp only [op2]
  exact gv_if c (gv_some.mpr h)
theorem g_catL (c : xs.length + ys.length ≤ sizeLine) (h : Φ (true, .list (xs ++ ys))) : Gv (op2 .add (.list xs) (.list ys)) Φ := by
  simp only [op2]
  exact gv_if (by simpa [fits] using c) (gv_some.mpr h)
theorem g_catT (c : xs.length + ys.length ≤ sizeLine) (h : Φ (false, .tuple (xs ++ ys))) : Gv (op2 .add (.tuple xs) (.tuple ys)) Φ := by
  simp only [op2]
  exact gv_if (by simpa [fits] using c) (gv_some.mpr h)
theorem g_lt (h : Χ (decide (a < b))) : Gv (cmp2 .lt (.int a) (.int b)) Χ := ⟨_, rfl, h⟩
theorem g_le (h : Χ (decide (a ≤ b))) : Gv (cmp2 .le (.int a) (.int b)) Χ := ⟨_, rfl, h⟩
theorem g_gt (h : Χ (decide (b < a))) : Gv (cmp2 .gt (.int a) (.int b)) Χ := ⟨_, rfl, h⟩
theorem g_ge (h : Χ (decide (b ≤ a))) : Gv (cmp2 .ge (.int a) (.int b)) Χ := ⟨_, rfl, h⟩
theorem g_eq {x y : D} (c : okEq x = true) (c2 : okEq y = true) (h : Χ (PyData.eqv x y)) : Gv (cmp2 .eq x y) Χ := by
  have : cmp2 .eq x y = some (PyData.eqv x y) := by
    have e : (if okEq x && okEq y then some (PyData.eqv x y) else none) = some (PyData.eqv x y) := if_pos (by rw [c, c2]; rfl)
    rw [← e]
    cases x <;> cases y <;> first | rfl | exact (by rw [e]; rfl)
  rw [this]
  exact gv_some.mpr h
theorem g_ne {x y : D} (c : okEq x = true) (c2 : okEq y = true) (h : Χ (!PyData.eqv x y)) : Gv (cmp2 .ne x y) Χ := by
  have : cmp2 .ne x y = some (!PyData.eqv x y) := by
    have e : (if okEq x && okEq y then some (!PyData.eqv x y) else none) = some (!PyData.eqv x y) := if_pos (by rw [c, c2]; rfl)
    rw [← e]
    cases x <;> cases y <;> first | rfl | exact (by rw [e]; rfl)
  rw [this]
  exact gv_some.mpr h
theorem g_eqS {x y : Str} (h : Χ (x == y)) : Gv (cmp2 .eq (.str x) (.str y)) Χ := ⟨_, rfl, h⟩
theorem g_neS {x y : Str} (h : Χ (x != y)) : Gv (cmp2 .ne (.str x) (.str y)) Χ := ⟨_, rfl, h⟩
theorem g_memL {x : D} (c : flatD x = true) (c2 : ys.all flatD = true) (h : Χ (memD x ys)) : Gv (cmp2 .mem x (.list ys)) Χ := by
  have : cmp2 .mem x (.list ys) = if flatD x && ys.all flatD then some (memD x ys) else none := by cases x <;> rfl
  rw [this]
  exact gv_if (by rw [c, c2]; rfl) (gv_some.mpr h)
theorem t_bl {b : Bool} (h : Χ b) : Gv (truth (.bool b)) Χ := ⟨_, rfl, h⟩
theorem t_int (h : Χ (a != 0)) : Gv (truth (.int a)) Χ := ⟨_, rfl, h⟩
theorem t_non (h : Χ false) : Gv (truth .none) Χ := ⟨_, rfl, h⟩
theorem t_lst (h : Χ (!xs.isEmpty)) : Gv (truth (.list xs)) Χ := ⟨_, rfl, h⟩
theorem t_tup (h : Χ (!xs.isEmpty)) : Gv (truth (.tuple xs)) Χ := ⟨_, rfl, h⟩
theorem x_lst (h : Gi (atI xs a) Ψ) : Gv (index2 (.list xs) (.int a)) Ψ := h
theorem x_tup (h : Gi (atI xs a) Ψ) : Gv (index2 (.tuple xs) (.int a)) Ψ := h
theorem x_dic {kvs : List (D × D)} (c : isKey d = true) (h : Gv (dget kvs d) Ψ) : Gv (index2 (.dict kvs) d) Ψ := by
  have : index2 (.dict kvs) d = if isKey d then dget kvs d else none := by cases d <;> rfl
  rw [this]
  exact gv_if c h
theorem p_lenL (h : Φ (false, .int xs.length)) : Gv (prim .len [.list xs]) Φ := ⟨_, rfl, h⟩
theorem p_lenT (h : Φ (false, .int xs.length)) : Gv (prim .len [.tuple xs]) Φ := ⟨_, rfl, h⟩
theorem p_abs (h : Φ (false, .int (if a < 0 then -a else a))) : Gv (prim .abs [.int a]) Φ := ⟨_, rfl, h⟩
theorem p_int (h : Φ (false, .int a)) : Gv (prim .int [.int a]) Φ := ⟨_, rfl, h⟩
theorem p_intB {b : Bool} (h : Φ (false, .int (if b then 1 else 0))) : Gv (prim .int [.bool b]) Φ := ⟨_, rfl, h⟩
theorem p_tupL (h : Φ (false, .tuple xs)) : Gv (prim .tuple [.list xs]) Φ := ⟨_, rfl, h⟩
theorem p_tupT (h : Φ (false, .tuple xs)) : Gv (prim .tuple [.tuple xs]) Φ := ⟨_, rfl, h⟩
theorem p_tupD {kvs : List (D × D)} (h : Φ (false, .tuple (kvs.map (·.1)))) : Gv (prim .tuple [.dict kvs]) Φ := ⟨_, rfl, h⟩
theorem p_dict (c : xs.all isPairK = true) (h : Φ (true, .dict (dputs [] xs))) : Gv (prim .dict [.list xs]) Φ := by
  simp only [prim, c, if_true]
  exact gv_some.mpr h
theorem p_minT {i : Int} {ns : List Int} (e : asInts xs = some ns) (h : Φ (false, .int (minI i ns))) : Gv (prim .min [.tuple (.int i :: xs)]) Φ := by
  simp only [prim, e, Option.map_some]
  exact gv_some.mpr h
theorem p_maxT {i : Int} {ns : List Int} (e : asInts xs = some ns) (h : Φ (false, .int (maxI i ns))) : Gv (prim .max [.tuple (.int i :: xs)]) Φ := by
  simp only [prim, e, Option.map_some]
  exact gv_some.mpr h
theorem p_maxL {i : Int} {ns : List Int} (e : asInts xs = some ns) (h : Φ (false, .int (maxI i ns))) : Gv (prim .max [.list (.int i :: xs)]) Φ := by
  simp only [prim, e, Option.map_some]
  exact gv_some.mpr h
theorem p_str (c : a.natAbs.log2 < 1920) (h : Φ (false, .str (toString a : String))) : Gv (prim .str [.int a]) Φ := by
  simp only [prim, c, if_true]
  exact gv_some.mpr h
theorem g_repT {k : Int} (c : xs.length ≤ 1000 ∧ -1000 ≤ k ∧ k ≤ 1000) (h : Φ (false, .tuple (List.replicate k.toNat xs).flatten)) : Gv (op2 .mul (.tuple xs) (.int k)) Φ := by
  simp only [op2]
  rw [if_pos c]
  exact gv_some.mpr h
theorem p_max2 (h : Φ (false, .int (if b > a then b else a))) : Gv (prim .max2 [.int a, .int b]) Φ := ⟨_, rfl, h⟩
theorem p_min2 (h : Φ (false, .int (if b < a then b else a))) : Gv (prim .min2 [.int a, .int b]) Φ := ⟨_, rfl, h⟩
theorem p_sum {ns : List Int} (e : asInts xs = some ns) (h : Φ (false, .int ns.sum)) : Gv (prim .sum [.list xs]) Φ := by
  simp only [prim, e, Option.map_some, gv_some]
  exact h
theorem p_all {bs : List Bool} (e : asBools xs = some bs) (h : Φ (false, .bool (bs.all id))) : Gv (prim .all [.list xs]) Φ := by
  simp only [prim, e, Option.map_some, gv_some]
  exact h
theorem p_repr (c : showOk d = true) (h : Φ (false, .str d.shown)) : Gv (prim .repr [d]) Φ := by
  simp only [prim, c, if_true, gv_some]
  exact h
theorem p_sortT {ps : List (Int × Int)} (e : asPairs xs = some ps) (c : ps.length ≤ sizeLine) (h : Φ (true, .list ((sortP ps).map pairD))) : Gv (prim .sorted [.tuple xs]) Φ := by
  simp only [prim, e]
  exact gv_if (by simpa [fits] using c) (gv_some.mpr h)
theorem p_sortD {kvs : List (D × D)} {ns : List Int} (e : asInts (kvs.map (·.1)) = some ns) (c : ns.length < 64) (h : Φ (true, .list ((sortI ns).map .int))) : Gv (prim .sorted [.dict kvs]) Φ := by
  simp only [prim, e]
  exact gv_if c (gv_some.mpr h)
theorem b_name {d : D} {Ψ : Rho → Prop} (c : i < ρ.length) (h : Ψ (ρ.set i (some (false, d)))) : Gv (bindT (.name i) d ρ) Ψ := by
  simp only [bindT]
  exact gv_if c (gv_some.mpr h)
theorem b_pair {s t : Tg} {x y : D} {Ψ : Rho → Prop} (h : Gv (bindT s x ρ) fun ρ1 => Gv (bindT t y ρ1) Ψ) : Gv (bindT (.pair s t) (.tuple [x, y]) ρ) Ψ := by
  obtain ⟨ρ1, e, h⟩ := h
  simp only [bindT, e]
  exact h
theorem f_val {m : Bool} {Ξ : (Bool × D) × D → Prop} (h : Gv (Ev.finish m ρ (o, d)) Ξ) : Gv (finR m ρ (.val o d)) Ξ := by
  simp only [finR]
  exact h
theorem f_loc {m : Bool} {Ξ : (Bool × D) × D → Prop} (c : (m && i == 0) = false) (h : Gv (look ρ i) fun q => Gv (Ev.finish m ρ q) Ξ) : Gv (finR m ρ (.loc i)) Ξ := by
  obtain ⟨q, e, h⟩ := h
  simp only [finR, c, e]
  exact h
theorem g_at {d : D} (e : atI xs a = some d) (h : Ψ d) : Gv (atI xs a) Ψ := ⟨d, e, h⟩
theorem g_fn {G : Sig} {f : Str} {F : Fn} {Ψ : Fn → Prop} (e : G.fns f = some F) (h : Ψ F) : Gv (G.fns f) Ψ := ⟨F, e, h⟩
theorem log2_lt {x : Int} (h : x.natAbs < 2 ^ 120) : x.natAbs.log2 < 120 := by
  by_cases e : x.natAbs = 0
  · rw [e]; decide
  · exact (Nat.log2_lt e).mpr h
theorem g_mulS (c : a.natAbs < 2 ^ 120) (c2 : b.natAbs < 2 ^ 120) (h : Φ (false, .int (a * b))) : Gv (op2 .mul (.int a) (.int b)) Φ :=
  g_mul (by have h1 := log2_lt c; have h2 := log2_lt c2; omega) h
theorem g_fdivS (c : 0 < b) (c2 : b < 2 ^ 120) (h : Φ (false, .int (a / b))) : Gv (op2 .fdiv (.int a) (.int b)) Φ :=
  g_fdiv ⟨c, by have h1 := log2_lt (x := b) (by omega); omega⟩ h
theorem mul_lt {x y : Int} {p q : Nat} (h1 : x.natAbs < 2 ^ p) (h2 : y.natAbs < 2 ^ q) : (x * y).natAbs < 2 ^ (p + q) := by
  rw [Int.natAbs_mul, Nat.pow_add]
  exact Nat.mul_lt_mul'' h1 h2
theorem f_no {p : Bool × D} {Ξ : (Bool × D) × D → Prop} (h : Ξ (p, .none)) : Gv (Ev.finish false ρ p) Ξ := ⟨_, rfl, h⟩
theorem f_yes {p : Bool × D} {s : D} {r : Rho} {Ξ : (Bool × D) × D → Prop} (h : Ξ (p, s)) : Gv (Ev.finish true (some (true, s) :: r) p) Ξ := ⟨_, rfl, h⟩
end
theorem g_append {xs : List D} {y : D} {Ψ : D × List D → Prop} (c : xs.length < sizeLine) (h : Ψ (.none, xs ++ [y])) : Gv (meth .append xs [y]) Ψ := by
  simp only [meth]
  exact gv_if c (gv_some.mpr h)
theorem g_extend {xs ys : List D} {Ψ : D × List D → Prop} (c : xs.length + ys.length ≤ sizeLine) (h : Ψ (.none, xs ++ ys)) : Gv (meth .extend xs [.list ys]) Ψ := by
  simp only [meth]
  exact gv_if (by simpa [fits] using c) (gv_some.mpr h)
theorem ixN_nat {n i : Nat} (h : i < n) : ixN n (i : Int) = some i := by
  unfold ixN
  rw [if_pos (by omega), if_pos (by omega), Int.toNat_natCast]
theorem ixN_int {n : Nat} {z : Int} (h0 : 0 ≤ z) (h : z < n) : ixN n z = some z.toNat := by
  have : z = ((z.toNat : Nat) : Int) := (Int.toNat_of_nonneg h0).symm
  rw [this, ixN_nat (by omega), Int.toNat_natCast]
theorem g_pop {xs : List D} {z : Int} {y : D} {Ψ : D × List D → Prop} (h0 : 0 ≤ z) (h : z < xs.length) (e : xs[z.toNat]? = some y) (q : Ψ (y, xs.eraseIdx z.toNat)) : Gv (meth .popAt xs [.int z]) Ψ := by
  simp only [meth, ixN_int h0 h, e]
  exact gv_some.mpr q
theorem gi_ix {xs : List D} {z : Int} {y : D} {Ψ : D → Prop} (h0 : 0 ≤ z) (h : z < xs.length) (e : xs[z.toNat]? = some y) (q : Ψ y) : Gi (atI xs z) Ψ := by
  refine gi_of ?_ q
  unfold atI
  rw [ixN_int h0 h]
  exact e
theorem gi_last {xs : List D} {y : D} {Ψ : D → Prop} (h : 0 < xs.length) (e : xs[xs.length - 1]? = some y) (q : Ψ y) : Gi (atI xs (-1)) Ψ := by
  refine gi_of ?_ q
  unfold atI
  rw [show ixN xs.length (-1) = some (xs.length - 1) by
    unfold ixN
    rw [if_neg (by omega), if_pos (by omega)]
    congr 1
    omega]
  exact e
theorem asInts_map : ∀ ns : List Int, asInts (ns.map .int) = some ns
  | [] => rfl
  | n :: ns => by simp only [List.map_cons, asInts, asInts_map ns, Option.map_some]
theorem cut_from (xs : List D) (i : Nat) : cutD xs (some (i : Int)) none = xs.drop i := by
  unfold cutD
  rw [show HT.sIx xs.length 0 (some (i : Int)) = min i xs.length from HT.sIx_nat xs.length 0 i, HT.sIx_none]
  by_cases h : i ≤ xs.length
  · rw [Nat.min_eq_left h]
    exact List.take_of_length_le (by rw [List.length_drop]; exact Nat.le_refl _)
  · rw [Nat.min_eq_right (by omega), List.drop_length, List.drop_eq_nil_of_le (by omega)]
    simp
theorem cut_to (xs : List D) (i : Nat) : cutD xs none (some (i : Int)) = xs.take i := by
  unfold cutD
  rw [show HT.sIx xs.length xs.length (some (i : Int)) = min i xs.length from HT.sIx_nat xs.length xs.length i, HT.sIx_none]
  rw [List.drop_zero, Nat.sub_zero]
  by_cases h : i ≤ xs.length
  · rw [Nat.min_eq_left h]
  · rw [Nat.min_eq_right (by omega), List.take_length, List.take_of_length_le (by omega)]
theorem Gx.fin {x : Option Out} {N B C : Rho → Prop} {T : R → Rho → Prop} (h : Gx x (fun _ => False) (fun _ => False) (fun _ => False) T) : Gx x N B C T :=
  h.mono (fun _ z => z.elim) (fun _ z => z.elim) (fun _ z => z.elim) fun _ _ z => z
end Ev
set_option Elab.async false
set_option linter.all false
set_option maxRecDepth 100000
/-! Ev: the steps of runs, found by what is to be run. -/
namespace Ev
open PySem PySem.Spec PyProof.Rows L2
class Stp1 (p : Prop) (q : outParam Prop) : Prop where
  h : q → p
theorem mkS {p q : Prop} (h : q → p) : Stp1 p q := ⟨h⟩
instance i_gx_cons : ∀ {G : Sig} {lk n : Nat} {N B C : Rho → Prop} {T : R → Rho → Prop} {ρ : Rho} {s : S} {ss : Ss}, Stp1 (Gx (execs G lk n (Ss.cons s ss) ρ) N B C T) (Gx (exec G lk n s ρ) (fun ρ1 => Gx (execs G lk n ss ρ1) N B C T) B C T) := mkS gx_cons.mpr
instance i_gx_nil : ∀ {G : Sig} {lk n : Nat} {N B C : Rho → Prop} {T : R → Rho → Prop} {ρ : Rho}, Stp1 (Gx (execs G lk n Ss.nil ρ) N B C T) (N ρ) := mkS gx_nil.mpr
instance i_gx_asg : ∀ {G : Sig} {lk n : Nat} {N B C : Rho → Prop} {T : R → Rho → Prop} {ρ : Rho} {i : Nat} {e : E}, Stp1 (Gx (exec G lk n (S.asg i e) ρ) N B C T) (Gv (ev G e ρ) fun p => Gv (storeR lk i p.fst p.snd) N) := mkS gx_asg.mpr
instance i_gx_asgT : ∀ {G : Sig} {lk n : Nat} {N B C : Rho → Prop} {T : R → Rho → Prop} {ρ : Rho} {t : Tg} {e : E}, Stp1 (Gx (exec G lk n (S.asgT t e) ρ) N B C T) (Gv (ev G e ρ) fun p => Gv (escR p.snd p.fst) fun q => ((tgs t).all fun i => decide (lk ≤ i)) = true ∧ Gv (bindT t q.fst q.snd) N) := mkS gx_asgT.mpr
instance i_gx_par : ∀ {G : Sig} {lk n : Nat} {N B C : Rho → Prop} {T : R → Rho → Prop} {ρ : Rho} {i j : Nat} {a b : E}, Stp1 (Gx (exec G lk n (S.par i j a b) ρ) N B C T) (Gv (ev G a ρ) fun p => Gv (ev G b p.snd) fun q => (isLocR p.fst || isLocR q.fst) = false ∧ Gv (storeR lk i p.fst q.snd) fun ρ1 => Gv (storeR lk j q.fst ρ1) N) := mkS gx_par.mpr
instance i_gx_parT : ∀ {G : Sig} {lk n : Nat} {N B C : Rho → Prop} {T : R → Rho → Prop} {ρ : Rho} {i j : Nat} {a b : E}, Stp1 (Gx (exec G lk n (S.parT i j a b) ρ) N B C T) (Gv (ev G a ρ) fun p => Gv (ev G b p.snd) fun q => (isLocR p.fst || isLocR q.fst) = false ∧ Gv (storeR lk i p.fst q.snd) fun ρ1 => Gv (storeR lk j q.fst ρ1) N) := mkS gx_parT.mpr
instance i_gx_expr : ∀ {G : Sig} {lk n : Nat} {N B C : Rho → Prop} {T : R → Rho → Prop} {ρ : Rho} {e : E}, Stp1 (Gx (exec G lk n (S.expr e) ρ) N B C T) (Gv (ev G e ρ) fun p => N p.snd) := mkS gx_expr.mpr
instance i_gx_ret : ∀ {G : Sig} {lk n : Nat} {N B C : Rho → Prop} {T : R → Rho → Prop} {ρ : Rho} {e : E}, Stp1 (Gx (exec G lk n (S.ret e) ρ) N B C T) (Gv (ev G e ρ) fun p => T p.fst p.snd) := mkS gx_ret.mpr
instance i_gx_retN : ∀ {G : Sig} {lk n : Nat} {N B C : Rho → Prop} {T : R → Rho → Prop} {ρ : Rho}, Stp1 (Gx (exec G lk n S.retN ρ) N B C T) (T (R.val false PyData.none) ρ) := mkS gx_retN.mpr
instance i_gx_pass : ∀ {G : Sig} {lk n : Nat} {N B C : Rho → Prop} {T : R → Rho → Prop} {ρ : Rho}, Stp1 (Gx (exec G lk n S.pass ρ) N B C T) (N ρ) := mkS gx_pass.mpr
instance i_gx_ifs : ∀ {G : Sig} {lk n : Nat} {N B C : Rho → Prop} {T : R → Rho → Prop} {ρ : Rho} {c : Te} {a b : Ss}, Stp1 (Gx (exec G lk n (S.ifs c a b) ρ) N B C T) (Gv (evT G c ρ) fun p => (p.fst = true → Gx (execs G lk n a p.snd) N B C T) ∧ (p.fst = false → Gx (execs G lk n b p.snd) N B C T)) := mkS gx_ifs.mpr
instance i_gx_set : ∀ {G : Sig} {lk n : Nat} {N B C : Rho → Prop} {T : R → Rho → Prop} {ρ : Rho} {i : Nat} {a e : E}, Stp1 (Gx (exec G lk n (S.setix i a e) ρ) N B C T) ((Gv (look ρ i) fun w0 => w0.fst = true ∧ Gv (ev G e ρ) fun p => Gv (ev G a p.snd) fun q => Gv (escR q.snd p.fst) fun d => Gv (rdR d.snd q.fst) fun x => Gv (look d.snd i) fun w => Gv (setAt w x d.fst) fun y => N (List.set d.snd i (some y)))) := mkS gx_set
instance i_g_setL : ∀ {xs : List D} {z : Int} {d : D} {Φ : Bool × D → Prop}, Stp1 (Gv (setAt (true, PyData.list xs) (PyData.int z) d) Φ) ((Gi (ixN xs.length z) fun k => Φ (true, PyData.list (xs.set k d)))) := mkS g_setL
instance i_g_own : ∀ {xs : List D} {Φ : List D → Prop}, Stp1 (Gv (ownL (true, PyData.list xs)) Φ) (Φ xs) := mkS g_own
instance i_gv_callm : ∀ {G : Sig} {ρ : Rho} {Φ : R × Rho → Prop} {f : Str} {i : Nat} {es : Es}, Stp1 (Gv (ev G (E.callm f i es) ρ) Φ) ((Gv (look ρ i) fun w => Gv (ownL w) fun x => Gv (evs G es ρ) fun q => Gv (rdRs q.snd q.fst) fun ds => Gi (G.fns f) fun F => Gv (look q.snd i) fun w => Gv (ownL w) fun xs => Gv (F.fn (PyData.list xs :: ds)) fun r => Gv (ownL (true, r.snd)) fun ys => F.chg = true ∧ q.fst.any isLocR = false ∧ froz.frozs ys = true ∧ Φ (R.val r.fst.fst r.fst.snd, List.set q.snd i (some (true, PyData.list ys))))) := mkS gv_callm
instance i_gv_meth : ∀ {G : Sig} {ρ : Rho} {Φ : R × Rho → Prop} {m : Mt} {i : Nat} {es : Es}, Stp1 (Gv (ev G (E.meth m i es) ρ) Φ) ((Gv (look ρ i) fun w => Gv (ownL w) fun x => Gv (evs G es ρ) fun q => Gv (escRs q.fst q.snd) fun ds => Gv (look ds.snd i) fun w => Gv (ownL w) fun xs => Gv (meth m xs ds.fst) fun r => Φ (R.val false r.fst, List.set ds.snd i (some (true, PyData.list r.snd))))) := mkS gv_meth
instance i_gv_op : ∀ {G : Sig} {ρ : Rho} {Φ : R × Rho → Prop} {o : O2} {a b : E}, Stp1 (Gv (ev G (E.op o a b) ρ) Φ) ((Gv (ev G a ρ) fun p => Gv (ev G b p.snd) fun q => Gv (rdR q.snd p.fst) fun x => Gv (rdR q.snd q.fst) fun y => Gv (op2 o x y) fun r => Φ (R.val r.fst r.snd, q.snd))) := mkS gv_op
instance i_gv_neg : ∀ {G : Sig} {ρ : Rho} {Φ : R × Rho → Prop} {a : E}, Stp1 (Gv (ev G a.neg ρ) Φ) ((Gv (ev G a ρ) fun p => Gv (rdR p.snd p.fst) fun x => Gv (intOf x) fun i => Φ (R.val false (PyData.int (-i)), p.snd))) := mkS gv_neg
instance i_gv_not : ∀ {G : Sig} {ρ : Rho} {Φ : R × Rho → Prop} {a : E}, Stp1 (Gv (ev G a.not ρ) Φ) ((Gv (ev G a ρ) fun p => Gv (rdR p.snd p.fst) fun x => Gv (truth x) fun t => Φ (R.val false (PyData.bool !t), p.snd))) := mkS gv_not
instance i_gv_and : ∀ {G : Sig} {ρ : Rho} {Φ : R × Rho → Prop} {a b : E}, Stp1 (Gv (ev G (a.and b) ρ) Φ) ((Gv (ev G a ρ) fun p => Gv (escR p.snd p.fst) fun x => Gv (truth x.fst) fun t => (t = true → Gv (ev G b x.snd) Φ) ∧ (t = false → Φ (R.val false x.fst, x.snd)))) := mkS gv_and
instance i_gv_or : ∀ {G : Sig} {ρ : Rho} {Φ : R × Rho → Prop} {a b : E}, Stp1 (Gv (ev G (a.or b) ρ) Φ) ((Gv (ev G a ρ) fun p => Gv (escR p.snd p.fst) fun x => Gv (truth x.fst) fun t => (t = true → Φ (R.val false x.fst, x.snd)) ∧ (t = false → Gv (ev G b x.snd) Φ))) := mkS gv_or
instance i_gv_cmp : ∀ {G : Sig} {ρ : Rho} {Φ : R × Rho → Prop} {c : C2} {a b : E}, Stp1 (Gv (ev G (E.cmp c a b) ρ) Φ) ((Gv (ev G a ρ) fun p => Gv (ev G b p.snd) fun q => Gv (rdR q.snd p.fst) fun x => Gv (rdR q.snd q.fst) fun y => Gv (cmp2 c x y) fun r => Φ (R.val false (PyData.bool r), q.snd))) := mkS gv_cmp
instance i_gv_chain : ∀ {G : Sig} {ρ : Rho} {Φ : R × Rho → Prop} {c d : C2} {a b e : E}, Stp1 (Gv (ev G (E.chain c d a b e) ρ) Φ) ((Gv (ev G a ρ) fun p => Gv (ev G b p.snd) fun q => Gv (rdR q.snd p.fst) fun x => Gv (rdR q.snd q.fst) fun y => Gv (cmp2 c x y) fun r => (r = true → Gv (ev G e q.snd) fun s => Gv (rdR s.snd q.fst) fun y => Gv (rdR s.snd s.fst) fun z => Gv (cmp2 d y z) fun r => Φ (R.val false (PyData.bool r), s.snd)) ∧ (r = false → Φ (R.val false (PyData.bool false), q.snd)))) := mkS gv_chain
instance i_gv_isC : ∀ {G : Sig} {ρ : Rho} {Φ : R × Rho → Prop} {ng : Bool} {a : E}, Stp1 (Gv (ev G (E.isC ng a) ρ) Φ) ((Gv (ev G a ρ) fun p => Gv (rdR p.snd p.fst) fun x => Φ (R.val false (PyData.bool (match x with | PyData.none => !ng | x => ng)), p.snd))) := mkS gv_isC
instance i_gv_iteE : ∀ {G : Sig} {ρ : Rho} {Φ : R × Rho → Prop} {c : Te} {a b : E}, Stp1 (Gv (ev G (E.ite c a b) ρ) Φ) ((Gv (evT G c ρ) fun p => (p.fst = true → Gv (ev G a p.snd) Φ) ∧ (p.fst = false → Gv (ev G b p.snd) Φ))) := mkS gv_iteE
instance i_gv_tup : ∀ {G : Sig} {ρ : Rho} {Φ : R × Rho → Prop} {es : Es}, Stp1 (Gv (ev G (E.tup es) ρ) Φ) ((Gv (evs G es ρ) fun p => Gv (escRs p.fst p.snd) fun q => q.fst.length ≤ sizeLine ∧ Φ (R.val false (PyData.tuple q.fst), q.snd))) := mkS gv_tup
instance i_gv_lst : ∀ {G : Sig} {ρ : Rho} {Φ : R × Rho → Prop} {es : Es}, Stp1 (Gv (ev G (E.lst es) ρ) Φ) ((Gv (evs G es ρ) fun p => Gv (escRs p.fst p.snd) fun q => q.fst.length ≤ sizeLine ∧ Φ (R.val true (PyData.list q.fst), q.snd))) := mkS gv_lst
instance i_gv_ix : ∀ {G : Sig} {ρ : Rho} {Φ : R × Rho → Prop} {a b : E}, Stp1 (Gv (ev G (a.ix b) ρ) Φ) ((Gv (ev G a ρ) fun p => Gv (ev G b p.snd) fun q => Gv (rdR q.snd p.fst) fun x => Gv (rdR q.snd q.fst) fun y => Gv (index2 x y) fun r => Φ (R.val false r, q.snd))) := mkS gv_ix
instance i_gv_sl : ∀ {G : Sig} {ρ : Rho} {Φ : R × Rho → Prop} {a : E} {lo hi : Es}, Stp1 (Gv (ev G (a.sl lo hi) ρ) Φ) ((Gv (ev G a ρ) fun p => Gv (evs G lo p.snd) fun q => Gv (rdRs q.snd q.fst) fun l => Gv (part l) fun l' => Gv (evs G hi q.snd) fun u => Gv (rdRs u.snd u.fst) fun m => Gv (part m) fun m' => Gv (rdR u.snd p.fst) fun x => Gv (slice2 x l' m') fun r => Φ (R.val r.fst r.snd, u.snd))) := mkS gv_sl
instance i_gv_prim : ∀ {G : Sig} {ρ : Rho} {Φ : R × Rho → Prop} {p : Pm} {es : Es}, Stp1 (Gv (ev G (E.prim p es) ρ) Φ) ((Gv (evs G es ρ) fun q => Gv (rdRs q.snd q.fst) fun ds => Gv (prim p ds) fun r => Φ (R.val r.fst r.snd, q.snd))) := mkS gv_prim
instance i_gv_isi : ∀ {G : Sig} {ρ : Rho} {Φ : R × Rho → Prop} {a : E} {ty : String}, Stp1 (Gv (ev G (a.isi ty) ρ) Φ) ((Gv (ev G a ρ) fun p => Gv (rdR p.snd p.fst) fun x => Φ (R.val false (PyData.bool (isiD x ty)), p.snd))) := mkS gv_isi
instance i_gv_maxd : ∀ {G : Sig} {ρ : Rho} {Φ : R × Rho → Prop} {a : E}, Stp1 (Gv (ev G a.maxd ρ) Φ) ((Gv (ev G a ρ) fun p => Gv (rdR p.snd p.fst) fun x => Gv (maxdD x) fun r => Φ (R.val false r, p.snd))) := mkS gv_maxd
instance i_gv_maxe : ∀ {G : Sig} {ρ : Rho} {Φ : R × Rho → Prop} {a b : E}, Stp1 (Gv (ev G (a.maxe b) ρ) Φ) ((Gv (ev G a ρ) fun p => Gv (ev G b p.snd) fun p2 => Gv (escR p2.snd p2.fst) fun y => Gv (rdR y.snd p.fst) fun x => Gv (maxeD x y.fst) fun r => Φ (R.val false r, y.snd))) := mkS gv_maxe
instance i_gv_call : ∀ {G : Sig} {ρ : Rho} {Φ : R × Rho → Prop} {f : Str} {es : Es}, Stp1 (Gv (ev G (E.call f es) ρ) Φ) ((Gv (evs G es ρ) fun q => Gv (rdRs q.snd q.fst) fun ds => Gi (G.fns f) fun F => Gv (F.fn ds) fun r => F.chg = false ∧ (q.fst.any isLocR && !frozR r.fst) = false ∧ Φ (R.val r.fst.fst r.fst.snd, q.snd))) := mkS gv_call
instance i_gv_var : ∀ {G : Sig} {ρ : Rho} {Φ : R × Rho → Prop} {i : Nat}, Stp1 (Gv (ev G (E.var i) ρ) Φ) ((Gv (look ρ i) fun q => Φ (match q.fst with | true => (R.loc i, ρ) | false => (R.val false q.snd, ρ)))) := mkS gv_var
instance i_gv_int : ∀ {G : Sig} {ρ : Rho} {Φ : R × Rho → Prop} {z : Int}, Stp1 (Gv (ev G (E.int z) ρ) Φ) (Φ (R.val false (PyData.int z), ρ)) := mkS gv_int
instance i_gv_bl : ∀ {G : Sig} {ρ : Rho} {Φ : R × Rho → Prop} {z : Bool}, Stp1 (Gv (ev G (E.bl z) ρ) Φ) (Φ (R.val false (PyData.bool z), ρ)) := mkS gv_bl
instance i_gv_non : ∀ {G : Sig} {ρ : Rho} {Φ : R × Rho → Prop}, Stp1 (Gv (ev G E.non ρ) Φ) (Φ (R.val false PyData.none, ρ)) := mkS gv_non
instance i_gv_cst : ∀ {G : Sig} {ρ : Rho} {Φ : R × Rho → Prop} {x : Str} {z : Int}, Stp1 (Gv (ev G (E.cst x z) ρ) Φ) (Φ (R.val false (PyData.int z), ρ)) := mkS gv_cst
instance i_gv_dnew : ∀ {G : Sig} {ρ : Rho} {Φ : R × Rho → Prop}, Stp1 (Gv (ev G E.dnew ρ) Φ) (Φ (R.val true (PyData.dict []), ρ)) := mkS gv_dnew
instance i_gv_dic1 : ∀ {G : Sig} {ρ : Rho} {Φ : R × Rho → Prop} {k v : Int}, Stp1 (Gv (ev G (E.dic1 k v) ρ) Φ) (Φ (R.val true (PyData.dict [(PyData.int k, PyData.int v)]), ρ)) := mkS gv_dic1
instance i_gv_rev : ∀ {G : Sig} {ρ : Rho} {Φ : R × Rho → Prop} {a : E}, Stp1 (Gv (ev G a.rev ρ) Φ) ((Gv (ev G a ρ) fun p => Gv (rdR p.snd p.fst) fun x => Gv (tupOf x) fun xs => Φ (R.val false (PyData.tuple xs.reverse), p.snd))) := mkS gv_rev
instance i_g_tupOf : ∀ {xs : List D} {Φ : List D → Prop}, Stp1 (Gv (tupOf (PyData.tuple xs)) Φ) (Φ xs) := mkS g_tupOf
instance i_gv_lrep : ∀ {G : Sig} {ρ : Rho} {Φ : R × Rho → Prop} {a b : E}, Stp1 (Gv (ev G (a.lrep b) ρ) Φ) ((Gv (ev G a ρ) fun p => Gv (ev G b p.snd) fun q => Gv (rdR q.snd q.fst) fun y => Gv (ownR p.fst) fun xs => Gv (intOf y) fun k => (xs.length ≤ 1000 ∧ -1000 ≤ k ∧ k ≤ 1000) ∧ Φ (R.val true (PyData.list (List.replicate k.toNat xs).flatten), q.snd))) := mkS gv_lrep
instance i_g_ownR : ∀ {xs : List D} {Φ : List D → Prop}, Stp1 (Gv (ownR (R.val true (PyData.list xs))) Φ) (Φ xs) := mkS g_ownR
instance i_gv_nil : ∀ {G : Sig} {ρ : Rho} {Ψ : List R × Rho → Prop}, Stp1 (Gv (evs G Es.nil ρ) Ψ) (Ψ ([], ρ)) := mkS gv_nil
instance i_gv_cons : ∀ {G : Sig} {ρ : Rho} {e : E} {es : Es} {Ψ : List R × Rho → Prop}, Stp1 (Gv (evs G (Es.cons e es) ρ) Ψ) ((Gv (ev G e ρ) fun p => Gv (evs G es p.snd) fun q => Ψ (p.fst :: q.fst, q.snd))) := mkS gv_cons
instance i_gt_val : ∀ {G : Sig} {ρ : Rho} {e : E} {Ψ : Bool × Rho → Prop}, Stp1 (Gv (evT G (Te.val e) ρ) Ψ) ((Gv (ev G e ρ) fun p => Gv (rdR p.snd p.fst) fun x => Gv (truth x) fun t => Ψ (t, p.snd))) := mkS gt_val
instance i_gt_not : ∀ {G : Sig} {ρ : Rho} {t : Te} {Ψ : Bool × Rho → Prop}, Stp1 (Gv (evT G t.not ρ) Ψ) ((Gv (evT G t ρ) fun p => Ψ (!p.fst, p.snd))) := mkS gt_not
instance i_gt_and : ∀ {G : Sig} {ρ : Rho} {t u : Te} {Ψ : Bool × Rho → Prop}, Stp1 (Gv (evT G (t.and u) ρ) Ψ) ((Gv (evT G t ρ) fun p => (p.fst = true → Gv (evT G u p.snd) Ψ) ∧ (p.fst = false → Ψ (false, p.snd)))) := mkS gt_and
instance i_gt_or : ∀ {G : Sig} {ρ : Rho} {t u : Te} {Ψ : Bool × Rho → Prop}, Stp1 (Gv (evT G (t.or u) ρ) Ψ) ((Gv (evT G t ρ) fun p => (p.fst = true → Ψ (true, p.snd)) ∧ (p.fst = false → Gv (evT G u p.snd) Ψ))) := mkS gt_or
instance i_gc_nil : ∀ {G : Sig} {ρ : Rho} {Ψ : Bool × Rho → Prop}, Stp1 (Gv (evC G Tes.nil ρ) Ψ) (Ψ (true, ρ)) := mkS gc_nil
instance i_gc_one : ∀ {G : Sig} {ρ : Rho} {t : Te} {Ψ : Bool × Rho → Prop}, Stp1 (Gv (evC G (Tes.one t) ρ) Ψ) (Gv (evT G t ρ) Ψ) := mkS gc_one
instance i_gl_0 : ∀ {Φ : Bool × D → Prop} {x : Bool × D} {r : Rho}, Stp1 (Gv (look (some x :: r) 0) Φ) (Φ x) := mkS gl_0
instance i_gl_S : ∀ {i : Nat} {Φ : Bool × D → Prop} {x : Option (Bool × D)} {r : Rho}, Stp1 (Gv (look (x :: r) (i + 1)) Φ) (Gv (look r i) Φ) := mkS gl_S
instance i_gr_val : ∀ {ρ : Rho} {d : D} {o : Bool} {Ψ : D → Prop}, Stp1 (Gv (rdR ρ (R.val o d)) Ψ) (Ψ d) := mkS gr_val
instance i_gr_loc : ∀ {ρ : Rho} {i : Nat} {Ψ : D → Prop}, Stp1 (Gv (rdR ρ (R.loc i)) Ψ) ((Gv (look ρ i) fun q => Ψ q.snd)) := mkS gr_loc
instance i_ge_val : ∀ {ρ : Rho} {d : D} {o : Bool} {Ψ : D × Rho → Prop}, Stp1 (Gv (escR ρ (R.val o d)) Ψ) (Ψ (d, ρ)) := mkS ge_val
instance i_ge_loc : ∀ {ρ : Rho} {i : Nat} {Ψ : D × Rho → Prop}, Stp1 (Gv (escR ρ (R.loc i)) Ψ) ((Gv (look ρ i) fun q => Ψ (q.snd, List.set ρ i (some (false, q.snd))))) := mkS ge_loc
instance i_grs_nil : ∀ {ρ : Rho} {Ψ : List D → Prop}, Stp1 (Gv (rdRs ρ []) Ψ) (Ψ []) := mkS grs_nil
instance i_grs_cons : ∀ {ρ : Rho} {r : R} {rs : List R} {Ψ : List D → Prop}, Stp1 (Gv (rdRs ρ (r :: rs)) Ψ) ((Gv (rdR ρ r) fun d => Gv (rdRs ρ rs) fun ds => Ψ (d :: ds))) := mkS grs_cons
instance i_ges_nil : ∀ {ρ : Rho} {Ψ : List D × Rho → Prop}, Stp1 (Gv (escRs [] ρ) Ψ) (Ψ ([], ρ)) := mkS ges_nil
instance i_ges_cons : ∀ {ρ : Rho} {r : R} {rs : List R} {Ψ : List D × Rho → Prop}, Stp1 (Gv (escRs (r :: rs) ρ) Ψ) ((Gv (escR ρ r) fun d => Gv (escRs rs d.snd) fun ds => Ψ (d.fst :: ds.fst, ds.snd))) := mkS ges_cons
instance i_gp_nil : ∀ {Ψ : Option Int → Prop}, Stp1 (Gv (part []) Ψ) (Ψ none) := mkS gp_nil
instance i_gp_one : ∀ {a : Int} {Ψ : Option Int → Prop}, Stp1 (Gv (part [PyData.int a]) Ψ) (Ψ (some a)) := mkS gp_one
instance i_g_slL : ∀ {Φ : Bool × D → Prop} {xs : List D} {lo hi : Option Int}, Stp1 (Gv (slice2 (PyData.list xs) lo hi) Φ) (Φ (true, PyData.list (cutD xs lo hi))) := mkS g_slL
instance i_g_slT : ∀ {Φ : Bool × D → Prop} {xs : List D} {lo hi : Option Int}, Stp1 (Gv (slice2 (PyData.tuple xs) lo hi) Φ) (Φ (false, PyData.tuple (cutD xs lo hi))) := mkS g_slT
instance i_g_add : ∀ {Φ : Bool × D → Prop} {a b : Int}, Stp1 (Gv (op2 O2.add (PyData.int a) (PyData.int b)) Φ) (Φ (false, PyData.int (a + b))) := mkS g_add
instance i_g_sub : ∀ {Φ : Bool × D → Prop} {a b : Int}, Stp1 (Gv (op2 O2.sub (PyData.int a) (PyData.int b)) Φ) (Φ (false, PyData.int (a - b))) := mkS g_sub
instance i_g_lt : ∀ {Χ : Bool → Prop} {a b : Int}, Stp1 (Gv (cmp2 C2.lt (PyData.int a) (PyData.int b)) Χ) (Χ (decide (a < b))) := mkS g_lt
instance i_g_le : ∀ {Χ : Bool → Prop} {a b : Int}, Stp1 (Gv (cmp2 C2.le (PyData.int a) (PyData.int b)) Χ) (Χ (decide (a ≤ b))) := mkS g_le
instance i_g_gt : ∀ {Χ : Bool → Prop} {a b : Int}, Stp1 (Gv (cmp2 C2.gt (PyData.int a) (PyData.int b)) Χ) (Χ (decide (b < a))) := mkS g_gt
instance i_g_ge : ∀ {Χ : Bool → Prop} {a b : Int}, Stp1 (Gv (cmp2 C2.ge (PyData.int a) (PyData.int b)) Χ) (Χ (decide (b ≤ a))) := mkS g_ge
instance i_t_bl : ∀ {Χ : Bool → Prop} {b : Bool}, Stp1 (Gv (truth (PyData.bool b)) Χ) (Χ b) := mkS t_bl
instance i_t_int : ∀ {Χ : Bool → Prop} {a : Int}, Stp1 (Gv (truth (PyData.int a)) Χ) (Χ (a != 0)) := mkS t_int
instance i_t_non : ∀ {Χ : Bool → Prop}, Stp1 (Gv (truth PyData.none) Χ) (Χ false) := mkS t_non
instance i_t_lst : ∀ {Χ : Bool → Prop} {xs : List D}, Stp1 (Gv (truth (PyData.list xs)) Χ) (Χ !xs.isEmpty) := mkS t_lst
instance i_t_tup : ∀ {Χ : Bool → Prop} {xs : List D}, Stp1 (Gv (truth (PyData.tuple xs)) Χ) (Χ !xs.isEmpty) := mkS t_tup
instance i_x_lst : ∀ {Ψ : D → Prop} {xs : List D} {a : Int}, Stp1 (Gv (index2 (PyData.list xs) (PyData.int a)) Ψ) (Gi (atI xs a) Ψ) := mkS x_lst
instance i_x_tup : ∀ {Ψ : D → Prop} {xs : List D} {a : Int}, Stp1 (Gv (index2 (PyData.tuple xs) (PyData.int a)) Ψ) (Gi (atI xs a) Ψ) := mkS x_tup
instance i_p_lenL : ∀ {Φ : Bool × D → Prop} {xs : List D}, Stp1 (Gv (prim Pm.len [PyData.list xs]) Φ) (Φ (false, PyData.int ↑xs.length)) := mkS p_lenL
instance i_p_lenT : ∀ {Φ : Bool × D → Prop} {xs : List D}, Stp1 (Gv (prim Pm.len [PyData.tuple xs]) Φ) (Φ (false, PyData.int ↑xs.length)) := mkS p_lenT
instance i_p_abs : ∀ {Φ : Bool × D → Prop} {a : Int}, Stp1 (Gv (prim Pm.abs [PyData.int a]) Φ) (Φ (false, PyData.int (if a < 0 then -a else a))) := mkS p_abs
instance i_p_int : ∀ {Φ : Bool × D → Prop} {a : Int}, Stp1 (Gv (prim Pm.int [PyData.int a]) Φ) (Φ (false, PyData.int a)) := mkS p_int
instance i_p_intB : ∀ {Φ : Bool × D → Prop} {b : Bool}, Stp1 (Gv (prim Pm.int [PyData.bool b]) Φ) (Φ (false, PyData.int (if b = true then 1 else 0))) := mkS p_intB
instance i_p_tupL : ∀ {Φ : Bool × D → Prop} {xs : List D}, Stp1 (Gv (prim Pm.tuple [PyData.list xs]) Φ) (Φ (false, PyData.tuple xs)) := mkS p_tupL
instance i_p_tupT : ∀ {Φ : Bool × D → Prop} {xs : List D}, Stp1 (Gv (prim Pm.tuple [PyData.tuple xs]) Φ) (Φ (false, PyData.tuple xs)) := mkS p_tupT
instance i_p_max2 : ∀ {Φ : Bool × D → Prop} {a b : Int}, Stp1 (Gv (prim Pm.max2 [PyData.int a, PyData.int b]) Φ) (Φ (false, PyData.int (if b > a then b else a))) := mkS p_max2
instance i_p_min2 : ∀ {Φ : Bool × D → Prop} {a b : Int}, Stp1 (Gv (prim Pm.min2 [PyData.int a, PyData.int b]) Φ) (Φ (false, PyData.int (if b < a then b else a))) := mkS p_min2
instance i_g_intOf : ∀ {i : Int} {Φ : Int → Prop}, Stp1 (Gv (intOf (PyData.int i)) Φ) (Φ i) := mkS g_intOf
instance i_g_seqL : ∀ {xs : List D} {Φ : List D → Prop}, Stp1 (Gv (seqOf (PyData.list xs)) Φ) (Φ xs) := mkS g_seqL
instance i_g_seqT : ∀ {xs : List D} {Φ : List D → Prop}, Stp1 (Gv (seqOf (PyData.tuple xs)) Φ) (Φ xs) := mkS g_seqT
instance i_gi_seq : ∀ {G : Sig} {ρ : Rho} {e : E} {Ψ : List D × Rho → Prop}, Stp1 (Gv (evI G (It.seq e) ρ) Ψ) ((Gv (ev G e ρ) fun p => Gv (escR p.snd p.fst) fun x => Gv (seqOf x.fst) fun xs => Ψ (xs, x.snd))) := mkS gi_seq
instance i_gi_rng : ∀ {G : Sig} {ρ : Rho} {e : E} {Ψ : List D × Rho → Prop}, Stp1 (Gv (evI G (It.rng e) ρ) Ψ) ((Gv (ev G e ρ) fun p => Gv (rdR p.snd p.fst) fun x => Gv (intOf x) fun i => (i ≤ 16000000 ∧ -16000000 ≤ i) ∧ Ψ (upTo i.toNat, p.snd))) := mkS gi_rng
instance i_gi_enum : ∀ {G : Sig} {ρ : Rho} {e : E} {Ψ : List D × Rho → Prop}, Stp1 (Gv (evI G (It.enum e) ρ) Ψ) ((Gv (ev G e ρ) fun p => Gv (escR p.snd p.fst) fun x => Gv (seqOf x.fst) fun xs => Ψ (List.mapIdx (fun k x => PyData.tuple [PyData.int ↑k, x]) xs, x.snd))) := mkS gi_enum
instance i_gi_zip : ∀ {G : Sig} {ρ : Rho} {a b : E} {Ψ : List D × Rho → Prop}, Stp1 (Gv (evI G (It.zip a b) ρ) Ψ) ((Gv (ev G a ρ) fun p => Gv (ev G b p.snd) fun p2 => Gv (escR p2.snd p.fst) fun x => Gv (escR x.snd p2.fst) fun y => Gv (seqOf x.fst) fun xs => Gv (seqOf y.fst) fun ys => Ψ (List.zipWith (fun x y => PyData.tuple [x, y]) xs ys, y.snd))) := mkS gi_zip
instance i_gv_lrng : ∀ {G : Sig} {ρ : Rho} {Φ : R × Rho → Prop} {a : E}, Stp1 (Gv (ev G a.lrng ρ) Φ) ((Gv (ev G a ρ) fun p => Gv (rdR p.snd p.fst) fun x => Gv (intOf x) fun i => (0 ≤ i ∧ i ≤ 1000000) ∧ Φ (R.val true (PyData.list (upTo i.toNat)), p.snd))) := mkS gv_lrng
instance i_b_pair : ∀ {ρ : Rho} {s t : Tg} {x y : D} {Ψ : Rho → Prop}, Stp1 (Gv (bindT (s.pair t) (PyData.tuple [x, y]) ρ) Ψ) ((Gv (bindT s x ρ) fun ρ1 => Gv (bindT t y ρ1) Ψ)) := mkS b_pair
instance i_pick_t : ∀ {p q : Prop}, Stp1 ((true = true → p) ∧ (true = false → q)) (p) := mkS pick_t
instance i_pick_f : ∀ {p q : Prop}, Stp1 ((false = true → p) ∧ (false = false → q)) (q) := mkS pick_f
instance i_f_val : ∀ {ρ : Rho} {d : D} {o m : Bool} {Ξ : (Bool × D) × D → Prop}, Stp1 (Gv (finR m ρ (R.val o d)) Ξ) (Gv (finish m ρ (o, d)) Ξ) := mkS f_val
instance i_f_no : ∀ {ρ : Rho} {p : Bool × D} {Ξ : (Bool × D) × D → Prop}, Stp1 (Gv (finish false ρ p) Ξ) (Ξ (p, PyData.none)) := mkS f_no
instance i_f_yes : ∀ {p : Bool × D} {s : D} {r : Rho} {Ξ : (Bool × D) × D → Prop}, Stp1 (Gv (finish true (some (true, s) :: r) p) Ξ) (Ξ (p, s)) := mkS f_yes
instance i_gv_some : ∀ {α : Type} {a : α} {Φ : α → Prop}, Stp1 (Gv (some a) Φ) (Φ a) := mkS gv_some.mpr
instance i_gv_revL : ∀ {G : Sig} {ρ : Rho} {Φ : R × Rho → Prop} {a : E}, Stp1 (Gv (ev G a.revL ρ) Φ) ((Gv (ev G a ρ) fun p => Gv (rdR p.snd p.fst) fun x => Gv (lstOf x) fun xs => Φ (R.val true (PyData.list xs.reverse), p.snd))) := mkS gv_revL
instance i_g_lstOf : ∀ {xs : List D} {Φ : List D → Prop}, Stp1 (Gv (lstOf (PyData.list xs)) Φ) (Φ xs) := mkS g_lstOf
instance i_gv_isB : ∀ {G : Sig} {ρ : Rho} {Φ : R × Rho → Prop} {ng c : Bool} {a : E}, Stp1 (Gv (ev G (E.isB ng c a) ρ) Φ) ((Gv (ev G a ρ) fun p => Gv (rdR p.snd p.fst) fun x => Gv (boolOf x) fun b => Φ (R.val false (PyData.bool (if ng = true then !decide (b = c) else decide (b = c))), p.snd))) := mkS gv_isB
instance i_g_boolOf : ∀ {b : Bool} {Φ : Bool → Prop}, Stp1 (Gv (boolOf (PyData.bool b)) Φ) (Φ b) := mkS g_boolOf
instance i_gv_trng : ∀ {G : Sig} {ρ : Rho} {Φ : R × Rho → Prop} {a : E}, Stp1 (Gv (ev G a.trng ρ) Φ) ((Gv (ev G a ρ) fun p => Gv (rdR p.snd p.fst) fun x => Gv (intOf x) fun i => (0 ≤ i ∧ i ≤ 1000000) ∧ Φ (R.val false (PyData.tuple (upTo i.toNat)), p.snd))) := mkS gv_trng
instance i_p_tupD : ∀ {Φ : Bool × D → Prop} {kvs : List (D × D)}, Stp1 (Gv (prim Pm.tuple [PyData.dict kvs]) Φ) (Φ (false, PyData.tuple (List.map (fun x => x.fst) kvs))) := mkS p_tupD
instance i_p_list_tuple {xs : List D} {Φ : Bool × D → Prop} : Stp1 (Gv (prim Pm.list [PyData.tuple xs]) Φ) (Φ (true, PyData.list xs)) := mkS fun h => ⟨_, rfl, h⟩
end Ev
set_option Elab.async false
set_option linter.all false
set_option maxRecDepth 100000
set_option maxHeartbeats 4000000
/-! Ev: what the newer expressions give, and their steps. -/
namespace Ev
open PySem PySem.Spec PyProof.Rows L2
def dicOf : D → Option (List (D × D))
  | .dict kvs => some kvs
  | _ => none
theorem dicOf_inv {d : D} {kvs : List (D × D)} (h : dicOf d = some kvs) : d = .dict kvs := by
  unfold dicOf at h
  split at h
  · cases h; rfl
  · cases h
def ownD : Bool × D → Option (List (D × D))
  | (true, .dict kvs) => some kvs
  | _ => none
theorem ownD_inv {w : Bool × D} {kvs : List (D × D)} (h : ownD w = some kvs) : w = (true, .dict kvs) := by
  unfold ownD at h
  split at h
  · cases h; rfl
  · cases h
theorem tupOf_inv {d : D} {xs : List D} (h : tupOf d = some xs) : d = .tuple xs := by
  unfold tupOf at h
  split at h
  · cases h; rfl
  · cases h
theorem ownR_inv {r : R} {xs : List D} (h : ownR r = some xs) : r = .val true (.list xs) := by
  unfold ownR at h
  split at h
  · cases h; rfl
  · cases h
section
variable {G : Sig} {ρ : Rho} {Φ : R × Rho → Prop}
theorem gv_callf {f : Str} {a : E} {es : Es} (h : Gv (ev G a ρ) fun p => Gv (evs G es p.2) fun q => Gv (rdRs q.2 q.1) fun ds => Gi (G.fns f) fun F => Gv (ownR p.1) fun xs => Gv (F.fn (.list xs :: ds)) fun r => Gv (ownL (true, r.2)) fun _ => F.chg = true ∧ q.1.any isLocR = false ∧ Φ (.val r.1.1 r.1.2, q.2)) :
    Gv (ev G (.callf f a es) ρ) Φ := by
  obtain ⟨⟨ra, ρ1⟩, e1, ⟨rs, ρ2⟩, e2, ds, e3, F, e4, xs, e5, ⟨⟨o, d⟩, d2⟩, e6, ys, e7, hc, hl, h⟩ := h
  dsimp only at e2 e3 e5 e7 hl h
  have := ownR_inv e5
  subst this
  have e7 := ownL_inv e7
  cases e7
  refine ⟨_, ?_, h⟩
  simp only [ev, e1, e2, e3, e4, e6, hc, hl, Option.bind_eq_bind, Option.bind_some]
  rfl
theorem gv_dget {i : Nat} {k : E} (h : Gv (look ρ i) fun w => Gv (dicOf w.2) fun _ => Gv (ev G k ρ) fun p => Gv (rdR p.2 p.1) fun x => Gv (look p.2 i) fun w => Gv (dicOf w.2) fun kvs => isKey x = true ∧ Φ (.val false ((dget kvs x).getD .none), p.2)) :
    Gv (ev G (.dget i k) ρ) Φ := by
  obtain ⟨⟨o, d⟩, e1, k1, e2, ⟨rk, ρ1⟩, e3, x, e4, ⟨o2, d2⟩, e5, kvs, e6, hk, h⟩ := h
  dsimp only at e2 e4 e5 e6 h
  have := dicOf_inv e2
  subst this
  have := dicOf_inv e6
  subst this
  refine ⟨_, ?_, h⟩
  simp only [ev, e1, e3, e4, e5, hk, Option.bind_eq_bind, Option.bind_some, if_true]
theorem gv_dgetd {i : Nat} {k z : E} (h : Gv (look ρ i) fun w => Gv (dicOf w.2) fun _ => Gv (ev G k ρ) fun p => Gv (ev G z p.2) fun q => Gv (escR q.2 q.1) fun s => Gv (rdR s.2 p.1) fun x => Gv (look s.2 i) fun w => Gv (dicOf w.2) fun kvs => isKey x = true ∧ Φ (.val false ((dget kvs x).getD s.1), s.2)) :
    Gv (ev G (.dgetd i k z) ρ) Φ := by
  obtain ⟨⟨o, d⟩, e1, k1, e2, ⟨rk, ρ1⟩, e3, ⟨rz, ρ2⟩, e4, ⟨y, ρ3⟩, e5, x, e6, ⟨o2, d2⟩, e7, kvs, e8, hk, h⟩ := h
  dsimp only at e2 e4 e5 e6 e7 e8 h
  have := dicOf_inv e2
  subst this
  have := dicOf_inv e8
  subst this
  refine ⟨_, ?_, h⟩
  simp only [ev, e1, e3, e4, e5, e6, e7, hk, Option.bind_eq_bind, Option.bind_some, if_true]
theorem gv_dpop {i : Nat} {k : E} (h : Gv (look ρ i) fun w => Gv (ownD w) fun _ => Gv (ev G k ρ) fun p => Gv (rdR p.2 p.1) fun x => Gv (look p.2 i) fun w => Gv (ownD w) fun kvs => isKey x = true ∧ Gv (dget kvs x) fun y => Φ (.val false y, p.2.set i (some (true, .dict (ddrop kvs x))))) :
    Gv (ev G (.dpop i k) ρ) Φ := by
  obtain ⟨w, e1, k1, e2, ⟨rk, ρ1⟩, e3, x, e4, w2, e5, kvs, e6, hk, y, e7, h⟩ := h
  dsimp only at e4 e5 e6 h
  have := ownD_inv e2
  subst this
  have := ownD_inv e6
  subst this
  refine ⟨_, ?_, h⟩
  simp only [ev, e1, e3, e4, e5, e7, hk, Option.bind_eq_bind, Option.bind_some, if_true]
theorem gv_ditems {i : Nat} (h : Gv (look ρ i) fun w => Gv (dicOf w.2) fun kvs => Φ (.val true (.list (kvs.map fun p => .tuple [p.1, p.2])), ρ)) : Gv (ev G (.ditems i) ρ) Φ := by
  obtain ⟨⟨o, d⟩, e1, kvs, e2, h⟩ := h
  dsimp only at e2
  have := dicOf_inv e2
  subst this
  refine ⟨_, ?_, h⟩
  simp only [ev, e1]
theorem gv_sset {a : E} (h : Gv (ev G a ρ) fun p => Gv (rdR p.2 p.1) fun d => Gv (tupOf d) fun xs => Gv (asInts xs) fun ns => ns.length < 64 ∧ Φ (.val true (.list ((sortU ns).map .int)), p.2)) : Gv (ev G (.sset a) ρ) Φ := by
  obtain ⟨⟨ra, ρ1⟩, e1, d, e2, xs, e3, ns, e4, hl, h⟩ := h
  dsimp only at e2 h
  have := tupOf_inv e3
  subst this
  refine ⟨_, ?_, h⟩
  simp only [ev, e1, e2, e4, hl, Option.bind_eq_bind, Option.bind_some, if_true]
theorem gv_mind {a : E} (h : Gv (ev G a ρ) fun p => Gv (rdR p.2 p.1) fun d => Gv (mindD d) fun x => Φ (.val false x, p.2)) : Gv (ev G (.mind a) ρ) Φ := by
  simp only [ev, gv_bind', gv_some]
  exact h
end
section
variable {Φ : Bool × D → Prop} {Χ : Bool → Prop} {xs : List D}
theorem p_sortL {ns : List Int} (e : asInts xs = some ns) (c : ns.length < 64) (h : Φ (true, .list ((sortI ns).map .int))) : Gv (prim .sorted [.list xs]) Φ := by
  simp only [prim, e]
  exact gv_if c (gv_some.mpr h)
theorem p_sortLP {ps : List (Int × Int)} (e0 : asInts xs = none) (e : asPairs xs = some ps) (c : ps.length ≤ sizeLine) (h : Φ (true, .list ((sortP ps).map pairD))) : Gv (prim .sorted [.list xs]) Φ := by
  simp only [prim, e0, e]
  exact gv_if (by simpa [fits] using c) (gv_some.mpr h)
theorem p_sortLR {rs : List (List Int)} (e0 : asInts xs = none) (e1 : asPairs xs = none) (e : asRows xs = some rs) (c : rowsOk ((rs.headD []).length) rs = true) (h : Φ (true, .list ((sortR rs).map rowD))) : Gv (prim .sorted [.list xs]) Φ := by
  simp only [prim, e0, e1, e]
  exact gv_if c (gv_some.mpr h)
theorem g_eqDS {kvs : List (D × D)} {y : Str} (h : Χ false) : Gv (cmp2 .eq (.dict kvs) (.str y)) Χ := ⟨_, rfl, h⟩
theorem b_quad {ρ : Rho} {s t u o : Tg} {x y z w : D} {Ψ : Rho → Prop} (h : Gv (bindT s x ρ) fun ρ1 => Gv (bindT t y ρ1) fun ρ2 => Gv (bindT u z ρ2) fun ρ3 => Gv (bindT o w ρ3) Ψ) : Gv (bindT (.quad s t u o) (.tuple [x, y, z, w]) ρ) Ψ := by
  obtain ⟨ρ1, e1, ρ2, e2, ρ3, e3, h⟩ := h
  simp only [bindT, e1, e2, e3]
  exact h
end
instance i_gv_callf {G : Sig} {ρ : Rho} {Φ : R × Rho → Prop} {f : Str} {a : E} {es : Es} : Stp1 (Gv (ev G (E.callf f a es) ρ) Φ) (Gv (ev G a ρ) fun p => Gv (evs G es p.2) fun q => Gv (rdRs q.2 q.1) fun ds => Gi (G.fns f) fun F => Gv (ownR p.1) fun xs => Gv (F.fn (.list xs :: ds)) fun r => Gv (ownL (true, r.2)) fun _ => F.chg = true ∧ q.1.any isLocR = false ∧ Φ (.val r.1.1 r.1.2, q.2)) := mkS gv_callf
instance i_gv_dget {G : Sig} {ρ : Rho} {Φ : R × Rho → Prop} {i : Nat} {k : E} : Stp1 (Gv (ev G (E.dget i k) ρ) Φ) (Gv (look ρ i) fun w => Gv (dicOf w.2) fun _ => Gv (ev G k ρ) fun p => Gv (rdR p.2 p.1) fun x => Gv (look p.2 i) fun w => Gv (dicOf w.2) fun kvs => isKey x = true ∧ Φ (.val false ((dget kvs x).getD .none), p.2)) := mkS gv_dget
instance i_gv_dgetd {G : Sig} {ρ : Rho} {Φ : R × Rho → Prop} {i : Nat} {k z : E} : Stp1 (Gv (ev G (E.dgetd i k z) ρ) Φ) (Gv (look ρ i) fun w => Gv (dicOf w.2) fun _ => Gv (ev G k ρ) fun p => Gv (ev G z p.2) fun q => Gv (escR q.2 q.1) fun s => Gv (rdR s.2 p.1) fun x => Gv (look s.2 i) fun w => Gv (dicOf w.2) fun kvs => isKey x = true ∧ Φ (.val false ((dget kvs x).getD s.1), s.2)) := mkS gv_dgetd
instance i_gv_dpop {G : Sig} {ρ : Rho} {Φ : R × Rho → Prop} {i : Nat} {k : E} : Stp1 (Gv (ev G (E.dpop i k) ρ) Φ) (Gv (look ρ i) fun w => Gv (ownD w) fun _ => Gv (ev G k ρ) fun p => Gv (rdR p.2 p.1) fun x => Gv (look p.2 i) fun w => Gv (ownD w) fun kvs => isKey x = true ∧ Gv (dget kvs x) fun y => Φ (.val false y, p.2.set i (some (true, .dict (ddrop kvs x))))) := mkS gv_dpop
instance i_gv_ditems {G : Sig} {ρ : Rho} {Φ : R × Rho → Prop} {i : Nat} : Stp1 (Gv (ev G (E.ditems i) ρ) Φ) (Gv (look ρ i) fun w => Gv (dicOf w.2) fun kvs => Φ (.val true (.list (kvs.map fun p => .tuple [p.1, p.2])), ρ)) := mkS gv_ditems
instance i_gv_sset {G : Sig} {ρ : Rho} {Φ : R × Rho → Prop} {a : E} : Stp1 (Gv (ev G (E.sset a) ρ) Φ) (Gv (ev G a ρ) fun p => Gv (rdR p.2 p.1) fun d => Gv (tupOf d) fun xs => Gv (asInts xs) fun ns => ns.length < 64 ∧ Φ (.val true (.list ((sortU ns).map .int)), p.2)) := mkS gv_sset
instance i_gv_mind {G : Sig} {ρ : Rho} {Φ : R × Rho → Prop} {a : E} : Stp1 (Gv (ev G (E.mind a) ρ) Φ) (Gv (ev G a ρ) fun p => Gv (rdR p.2 p.1) fun d => Gv (mindD d) fun x => Φ (.val false x, p.2)) := mkS gv_mind
instance i_g_dicOf {kvs : List (D × D)} {Φ : List (D × D) → Prop} : Stp1 (Gv (dicOf (PyData.dict kvs)) Φ) (Φ kvs) := mkS fun h => ⟨_, rfl, h⟩
instance i_g_ownD {kvs : List (D × D)} {Φ : List (D × D) → Prop} : Stp1 (Gv (ownD (true, PyData.dict kvs)) Φ) (Φ kvs) := mkS fun h => ⟨_, rfl, h⟩
instance i_b_quad {ρ : Rho} {s t u o : Tg} {x y z w : D} {Ψ : Rho → Prop} : Stp1 (Gv (bindT (Tg.quad s t u o) (PyData.tuple [x, y, z, w]) ρ) Ψ) (Gv (bindT s x ρ) fun ρ1 => Gv (bindT t y ρ1) fun ρ2 => Gv (bindT u z ρ2) fun ρ3 => Gv (bindT o w ρ3) Ψ) := mkS b_quad
instance i_g_eqDS {kvs : List (D × D)} {y : Str} {Χ : Bool → Prop} : Stp1 (Gv (cmp2 C2.eq (PyData.dict kvs) (PyData.str y)) Χ) (Χ false) := mkS g_eqDS
end Ev
set_option Elab.async false
set_option linter.all false
set_option maxRecDepth 100000
set_option maxHeartbeats 4000000
/-! Ev, part 25: the parts of a law put together. -/
namespace Ev
open PySem PySem.Spec PyProof.Rows L2
section
variable {P : Program} {w : World} {K : PySem.W.Frag} {mg : Str → Option Value} {base : Heap}
/-- a def of the text, as the module's names have it -/
def Has (K : PySem.W.Frag) (mg : Str → Option Value) (x : Str) (st : Stmt) : Prop := ∃ f fd, Fun K x x st f fd ∧ mg x = some (.ref f)
theorem has_mk {h : Heap} {x : Str} {st : Stmt} {f : Addr} {od an : Option Addr} {osl : Array (Option Value)} {oc kV doc pm cdv ct : Value} (X : K.In h) (G : h.Ns mainGlobals mg) (a : PySem.W.nsIn K mainGlobals x = some (some (.ref f)))
    (l : K.lookup f = some ⟨oc, od, .func (PySem.W.fnOf x x (defArgs st) (defBody st) (defScope st) .none kV doc pm an cdv ct), osl⟩) (c : PySem.W.codeIn K cdv x = true) (k : PySem.W.keepIn K (.ref f) = true) : Has K mg x st :=
  ⟨f, _, fun_mk l c k, PySem.W.mg_of X G a⟩
/-- how its arguments bind -/
def Bnd (x : Str) (st : Stmt) (ps : List Str) : Prop := ∀ (kV doc pm : Value) (an : Option Addr) (cdv ct : Value) (us : List Value), us.length = ps.length →
  bindArgs (PySem.W.fnOf x x (defArgs st) (defBody st) (defScope st) .none kV doc pm an cdv ct) ⟨us, []⟩ = pure (ps.zip us)
theorem dcl_of {k n : Nat} {G : Sig} {x : Str} {st : Stmt} {N ps : List Str} {m : Bool} {sb : Ss} (F : Has K mg x st) (S : FnScope N ps (defScope st)) (hb : Bnd x st ps) (hc : chkSs G.csts G.blts N (defScope st) sb (defBody st) = true)
    (hG : ∀ K', Cuts K K' → GoodG P w K' mg base k G) : ∀ K', Cuts K K' → Dcl P w K' mg base (k + 1) x (runF G n N ps m sb) := fun K' c => by
  obtain ⟨f, fd, F, hm⟩ := F
  have F' := Fun.cut F c
  refine ⟨f, fd, ps, fnG_of F' S (hG K' c) hc, hm, F'.kp, F'.binds hb, fun ds r h => ?_⟩
  unfold runF at h
  simp only at h
  split at h
  · assumption
  · cases h
theorem dcl_none {L : Nat} {x : Str} {st : Stmt} {ps : List Str} {Fz : Fn} (F : Has K mg x st) (hb : Bnd x st ps) (h0 : ∀ ds, Fz.fn ds = none) : ∀ K', Cuts K K' → Dcl P w K' mg base L x Fz := fun K' c => by
  obtain ⟨f, fd, F, hm⟩ := F
  have F' := Fun.cut F c
  refine ⟨f, fd, ps, ⟨fun A outer s H args us vs Q hr hg e0 hb r hl hsp => ?_⟩, hm, F'.kp, F'.binds hb, fun ds r h => by rw [h0] at h; cases h⟩
  unfold spF at hsp
  cases c : Fz.chg with
  | false =>
    rw [c] at hsp
    obtain ⟨_, ds, _, _, _, e, _⟩ := hsp
    rw [h0] at e; cases e
  | true =>
    rw [c] at hsp
    obtain ⟨_, _, _, _, ds, dr, _, _, _, _, _, _, _, _, e, _⟩ := hsp
    rw [h0] at e; cases e
/-- a def that calls itself, so many levels deep -/
theorem dcl_rec {L n : Nat} {G : Nat → Sig} {Fk : Nat → Fn} {x : Str} {st : Stmt} {N ps : List Str} {m : Bool} {sb : Ss} (F : Has K mg x st) (S : FnScope N ps (defScope st)) (hb : Bnd x st ps) (hc : ∀ k, chkSs (G k).csts (G k).blts N (defScope st) sb (defBody st) = true)
    (h0 : ∀ ds, (Fk 0).fn ds = none) (hs : ∀ k, Fk (k + 1) = runF (G k) n N ps m sb)
    (hG : ∀ k K', Cuts K K' → Dcl P w K' mg base (L + k) x (Fk k) → GoodG P w K' mg base (L + k) (G k)) : ∀ k K', Cuts K K' → Dcl P w K' mg base (L + k) x (Fk k)
  | 0 => dcl_none F hb h0
  | k + 1 => by
    rw [hs k]
    exact dcl_of F S hb (hc k) fun K2 c2 => hG k K2 c2 (dcl_rec F S hb hc h0 hs hG k K2 c2)
theorem all0 {k : Nat} : ∀ p ∈ ([] : List (Str × Fn)), Dcl P w K mg base k p.1 p.2 := fun p hp => absurd hp List.not_mem_nil
theorem all1 {j k : Nat} {x : Str} {F : Fn} {l : List (Str × Fn)} (h : Dcl P w K mg base j x F) (hj : j ≤ k) (t : ∀ p ∈ l, Dcl P w K mg base k p.1 p.2) : ∀ p ∈ (x, F) :: l, Dcl P w K mg base k p.1 p.2 := fun p hp => by
  rcases List.mem_cons.mp hp with e | e
  · subst e; exact h.mono hj
  · exact t p e
theorem good_of {k : Nat} {l : List (Str × Fn)} {cs : List (Str × Int)} {bs : List Str} (h : ∀ p ∈ l, Dcl P w K mg base k p.1 p.2) (hc : ∀ p ∈ cs, ∃ t, mg p.1 = some (.int p.2 t)) (hb : ∀ x ∈ bs, mg x = none) : GoodG P w K mg base k ⟨fun x => l.lookup x, cs, bs⟩ :=
  ⟨fun x F e => h (x, F) (PySem.mem_of_lookup e), hc, hb⟩
theorem c0 : ∀ p ∈ ([] : List (Str × Int)), ∃ t, mg p.1 = some (.int p.2 t) := fun p hp => absurd hp List.not_mem_nil
theorem c1 {x : Str} {i : Int} {t : Tok} {l : List (Str × Int)} {h : Heap} (X : K.In h) (G : h.Ns mainGlobals mg) (a : PySem.W.nsIn K mainGlobals x = some (some (.int i t))) (r : ∀ p ∈ l, ∃ t, mg p.1 = some (.int p.2 t)) : ∀ p ∈ (x, i) :: l, ∃ t, mg p.1 = some (.int p.2 t) := fun p hp => by
  rcases List.mem_cons.mp hp with e | e
  · subst e; exact ⟨t, PySem.W.mg_of X G a⟩
  · exact r p e
theorem z0 : ∀ x ∈ ([] : List Str), mg x = none := fun p hp => absurd hp List.not_mem_nil
theorem z1 {x : Str} {l : List Str} {h : Heap} (X : K.In h) (G : h.Ns mainGlobals mg) (a : PySem.W.nsIn K mainGlobals x = some none) (r : ∀ x ∈ l, mg x = none) : ∀ y ∈ x :: l, mg y = none := fun p hp => by
  rcases List.mem_cons.mp hp with e | e
  · subst e; exact PySem.W.mg_none_of X G a
  · exact r p e
end
/-- the end: the law's def among all -/
theorem walk_end {l : PySem.W.OpenLaw} {n k fuel : Nat} {q : Program} {loose : List Str} {XP : (Str → Option Value) → Heap → Prop} {YP : World → Heap → Prop} {d : DefRec} {K : Params → PySem.W.Frag} {x z : Str} {st : Stmt} {G : Sig} {N : List Str} {sb : Ss}
    (most : l.most = some n) (few : n ≤ sizeLine) (nodef : d.params.defaults = []) (name : d.name = z) (room : Room (k + 1) callerA) (S : FnScope N [x] (defScope st)) (hb : Bnd z st [x]) (hc : chkSs G.csts G.blts N (defScope st) sb (defBody st) = true)
    (yes : ∀ ns : List Int, ns.length ≤ n → ∃ e, (runF G fuel N [x] false sb).fn [.list (ns.map PyData.int)] = some ((false, .bool true), e))
    (inK : ∀ (w : World) (h : Heap), YP w h → (K w.params).In h)
    (F : ∀ (w : World) (mg : Str → Option Value) (h : Heap), (K w.params).In h → h.Ns mainGlobals mg → Has (K w.params) mg z st ∧ ∀ (K' : PySem.W.Frag) (base : Heap), Cuts (K w.params) K' → GoodG l.prog w K' mg base k G) :
    PySem.W.WalkO q loose XP YP l.row.toRowW d [] (fun f vs => PySem.call f vs) := by
  refine walk_ofG (x := x) (k := k + 1) most few nodef room inK fun w mg fa h X Gh hm => ?_
  obtain ⟨⟨f, fd, F1, hm1⟩, hG⟩ := F w mg h X Gh
  rw [name, hm1] at hm
  cases hm
  have b := F1.binds hb
  refine ⟨fd, runF G fuel N [x] false sb, ?_, rfl, yes, fun K' base c _ _ => fnG_of (Fun.cut F1 c) S (hG K' base c) hc⟩
  intro s u
  obtain ⟨oc, od, kV, doc, pm, an, cdv, ct, osl, rfl, _⟩ := F1.ex
  exact .of_eq (hb kV doc pm an cdv ct [u] rfl)
end Ev
set_option linter.all false
namespace Sv
abbrev Terms := List (Int × Int)
def ole : Option Int → Option Int → Prop
  | none, _ => True
  | some _, none => False
  | some a, some b => a ≤ b
theorem ole_refl : ∀ x, ole x x
  | none => trivial
  | some a => Int.le_refl a
theorem ole_trans : ∀ {x y z}, ole x y → ole y z → ole x z
  | none, _, _, _, _ => trivial
  | some _, none, _, h, _ => h.elim
  | some _, some _, none, _, h => h.elim
  | some a, some b, some c, h, g => Int.le_trans h g
theorem ole_antisymm : ∀ {x y}, ole x y → ole y x → x = y
  | none, none, _, _ => rfl
  | none, some _, _, h => h.elim
  | some _, none, h, _ => h.elim
  | some a, some b, h, g => congrArg some (Int.le_antisymm h g)
theorem ole_total : ∀ x y, ole x y ∨ ole y x
  | none, _ => .inl trivial
  | some _, none => .inr trivial
  | some a, some b => (Int.le_total a b).imp id id
def olt (x y : Option Int) : Prop := ole x y ∧ ¬ ole y x
theorem not_ole {x y : Option Int} (h : ¬ ole x y) : olt y x := ⟨(ole_total x y).resolve_left h, h⟩
abbrev Tm := Nat → Option Int
def Reach (ps : Terms) (T : Tm) (x : Int) : Prop := ∃ p ∈ ps, ∃ y, T p.1.toNat = some y ∧ x ≤ y + p.2
def IsSide (ps : Terms) (T : Tm) (s : Option Int) : Prop := (∀ x, ole (some x) s ↔ Reach ps T x)
theorem side_reach {ps : Terms} {T : Tm} {s : Option Int} (h : IsSide ps T s) {p : Int × Int} {y : Int} (hp : p ∈ ps) (hy : T p.1.toNat = some y) : ole (some (y + p.2)) s :=
  (h _).mpr ⟨p, hp, y, hy, Int.le_refl _⟩
theorem side_mono {ps : Terms} {T T' : Tm} {s s' : Option Int} (h : IsSide ps T s) (h' : IsSide ps T' s') (le : ∀ p ∈ ps, ole (T p.1.toNat) (T' p.1.toNat)) : ole s s' := by
  cases s with
  | none => trivial
  | some a =>
    obtain ⟨p, hp, y, hy, hle⟩ := (h a).mp (Int.le_refl a)
    have l := le p hp
    rw [hy] at l
    cases e : T' p.1.toNat with
    | none => rw [e] at l; exact l.elim
    | some z =>
      rw [e] at l
      have l : y ≤ z := l
      exact (h' a).mpr ⟨p, hp, z, e, by omega⟩
section
variable (n : Nat)
def InN (ps : Terms) : Prop := ∀ p ∈ ps, p.1.toNat < n
def NoC (R : Nat → Option Terms) : Prop := ∀ (S : Nat → Prop) (X : Nat → Int), (∃ v, v < n ∧ S v) → ¬ ∀ v, v < n → S v → ∃ ps, R v = some ps ∧ ∃ p ∈ ps, p.1.toNat < n ∧ S p.1.toNat ∧ X v ≤ X p.1.toNat + p.2
theorem noC_none : NoC n (fun _ => none) := fun S X ⟨v, hv, hs⟩ h => by
  obtain ⟨ps, e, _⟩ := h v hv hs
  cases e
theorem max_of (S : Nat → Prop) (f : Nat → Int) : ∀ n, (∃ v, v < n ∧ S v) → ∃ v, v < n ∧ S v ∧ ∀ u, u < n → S u → f u ≤ f v
  | 0, ⟨v, h, _⟩ => absurd h (Nat.not_lt_zero _)
  | n + 1, ⟨v, h, hs⟩ => by
    by_cases c : ∃ v, v < n ∧ S v
    · obtain ⟨w, hw, hsw, hm⟩ := max_of S f n c
      by_cases d : S n ∧ f w < f n
      · refine ⟨n, Nat.lt_succ_self _, d.1, fun u hu hsu => ?_⟩
        by_cases e : u = n
        · rw [e]; exact Int.le_refl _
        · have := hm u (by omega) hsu
          omega
      · refine ⟨w, Nat.lt_succ_of_lt hw, hsw, fun u hu hsu => ?_⟩
        by_cases e : u = n
        · subst e
          by_cases z : f w < f u
          · exact absurd ⟨hsu, z⟩ d
          · omega
        · exact hm u (by omega) hsu
    · have : v = n := by
        by_cases e : v = n
        · exact e
        · exact absurd ⟨v, by omega, hs⟩ c
      subst this
      refine ⟨v, Nat.lt_succ_self _, hs, fun u hu hsu => ?_⟩
      by_cases e : u = v
      · rw [e]; exact Int.le_refl _
      · exact absurd ⟨u, by omega, hsu⟩ c
def Fix (B : Nat → Int) (R : Nat → Option Terms) (T : Tm) : Prop := ∀ v, v < n → match R v with
  | none => T v = some (B v)
  | some ps => IsSide ps T (T v)
def Step (R : Nat → Option Terms) (T : Tm) (R' : Nat → Option Terms) : Prop := ∀ v, v < n → R' v = R v ∨ ∃ ps s, R' v = some ps ∧ IsSide ps T s ∧ olt s (T v)
theorem fix_some {B : Nat → Int} {R : Nat → Option Terms} {T : Tm} (h : Fix n B R T) {v : Nat} {ps : Terms} (hv : v < n) (e : R v = some ps) : IsSide ps T (T v) := by
  have := h v hv
  rw [e] at this
  exact this
theorem fix_none {B : Nat → Int} {R : Nat → Option Terms} {T : Tm} (h : Fix n B R T) {v : Nat} (hv : v < n) (e : R v = none) : T v = some (B v) := by
  have := h v hv
  rw [e] at this
  exact this
theorem noC_step {B : Nat → Int} {R R' : Nat → Option Terms} {T : Tm} (hN : NoC n R) (hF : Fix n B R T) (hS : Step n R T R') : NoC n R' := by
  intro S X hne hcl
  by_cases c : ∃ v, v < n ∧ S v ∧ T v = none
  · refine hN (fun v => S v ∧ T v = none) X c fun v hv hs => ?_
    obtain ⟨ps, e, p, hp, hpn, hsp, hx⟩ := hcl v hv hs.1
    rcases hS v hv with q | ⟨ps2, s, _, _, lt⟩
    · rw [q] at e
      refine ⟨ps, e, p, hp, hpn, ⟨hsp, ?_⟩, hx⟩
      have hsd := fix_some n hF hv e
      rw [hs.2] at hsd
      cases z : T p.1.toNat with
      | none => rfl
      | some y => exact (side_reach hsd hp z).elim
    · rw [hs.2] at lt
      cases s with
      | none => exact absurd trivial lt.2
      | some a => exact lt.1.elim
  · have fin : ∀ v, v < n → S v → ∃ t, T v = some t := fun v hv hs => by
      cases e : T v with
      | none => exact absurd ⟨v, hv, hs, e⟩ c
      | some t => exact ⟨t, rfl⟩
    obtain ⟨v0, hv0, hs0, hmax⟩ := max_of S (fun v => X v - (T v).getD 0) n hne
    refine hN (fun v => S v ∧ X v - (T v).getD 0 = X v0 - (T v0).getD 0) X ⟨v0, hv0, hs0, rfl⟩ fun v hv hs => ?_
    obtain ⟨ps, e, p, hp, hpn, hsp, hx⟩ := hcl v hv hs.1
    obtain ⟨t, ht⟩ := fin v hv hs.1
    obtain ⟨u, hu⟩ := fin _ hpn hsp
    have hm := hmax _ hpn hsp
    have he := hs.2
    rw [hu] at hm
    rw [ht] at he
    simp only [Option.getD_some] at hm he
    rcases hS v hv with q | ⟨ps2, s, e2, sd, lt⟩
    · rw [q] at e
      have hsd := fix_some n hF hv e
      rw [ht] at hsd
      have : u + p.2 ≤ t := side_reach hsd hp hu
      refine ⟨ps, e, p, hp, hpn, ⟨hsp, ?_⟩, hx⟩
      rw [hu]
      simp only [Option.getD_some]
      omega
    · rw [e] at e2
      cases e2
      have h1 := side_reach sd hp hu
      rw [ht] at lt
      cases s with
      | none => exact h1.elim
      | some a =>
        have h1 : u + p.2 ≤ a := h1
        have h2 : a ≤ t := lt.1
        have h3 : ¬ t ≤ a := lt.2
        omega
structure Part (B : Nat → Int) (L : List (Nat × Terms)) (X : Tm) : Prop where
  bd : ∀ v, v < n → ∀ x, X v = some x → x ≤ B v
  ok : ∀ r ∈ L, ∀ x, X r.1 = some x → Reach r.2 X x
def From (L : List (Nat × Terms)) (R : Nat → Option Terms) : Prop := ∀ v, v < n → ∀ ps, R v = some ps → (v, ps) ∈ L
theorem part_le {B : Nat → Int} {L : List (Nat × Terms)} {R : Nat → Option Terms} {T X : Tm} (hL : ∀ r ∈ L, InN n r.2) (hN : NoC n R) (hF : Fix n B R T) (hR : From n L R) (hX : Part n B L X) : ∀ v, v < n → ole (X v) (T v) := by
  intro v0 hv0
  apply Classical.byContradiction
  intro hno
  refine hN (fun v => ¬ ole (X v) (T v)) (fun v => (X v).getD 0) ⟨v0, hv0, hno⟩ fun v hv hs => ?_
  cases ex : X v with
  | none => rw [ex] at hs; exact absurd trivial hs
  | some x =>
    rw [ex] at hs
    cases e : R v with
    | none =>
      have := fix_none n hF hv e
      rw [this] at hs
      exact absurd (hX.bd v hv x ex) hs
    | some ps =>
      have hm := hR v hv ps e
      obtain ⟨p, hp, y, hy, hle⟩ := hX.ok _ hm x ex
      have hpn := hL _ hm p hp
      refine ⟨ps, rfl, p, hp, hpn, fun z => ?_, ?_⟩
      · rw [hy] at z
        cases ep : T p.1.toNat with
        | none => rw [ep] at z; exact z
        | some u =>
          rw [ep] at z
          have z : y ≤ u := z
          have h1 := side_reach (fix_some n hF hv e) hp ep
          exact hs (ole_trans (show ole (some x) (some (u + p.2)) from (by show x ≤ u + p.2; omega)) h1)
      · rw [hy]
        simp only [Option.getD_some]
        exact hle
theorem part_of {B : Nat → Int} {L : List (Nat × Terms)} {T : Tm} (hle : ∀ v, v < n → ole (T v) (some (B v))) (hl : ∀ r ∈ L, r.1 < n) (ok : ∀ r ∈ L, ∀ s, IsSide r.2 T s → ole (T r.1) s) (ex : ∀ r ∈ L, ∃ s, IsSide r.2 T s) : Part n B L T := by
  refine ⟨fun v hv x e => ?_, fun r hr x e => ?_⟩
  · have := hle v hv
    rw [e] at this
    exact this
  · obtain ⟨s, hs⟩ := ex r hr
    have := ok r hr s hs
    rw [e] at this
    exact (hs x).mp this
theorem greatest_unique {B : Nat → Int} {L : List (Nat × Terms)} {T T' : Tm} (h : Part n B L T) (h' : Part n B L T') (g : ∀ X, Part n B L X → ∀ v, v < n → ole (X v) (T v)) (g' : ∀ X, Part n B L X → ∀ v, v < n → ole (X v) (T' v)) : ∀ v, v < n → T v = T' v :=
  fun v hv => ole_antisymm (g' T h v hv) (g T' h' v hv)
end
end Sv
set_option linter.all false
namespace Sv
section
variable (n : Nat)
/-- how many below n -/
def card (P : Nat → Bool) : Nat := ((List.range n).filter P).length
theorem card_le (P : Nat → Bool) : card n P ≤ n := by
  unfold card
  exact Nat.le_trans (List.length_filter_le _ _) (by rw [List.length_range]; exact Nat.le_refl _)
theorem filter_mono {P Q : Nat → Bool} : ∀ l : List Nat, (∀ x ∈ l, P x = true → Q x = true) → (l.filter P).length ≤ (l.filter Q).length
  | [], _ => Nat.le_refl _
  | x :: r, h => by
    have ih := filter_mono r fun y hy => h y (List.mem_cons_of_mem _ hy)
    have hx := h x List.mem_cons_self
    by_cases p : P x = true
    · rw [List.filter_cons_of_pos p, List.filter_cons_of_pos (hx p)]
      simpa using ih
    · rw [List.filter_cons_of_neg p]
      by_cases q : Q x = true
      · rw [List.filter_cons_of_pos q]
        simp only [List.length_cons]
        omega
      · rw [List.filter_cons_of_neg q]
        exact ih
theorem filter_lt {P Q : Nat → Bool} {z : Nat} : ∀ l : List Nat, (∀ x ∈ l, P x = true → Q x = true) → z ∈ l → P z = false → Q z = true → (l.filter P).length < (l.filter Q).length
  | [], _, hz, _, _ => absurd hz List.not_mem_nil
  | x :: r, h, hz, hp, hq => by
    have hx := h x List.mem_cons_self
    by_cases e : z = x
    · subst e
      rw [List.filter_cons_of_neg (by rw [hp]; simp), List.filter_cons_of_pos hq]
      have := filter_mono (P := P) (Q := Q) r fun y hy => h y (List.mem_cons_of_mem _ hy)
      simp only [List.length_cons]
      omega
    · have hz2 : z ∈ r := (List.mem_cons.mp hz).resolve_left e
      have ih := filter_lt r (fun y hy => h y (List.mem_cons_of_mem _ hy)) hz2 hp hq
      by_cases p : P x = true
      · rw [List.filter_cons_of_pos p, List.filter_cons_of_pos (hx p)]
        simpa using ih
      · rw [List.filter_cons_of_neg p]
        by_cases q : Q x = true
        · rw [List.filter_cons_of_pos q]
          simp only [List.length_cons]
          omega
        · rw [List.filter_cons_of_neg q]
          exact ih
theorem card_lt {P Q : Nat → Bool} {z : Nat} (h : ∀ x, x < n → P x = true → Q x = true) (hz : z < n) (hp : P z = false) (hq : Q z = true) : card n P < card n Q :=
  filter_lt _ (fun x hx => h x (List.mem_range.mp hx)) (List.mem_range.mpr hz) hp hq
/-- the greatest one can't be raised -/
theorem no_raise {B : Nat → Int} {L : List (Nat × Terms)} {G : Tm} (hl : ∀ r ∈ L, r.1 < n ∧ InN n r.2) (hG : Part n B L G) (g : ∀ X, Part n B L X → ∀ v, v < n → ole (X v) (G v)) (S : Nat → Prop) (hne : ∃ v, v < n ∧ S v)
    (hfin : ∀ v, v < n → S v → ∃ x, G v = some x ∧ x < B v) (hr : ∀ v, v < n → S v → ∀ x, G v = some x → ∀ ps, (v, ps) ∈ L → ∃ p ∈ ps, ∃ y, G p.1.toNat = some y ∧ (x + 1 ≤ y + p.2 ∨ (S p.1.toNat ∧ x ≤ y + p.2))) : False := by
  classical
  obtain ⟨v0, hv0, hs0⟩ := hne
  let X : Tm := fun v => if v < n ∧ S v then (G v).map (· + 1) else G v
  have up : ∀ {j : Nat} {y : Int}, G j = some y → ∃ z, X j = some z ∧ y ≤ z ∧ (j < n ∧ S j → z = y + 1) := fun {j y} e => by
    by_cases c : j < n ∧ S j
    · exact ⟨y + 1, by show (if _ then _ else _) = _; rw [if_pos c, e]; rfl, by omega, fun _ => rfl⟩
    · exact ⟨y, by show (if _ then _ else _) = _; rw [if_neg c, e], Int.le_refl _, fun q => absurd q c⟩
  have hX : Part n B L X := by
    refine ⟨fun v hv x e => ?_, fun r hrL x e => ?_⟩
    · by_cases c : v < n ∧ S v
      · have e : (if v < n ∧ S v then (G v).map (· + 1) else G v) = some x := e
        rw [if_pos c] at e
        obtain ⟨y, hy, hlt⟩ := hfin v hv c.2
        rw [hy] at e
        cases e
        show y + 1 ≤ B v
        omega
      · have e : (if v < n ∧ S v then (G v).map (· + 1) else G v) = some x := e
        rw [if_neg c] at e
        exact hG.bd v hv x e
    · obtain ⟨v, ps⟩ := r
      have hv := (hl _ hrL).1
      have hin := (hl _ hrL).2
      by_cases c : v < n ∧ S v
      · have e : (if v < n ∧ S v then (G v).map (· + 1) else G v) = some x := e
        rw [if_pos c] at e
        cases eg : G v with
        | none => rw [eg] at e; cases e
        | some y =>
          rw [eg] at e
          cases e
          obtain ⟨p, hp, z, hz, q⟩ := hr v c.1 c.2 y eg ps hrL
          obtain ⟨w, hw, hle, hst⟩ := up hz
          refine ⟨p, hp, w, hw, ?_⟩
          show y + 1 ≤ w + p.2
          rcases q with q | ⟨q1, q2⟩
          · omega
          · have := hst ⟨hin p hp, q1⟩
            omega
      · have e : (if v < n ∧ S v then (G v).map (· + 1) else G v) = some x := e
        rw [if_neg c] at e
        obtain ⟨p, hp, z, hz, q⟩ := hG.ok _ hrL x e
        obtain ⟨w, hw, hle, _⟩ := up hz
        exact ⟨p, hp, w, hw, by omega⟩
  have := g X hX v0 hv0
  obtain ⟨y, hy, _⟩ := hfin v0 hv0 hs0
  have e : X v0 = some (y + 1) := by
    show (if _ then _ else _) = _
    rw [if_pos ⟨hv0, hs0⟩, hy]
    rfl
  rw [e, hy] at this
  have : y + 1 ≤ y := this
  omega
/-- the greatest one's integers are at least the floor -/
theorem floor_le {B : Nat → Int} {L : List (Nat × Terms)} {G : Tm} {b D : Int} (hD : 0 ≤ D) (hb : ∀ v, v < n → b ≤ B v) (hl : ∀ r ∈ L, r.1 < n ∧ InN n r.2) (hd : ∀ r ∈ L, ∀ p ∈ r.2, -D ≤ p.2) (hG : Part n B L G)
    (g : ∀ X, Part n B L X → ∀ v, v < n → ole (X v) (G v)) {v : Nat} {x : Int} (hv : v < n) (hx : G v = some x) : b - (n - 1 : Nat) * D ≤ x := by
  let A : Nat → Nat → Bool := fun k u => match G u with
    | none => false
    | some y => decide (b - k * D ≤ y)
  have hA : ∀ {k u y}, G u = some y → (A k u = true ↔ b - k * D ≤ y) := fun {k u y} e => by
    show (match G u with | none => false | some y => decide (b - k * D ≤ y)) = true ↔ _
    rw [e]
    exact decide_eq_true_iff
  have step : ∀ k : Nat, ∀ u y, u < n → G u = some y → y < b - k * D → k + 1 ≤ card n (A k) := by
    intro k
    induction k with
    | zero =>
      intro u y hu hy hlt
      apply Classical.byContradiction
      intro hno
      have hz : ∀ w, w < n → A 0 w = false := fun w hw => by
        cases e : A 0 w with
        | false => rfl
        | true =>
          have := card_lt n (P := fun _ => false) (Q := A 0) (fun _ _ z => by cases z) hw rfl e
          omega
      have lt : ∀ w, w < n → ∀ z, G w = some z → z < b := fun w hw z e => by
        have h1 := hz w hw
        by_cases c : b - (0 : Nat) * D ≤ z
        · have := (hA e).mpr c
          rw [this] at h1; cases h1
        · simp only [Int.natCast_zero, Int.zero_mul] at c
          omega
      refine no_raise n hl hG g (fun w => ∃ z, G w = some z) ⟨u, hu, y, hy⟩ (fun w hw ⟨z, e⟩ => ⟨z, e, by have := lt w hw z e; have := hb w hw; omega⟩) fun w hw ⟨z, e⟩ z2 e2 ps hm => ?_
      obtain ⟨p, hp, q, hq, hle⟩ := hG.ok _ hm z2 e2
      exact ⟨p, hp, q, hq, .inr ⟨⟨q, hq⟩, hle⟩⟩
    | succ k ih =>
      intro u y hu hy hlt
      have e1 : b - ((k + 1 : Nat) : Int) * D = b - (k : Int) * D - D := by
        rw [Int.natCast_add, Int.add_mul]
        simp only [Int.natCast_one, Int.one_mul]
        omega
      have h0 := ih u y hu hy (by rw [e1] at hlt; omega)
      apply Classical.byContradiction
      intro hno
      have mono : ∀ w, w < n → A k w = true → A (k + 1) w = true := fun w hw q => by
        cases e : G w with
        | none =>
          have q : (match G w with | none => false | some y => decide (b - k * D ≤ y)) = true := q
          rw [e] at q; cases q
        | some z =>
          have := (hA e).mp q
          exact (hA e).mpr (by rw [e1]; omega)
      have back : ∀ w, w < n → A (k + 1) w = true → A k w = true := fun w hw q => by
        cases e : A k w with
        | true => rfl
        | false =>
          have := card_lt n mono hw e q
          omega
      refine no_raise n hl hG g (fun w => ∃ z, G w = some z ∧ z < b - ((k + 1 : Nat) : Int) * D) ⟨u, hu, y, hy, hlt⟩ (fun w hw ⟨z, e, lt⟩ => ⟨z, e, ?_⟩) fun w hw ⟨z, e, lt⟩ z2 e2 ps hm => ?_
      · have := hb w hw
        have hk : 0 ≤ (k : Int) * D := Int.mul_nonneg (by omega) hD
        rw [e1] at lt
        omega
      · have ez : z2 = z := by rw [e] at e2; cases e2; rfl
        subst ez
        obtain ⟨p, hp, q, hq, hle⟩ := hG.ok _ hm z2 e2
        refine ⟨p, hp, q, hq, ?_⟩
        by_cases c : q < b - ((k + 1 : Nat) : Int) * D
        · exact .inr ⟨⟨q, hq, c⟩, hle⟩
        · refine .inl ?_
          have h1 := back _ ((hl _ hm).2 p hp) ((hA hq).mpr (by omega))
          have h2 := (hA hq).mp h1
          have h3 := hd _ hm p hp
          rw [e1] at lt
          omega
  apply Classical.byContradiction
  intro hno
  have h1 := step (n - 1) v x hv hx (by omega)
  have h2 : A (n - 1) v = false := by
    cases e : A (n - 1) v with
    | false => rfl
    | true => exact absurd ((hA hx).mp e) hno
  have h3 := card_lt n (P := A (n - 1)) (Q := fun _ => true) (fun _ _ _ => rfl) hv h2 rfl
  have h4 := card_le n fun _ => true
  omega
/-- those who wait can't all be led on -/
theorem not_all_blocked {R : Nat → Option Terms} {T : Tm} (hN : NoC n R) (W : Nat → Prop) (hne : ∃ v, v < n ∧ W v) (hT : ∀ v, v < n → W v → ∃ x, T v = some x) : ¬ ∀ v, v < n → W v → ∃ ps, R v = some ps ∧ ∃ p ∈ ps, p.1.toNat < n ∧ W p.1.toNat ∧ ∃ y, T p.1.toNat = some y ∧ T v = some (y + p.2) := by
  intro h
  refine hN W (fun v => (T v).getD 0) hne fun v hv hw => ?_
  obtain ⟨ps, e, p, hp, hpn, hpw, y, hy, ht⟩ := h v hv hw
  exact ⟨ps, e, p, hp, hpn, hpw, by rw [ht, hy]; exact Int.le_refl _⟩
end
end Sv
set_option linter.all false
namespace Sv
/-! Numbers for a refutation: they exist where no set lifts itself. -/
theorem bound_all {P : Nat → Nat → Prop} (mono : ∀ v a b, a ≤ b → P v a → P v b) : ∀ l : List Nat, (∀ v ∈ l, ∃ b, P v b) → ∃ b, ∀ v ∈ l, P v b
  | [], _ => ⟨0, fun v h => absurd h List.not_mem_nil⟩
  | x :: r, h => by
    obtain ⟨b, hb⟩ := bound_all mono r fun v hv => h v (List.mem_cons_of_mem _ hv)
    obtain ⟨c, hc⟩ := h x List.mem_cons_self
    refine ⟨b + c, fun v hv => ?_⟩
    rcases List.mem_cons.mp hv with e | e
    · rw [e]; exact mono _ _ _ (by omega) hc
    · exact mono _ _ _ (by omega) (hb v e)
/-- m values, m + 1 remainders: one is free -/
theorem free_rem (f : Nat → Nat) (l : List Nat) : ∃ r, r ≤ l.length ∧ ∀ v ∈ l, f v ≠ r := by
  apply Classical.byContradiction
  intro h
  have h : ∀ r, r ≤ l.length → ∃ v ∈ l, f v = r := fun r hr => Classical.byContradiction fun z => h ⟨r, hr, fun v hv e => z ⟨v, hv, e⟩⟩
  have sub : ∀ x ∈ List.range (l.length + 1), x ∈ l.map f := fun x hx => by
    obtain ⟨v, hv, e⟩ := h x (by have := List.mem_range.mp hx; omega)
    exact List.mem_map.mpr ⟨v, hv, e⟩
  have := (List.nodup_range (n := l.length + 1)).length_le_of_subset (l₂ := l.map f) sub
  rw [List.length_range, List.length_map] at this
  omega
/-- the greater one -/
def mx (a : Int) : List Int → Int
  | [] => a
  | x :: r => mx (if a < x then x else a) r
theorem mx_ge : ∀ (l : List Int) (a : Int), a ≤ mx a l ∧ ∀ x ∈ l, x ≤ mx a l
  | [], a => ⟨Int.le_refl _, fun x h => absurd h List.not_mem_nil⟩
  | y :: r, a => by
    obtain ⟨h1, h2⟩ := mx_ge r (if a < y then y else a)
    unfold mx
    refine ⟨?_, fun x hx => ?_⟩
    · split at h1 <;> rename_i c
      · rw [if_pos c]; omega
      · rw [if_neg c]; exact h1
    · rcases List.mem_cons.mp hx with e | e
      · rw [e]
        split at h1 <;> rename_i c
        · rw [if_pos c]; exact h1
        · rw [if_neg c]; omega
      · exact h2 x e
theorem mx_mem : ∀ (l : List Int) (a : Int), mx a l = a ∨ mx a l ∈ l
  | [], a => .inl rfl
  | y :: r, a => by
    unfold mx
    rcases mx_mem r (if a < y then y else a) with h | h
    · split at h <;> rename_i c
      · rw [if_pos c]; exact .inr (by rw [h]; exact List.mem_cons_self)
      · rw [if_neg c]; exact .inl h
    · exact .inr (List.mem_cons_of_mem _ h)
section
variable (R : Nat → Terms) (F : Int)
/-- k rounds of raising -/
def rs : Nat → Nat → Int
  | 0, _ => 0
  | k + 1, v => mx (rs k v) ((R v).map fun p => rs k p.1.toNat + (F * p.2 + 1))
theorem rs_le (k v : Nat) : rs R F k v ≤ rs R F (k + 1) v := (mx_ge _ _).1
theorem rs_mono {j k : Nat} (h : j ≤ k) (v : Nat) : rs R F j v ≤ rs R F k v := by
  induction k with
  | zero => rw [Nat.le_zero.mp h]; exact Int.le_refl _
  | succ k ih =>
    by_cases e : j = k + 1
    · rw [e]; exact Int.le_refl _
    · exact Int.le_trans (ih (by omega)) (rs_le R F k v)
theorem rs_nn (k v : Nat) : 0 ≤ rs R F k v := rs_mono R F (Nat.zero_le k) v
theorem rs_term {k v : Nat} {p : Int × Int} (h : p ∈ R v) : rs R F k p.1.toNat + (F * p.2 + 1) ≤ rs R F (k + 1) v := (mx_ge _ _).2 _ (List.mem_map.mpr ⟨p, h, rfl⟩)
/-- what raised it last -/
theorem rs_last (v : Nat) : ∀ k, 0 < rs R F k v → ∃ j p, p ∈ R v ∧ j < k ∧ rs R F k v = rs R F j p.1.toNat + (F * p.2 + 1)
  | 0, h => absurd h (Int.lt_irrefl 0)
  | k + 1, h => by
    rcases mx_mem ((R v).map fun p => rs R F k p.1.toNat + (F * p.2 + 1)) (rs R F k v) with e | e
    · have e : rs R F (k + 1) v = rs R F k v := e
      rw [e] at h
      obtain ⟨j, p, h1, h2, h3⟩ := rs_last v k h
      exact ⟨j, p, h1, by omega, by rw [e]; exact h3⟩
    · obtain ⟨p, hp, q⟩ := List.mem_map.mp e
      exact ⟨k, p, hp, Nat.lt_succ_self k, q.symm⟩
end
theorem div_le_of {a b c F : Int} (hF : 0 < F) (h : a ≤ b + F * c) : a / F ≤ b / F + c := by
  have : a / F ≤ (b + F * c) / F := Int.ediv_le_ediv hF h
  rw [Int.add_mul_ediv_left _ _ (by omega)] at this
  exact this
theorem div_succ {x F : Int} (hF : 0 < F) (h : x % F ≠ F - 1) : (x + 1) / F = x / F := by
  have h1 := Int.emod_nonneg x (show F ≠ 0 by omega)
  have h2 := Int.emod_lt_of_pos x hF
  have h3 := Int.mul_ediv_add_emod x F
  have : x + 1 = (x % F + 1) + F * (x / F) := by omega
  rw [this, Int.add_mul_ediv_left _ _ (by omega), Int.ediv_eq_zero_of_lt (by omega) (by omega)]
  omega
/-- potentials, factor one more than the variables -/
theorem pot_more (n : Nat) (l : List Nat) (hl : ∀ v ∈ l, v < n) (R : Nat → Terms) (hin : ∀ v ∈ l, ∀ p ∈ R v, p.1.toNat ∈ l) (hN : ∀ (S : Nat → Prop) (X : Nat → Int), (∃ v, v ∈ l ∧ S v) → ¬ ∀ v, v ∈ l → S v → ∃ p ∈ R v, S p.1.toNat ∧ X v ≤ X p.1.toNat + p.2) :
    ∃ N : Nat → Int, (∀ v, 0 ≤ N v) ∧ ∀ v ∈ l, ∀ p ∈ R v, N p.1.toNat + (((l.length : Int) + 1) * p.2 + 1) ≤ N v := by
  generalize hF : (l.length : Int) + 1 = F
  have hF0 : 0 < F := by omega
  by_cases hA : ∀ v ∈ l, ∃ b : Nat, ∀ k, rs R F k v ≤ b
  · obtain ⟨b, hb⟩ := bound_all (P := fun v b => ∀ k, rs R F k v ≤ (b : Int)) (fun v a c hac h k => Int.le_trans (h k) (by omega)) l hA
    -- somewhere nothing is raised
    have stop : ∃ k, ∀ v ∈ l, rs R F (k + 1) v = rs R F k v := by
      apply Classical.byContradiction
      intro hno
      have hno : ∀ k, ∃ v ∈ l, rs R F k v < rs R F (k + 1) v := fun k => Classical.byContradiction fun z => hno ⟨k, fun v hv => by
        have h1 := rs_le R F k v
        have h2 : ¬ rs R F k v < rs R F (k + 1) v := fun q => z ⟨v, hv, q⟩
        omega⟩
      have sum_le : ∀ (m : List Nat) (k : Nat), (m.map (rs R F k)).sum ≤ (m.map (rs R F (k + 1))).sum := fun m k => by
        induction m with
        | nil => exact Int.le_refl _
        | cons x r ih =>
          simp only [List.map_cons, List.sum_cons]
          have := rs_le R F k x
          omega
      have sum_lt : ∀ (m : List Nat) (k : Nat), (∃ v ∈ m, rs R F k v < rs R F (k + 1) v) → (m.map (rs R F k)).sum < (m.map (rs R F (k + 1))).sum := fun m k => by
        induction m with
        | nil => exact fun ⟨v, hv, _⟩ => absurd hv List.not_mem_nil
        | cons x r ih =>
          rintro ⟨v, hv, q⟩
          simp only [List.map_cons, List.sum_cons]
          have h1 := rs_le R F k x
          have h2 := sum_le r k
          rcases List.mem_cons.mp hv with e | e
          · subst e; omega
          · have := ih ⟨v, e, q⟩
            omega
      have grow : ∀ k : Nat, (k : Int) ≤ (l.map (rs R F k)).sum := fun k => by
        induction k with
        | zero =>
          have : ∀ m : List Nat, 0 ≤ (m.map (rs R F 0)).sum := fun m => by
            induction m with
            | nil => exact Int.le_refl _
            | cons x r ih =>
              simp only [List.map_cons, List.sum_cons]
              have : rs R F 0 x = 0 := rfl
              omega
          exact this l
        | succ k ih =>
          have := sum_lt l k (hno k)
          omega
      have top : ∀ k : Nat, (l.map (rs R F k)).sum ≤ (b : Int) * l.length := fun k => by
        have : ∀ m : List Nat, (∀ v ∈ m, v ∈ l) → (m.map (rs R F k)).sum ≤ (b : Int) * m.length := fun m => by
          induction m with
          | nil => exact fun _ => by simp
          | cons x r ih =>
            intro hm
            simp only [List.map_cons, List.sum_cons, List.length_cons]
            have h1 := hb x (hm x List.mem_cons_self) k
            have h2 := ih fun v hv => hm v (List.mem_cons_of_mem _ hv)
            rw [Int.natCast_add, Int.mul_add]
            simp only [Int.natCast_one, Int.mul_one]
            omega
        exact this l fun v hv => hv
      have h1 := grow (b * l.length + 1)
      have h2 := top (b * l.length + 1)
      rw [Int.natCast_add, Int.natCast_mul] at h1
      omega
    obtain ⟨k, hk⟩ := stop
    refine ⟨rs R F k, rs_nn R F k, fun v hv p hp => ?_⟩
    rw [← hk v hv]
    exact rs_term R F hp
  · exfalso
    have hA : ∃ v ∈ l, ∀ b : Nat, ∃ k, (b : Int) < rs R F k v := by
      apply Classical.byContradiction
      intro z
      refine hA fun v hv => Classical.byContradiction fun y => z ⟨v, hv, fun b => Classical.byContradiction fun x => y ⟨b, fun k => ?_⟩⟩
      by_cases q : (b : Int) < rs R F k v
      · exact absurd ⟨k, q⟩ x
      · omega
    let A : Nat → Prop := fun v => v ∈ l ∧ ∀ b : Nat, ∃ k, (b : Int) < rs R F k v
    have off : ∃ b : Nat, ∀ v ∈ l, A v ∨ ∀ k, rs R F k v ≤ b := by
      refine bound_all (P := fun v b => A v ∨ ∀ k, rs R F k v ≤ (b : Int)) (fun v a c hac h => h.imp id fun h k => Int.le_trans (h k) (by omega)) l fun v hv => ?_
      by_cases c : A v
      · exact ⟨0, .inl c⟩
      · have : ∃ b : Nat, ∀ k, ¬ (b : Int) < rs R F k v := Classical.byContradiction fun z => c ⟨hv, fun b => Classical.byContradiction fun y => z ⟨b, fun k q => y ⟨k, q⟩⟩⟩
        obtain ⟨b, hb⟩ := this
        exact ⟨b, .inr fun k => by have := hb k; omega⟩
    obtain ⟨bd, hbd⟩ := off
    obtain ⟨W, hW⟩ : ∃ W : Nat, ∀ v ∈ l, ∀ p ∈ R v, F * p.2 + 1 ≤ W := by
      refine bound_all (P := fun v W => ∀ p ∈ R v, F * p.2 + 1 ≤ (W : Int)) (fun v a c hac h p hp => Int.le_trans (h p hp) (by omega)) l fun v hv => ?_
      refine ⟨(mx 0 ((R v).map fun p => F * p.2 + 1)).toNat, fun p hp => ?_⟩
      have h1 := (mx_ge ((R v).map fun p => F * p.2 + 1) 0).2 _ (List.mem_map.mpr ⟨p, hp, rfl⟩)
      omega
    obtain ⟨K, hK⟩ : ∃ K : Nat, ∀ v ∈ l, A v → ((bd + W : Nat) : Int) < rs R F K v := by
      refine bound_all (P := fun v K => A v → ((bd + W : Nat) : Int) < rs R F K v) (fun v a c hac h hv => Int.lt_of_lt_of_le (h hv) (rs_mono R F hac v)) l fun v hv => ?_
      by_cases c : A v
      · obtain ⟨k, hk⟩ := c.2 (bd + W)
        exact ⟨k, fun _ => hk⟩
      · exact ⟨0, fun z => absurd z c⟩
    obtain ⟨r, hr, hfree⟩ := free_rem (fun v => (rs R F K v % F).toNat) l
    obtain ⟨v0, hv0, hu0⟩ := hA
    refine hN A (fun v => (rs R F K v + (F - 1 - r)) / F) ⟨v0, hv0, hv0, hu0⟩ fun v hv ha => ?_
    have hpos := hK v hv ha
    obtain ⟨j, p, hp, hj, e⟩ := rs_last R F v K (by omega)
    have hpl := hin v hv p hp
    have hpw := hW v hv p hp
    have hpa : A p.1.toNat := (hbd _ hpl).resolve_right fun z => by
      have := z j
      omega
    refine ⟨p, hp, hpa, ?_⟩
    have hm := rs_mono R F (Nat.le_of_lt hj) p.1.toNat
    show (rs R F K v + (F - 1 - r)) / F ≤ (rs R F K p.1.toNat + (F - 1 - r)) / F + p.2
    have h1 : rs R F K v + (F - 1 - r) ≤ (rs R F K p.1.toNat + (F - 1 - r) + 1) + F * p.2 := by omega
    have h2 := div_le_of hF0 h1
    rw [div_succ hF0] at h2
    · exact h2
    · -- the free remainder
      intro z
      have hf := hfree _ hpl
      have q1 := Int.emod_nonneg (rs R F K p.1.toNat) (show F ≠ 0 by omega)
      have q2 := Int.emod_lt_of_pos (rs R F K p.1.toNat) hF0
      have q3 : (rs R F K p.1.toNat + (F - 1 - r)) % F = (rs R F K p.1.toNat % F + (F - 1 - r)) % F := (Int.emod_add_emod _ _ _).symm
      rw [q3] at z
      generalize rs R F K p.1.toNat % F = x at hf q1 q2 z
      have hrF : (r : Int) ≤ F - 1 := by omega
      by_cases c : x + (F - 1 - r) < F
      · rw [Int.emod_eq_of_lt (by omega) c] at z
        omega
      · have : (x + (F - 1 - r)) % F = x - 1 - r := by
          rw [← Int.sub_emod_right, Int.emod_eq_of_lt (by omega) (by omega)]
          omega
        rw [this] at z
        omega
/-- potentials, the factor the number of variables -/
theorem pot (n : Nat) (l : List Nat) (hl : ∀ v ∈ l, v < n) (R : Nat → Terms) (hin : ∀ v ∈ l, ∀ p ∈ R v, p.1.toNat ∈ l) (hN : ∀ (S : Nat → Prop) (X : Nat → Int), (∃ v, v ∈ l ∧ S v) → ¬ ∀ v, v ∈ l → S v → ∃ p ∈ R v, S p.1.toNat ∧ X v ≤ X p.1.toNat + p.2) :
    ∃ N : Nat → Int, (∀ v, 0 ≤ N v) ∧ ∀ v ∈ l, ∀ p ∈ R v, N p.1.toNat + ((l.length : Int) * p.2 + 1) ≤ N v := by
  obtain ⟨M, hM0, hM⟩ := pot_more n l hl R hin hN
  generalize hm : (l.length : Int) = m at hM ⊢
  have hm0 : 0 ≤ m := by omega
  have hF0 : 0 < m + 1 := by omega
  obtain ⟨r, hr, hfree⟩ := free_rem (fun v => ((m * M v) % (m + 1)).toNat) l
  refine ⟨fun v => (m * M v + (m + 1 - r)) / (m + 1), fun v => Int.ediv_nonneg (by have := Int.mul_nonneg hm0 (hM0 v); omega) (by omega), fun v hv p hp => ?_⟩
  have h := hM v hv p hp
  have hpl := hin v hv p hp
  have h1 : m * (M p.1.toNat + ((m + 1) * p.2 + 1)) ≤ m * M v := Int.mul_le_mul_of_nonneg_left h hm0
  have h2 : m * (M p.1.toNat + ((m + 1) * p.2 + 1)) = m * M p.1.toNat + m + (m + 1) * (m * p.2) := by
    rw [Int.mul_add, Int.mul_add, Int.mul_one, ← Int.mul_assoc, ← Int.mul_assoc, Int.mul_comm m (m + 1)]
    omega
  rw [h2] at h1
  have h3 : (m * M p.1.toNat + (m + 1 - r) + m) / (m + 1) + m * p.2 ≤ (m * M v + (m + 1 - r)) / (m + 1) := by
    have := Int.ediv_le_ediv hF0 (show (m * M p.1.toNat + (m + 1 - r) + m) + (m + 1) * (m * p.2) ≤ m * M v + (m + 1 - r) by omega)
    rw [Int.add_mul_ediv_left _ _ (by omega)] at this
    exact this
  have h4 : (m * M p.1.toNat + (m + 1 - r) + m) / (m + 1) = (m * M p.1.toNat + (m + 1 - r)) / (m + 1) + 1 := by
    have hf := hfree _ hpl
    generalize m * M p.1.toNat = x at hf ⊢
    have q1 := Int.emod_nonneg x (show m + 1 ≠ 0 by omega)
    have q2 := Int.emod_lt_of_pos x hF0
    have nz : (x + (m + 1 - r)) % (m + 1) ≠ 0 := by
      intro z
      rw [Int.add_emod] at z
      have hr2 : (r : Int) ≤ m := by omega
      have hf : x % (m + 1) ≠ r := fun y => hf (by rw [y]; omega)
      generalize x % (m + 1) = y at *
      by_cases c : (r : Int) = 0
      · have : (m + 1 - (r : Int)) % (m + 1) = 0 := by rw [c, Int.sub_zero, Int.emod_self]
        rw [this, Int.add_zero, Int.emod_eq_of_lt q1 q2] at z
        omega
      · rw [Int.emod_eq_of_lt (show 0 ≤ m + 1 - (r : Int) by omega) (by omega)] at z
        by_cases d : y + (m + 1 - r) < m + 1
        · rw [Int.emod_eq_of_lt (by omega) d] at z
          omega
        · rw [← Int.sub_emod_right, Int.emod_eq_of_lt (by omega) (by omega)] at z
          omega
    generalize x + (m + 1 - r) = y at nz
    have q3 := Int.emod_nonneg y (show m + 1 ≠ 0 by omega)
    have q4 := Int.emod_lt_of_pos y hF0
    have q5 := Int.mul_ediv_add_emod y (m + 1)
    have : y + m = (y % (m + 1) - 1) + (m + 1) * (y / (m + 1) + 1) := by
      rw [Int.mul_add, Int.mul_one]
      omega
    rw [this, Int.add_mul_ediv_left _ _ (by omega), Int.ediv_eq_zero_of_lt (by omega) (by omega)]
    omega
  show (m * M p.1.toNat + (m + 1 - r)) / (m + 1) + (m * p.2 + 1) ≤ (m * M v + (m + 1 - r)) / (m + 1)
  omega
end Sv
set_option linter.all false
namespace Sv
/-! Potentials with a bound. -/
def Edg (l : List Nat) (R : Nat → Terms) (F : Int) (N : Nat → Int) : Prop := (∀ v, 0 ≤ N v) ∧ ∀ v ∈ l, ∀ p ∈ R v, N p.1.toNat + (F * p.2 + 1) ≤ N v
theorem sum_drop {f g : Nat → Nat} : ∀ (l : List Nat) (v : Nat), v ∈ l → (∀ u, g u ≤ f u) → g v < f v → (l.map g).sum < (l.map f).sum := by
  have le : ∀ (l : List Nat), (∀ u, g u ≤ f u) → (l.map g).sum ≤ (l.map f).sum := fun l h => by
    induction l with
    | nil => exact Nat.le_refl _
    | cons x r ih => have := h x; simp only [List.map_cons, List.sum_cons]; omega
  intro l
  induction l with
  | nil => intro v hv; exact absurd hv List.not_mem_nil
  | cons x r ih =>
    intro v hv h hlt
    simp only [List.map_cons, List.sum_cons]
    have h1 := h x
    have h2 := le r h
    rcases List.mem_cons.mp hv with e | e
    · subst e; omega
    · have := ih v e h hlt
      omega
/-- a least one: what is positive is held up -/
theorem minimal (l : List Nat) (R : Nat → Terms) (F : Int) : ∀ (s : Nat) (N : Nat → Int), Edg l R F N → (l.map fun v => (N v).toNat).sum ≤ s → ∃ N', Edg l R F N' ∧ ∀ v ∈ l, 0 < N' v → ∃ p ∈ R v, N' p.1.toNat + (F * p.2 + 1) = N' v := by
  intro s
  induction s with
  | zero =>
    intro N hN hs
    refine ⟨N, hN, fun v hv hp => ?_⟩
    have : ∀ m : List Nat, v ∈ m → 0 < (m.map fun v => (N v).toNat).sum := fun m => by
      induction m with
      | nil => exact fun h => absurd h List.not_mem_nil
      | cons x r ih =>
        intro h
        simp only [List.map_cons, List.sum_cons]
        rcases List.mem_cons.mp h with e | e
        · subst e; omega
        · have := ih e; omega
    have := this l hv
    omega
  | succ s ih =>
    intro N hN hs
    by_cases c : ∀ v ∈ l, 0 < N v → ∃ p ∈ R v, N p.1.toNat + (F * p.2 + 1) = N v
    · exact ⟨N, hN, c⟩
    · have : ∃ v, v ∈ l ∧ 0 < N v ∧ ∀ p ∈ R v, N p.1.toNat + (F * p.2 + 1) ≠ N v := Classical.byContradiction fun z => c fun v hv hp => Classical.byContradiction fun y => z ⟨v, hv, hp, fun p hpm e => y ⟨p, hpm, e⟩⟩
      obtain ⟨v, hv, hp, hne⟩ := this
      refine ih (fun u => if u = v then N v - 1 else N u) ⟨fun u => ?_, fun u hu p hpm => ?_⟩ ?_
      · show 0 ≤ if u = v then N v - 1 else N u
        have := hN.1 u
        split <;> omega
      · have h1 := hN.2 u hu p hpm
        show (if p.1.toNat = v then N v - 1 else N p.1.toNat) + (F * p.2 + 1) ≤ if u = v then N v - 1 else N u
        have h3 : (if p.1.toNat = v then N v - 1 else N p.1.toNat) ≤ N p.1.toNat := by
          split
          · rename_i e; rw [e]; omega
          · exact Int.le_refl _
        by_cases e : u = v
        · rw [if_pos e]
          subst e
          have h2 := hne p hpm
          omega
        · rw [if_neg e]
          omega
      · have := sum_drop (f := fun u => (N u).toNat) (g := fun u => (if u = v then N v - 1 else N u).toNat) l v hv (fun u => by
          show (if u = v then N v - 1 else N u).toNat ≤ (N u).toNat
          split
          · rename_i e; rw [e]; omega
          · exact Nat.le_refl _) (by
          show (if v = v then N v - 1 else N v).toNat < (N v).toNat
          rw [if_pos rfl]
          omega)
        have h2 : (l.map fun u => (if u = v then N v - 1 else N u).toNat).sum < (l.map fun u => (N u).toNat).sum := this
        omega
theorem pot_more_bd (n : Nat) (l : List Nat) (hl : ∀ v ∈ l, v < n) (R : Nat → Terms) (hin : ∀ v ∈ l, ∀ p ∈ R v, p.1.toNat ∈ l) (hN : ∀ (S : Nat → Prop) (X : Nat → Int), (∃ v, v ∈ l ∧ S v) → ¬ ∀ v, v ∈ l → S v → ∃ p ∈ R v, S p.1.toNat ∧ X v ≤ X p.1.toNat + p.2)
    (W : Nat) (hW : ∀ v ∈ l, ∀ p ∈ R v, ((l.length : Int) + 1) * p.2 + 1 ≤ W) :
    ∃ N : Nat → Int, Edg l R ((l.length : Int) + 1) N ∧ ∀ v ∈ l, N v ≤ ((l.length * W : Nat) : Int) := by
  obtain ⟨M, hM0, hM⟩ := pot_more n l hl R hin hN
  obtain ⟨N, hE, hT⟩ := minimal l R ((l.length : Int) + 1) _ M ⟨hM0, hM⟩ (Nat.le_refl _)
  refine ⟨N, hE, ?_⟩
  generalize hF : (l.length : Int) + 1 = F at *
  have hF0 : 0 < F := by omega
  obtain ⟨r, hr, hfree⟩ := free_rem (fun v => (N v % F).toNat) l
  -- no gap
  have gap : ∀ t : Nat, (∃ v ∈ l, ((t + W : Nat) : Int) < N v) → ∃ v ∈ l, (t : Int) < N v ∧ N v ≤ ((t + W : Nat) : Int) := by
    rintro t ⟨v0, hv0, hlt0⟩
    apply Classical.byContradiction
    intro hno
    refine hN (fun v => ((t + W : Nat) : Int) < N v) (fun v => (N v + (F - 1 - r)) / F) ⟨v0, hv0, hlt0⟩ fun v hv hs => ?_
    obtain ⟨p, hp, e⟩ := hT v hv (by omega)
    have hpl := hin v hv p hp
    have hw := hW v hv p hp
    refine ⟨p, hp, Classical.byContradiction fun z => hno ⟨_, hpl, by omega, by omega⟩, ?_⟩
    show (N v + (F - 1 - r)) / F ≤ (N p.1.toNat + (F - 1 - r)) / F + p.2
    have h1 : N v + (F - 1 - r) ≤ (N p.1.toNat + (F - 1 - r) + 1) + F * p.2 := by omega
    have h2 := div_le_of hF0 h1
    rw [div_succ hF0] at h2
    · exact h2
    · intro z
      have hf := hfree _ hpl
      have q1 := Int.emod_nonneg (N p.1.toNat) (show F ≠ 0 by omega)
      have q2 := Int.emod_lt_of_pos (N p.1.toNat) hF0
      have q3 : (N p.1.toNat + (F - 1 - r)) % F = (N p.1.toNat % F + (F - 1 - r)) % F := (Int.emod_add_emod _ _ _).symm
      rw [q3] at z
      generalize N p.1.toNat % F = x at hf q1 q2 z
      have hrF : (r : Int) ≤ F - 1 := by omega
      by_cases c : x + (F - 1 - r) < F
      · rw [Int.emod_eq_of_lt (by omega) c] at z
        omega
      · have : (x + (F - 1 - r)) % F = x - 1 - r := by
          rw [← Int.sub_emod_right, Int.emod_eq_of_lt (by omega) (by omega)]
          omega
        rw [this] at z
        omega
  have step : ∀ k : Nat, (∃ v ∈ l, ((k * W : Nat) : Int) < N v) → k ≤ (l.filter fun v => decide (N v ≤ ((k * W : Nat) : Int))).length := by
    intro k
    induction k with
    | zero => exact fun _ => Nat.zero_le _
    | succ k ih =>
      rintro ⟨v, hv, hlt⟩
      have e : (k + 1) * W = k * W + W := Nat.succ_mul k W
      rw [e] at hlt ⊢
      have h1 := ih ⟨v, hv, by omega⟩
      obtain ⟨u, hu, hu1, hu2⟩ := gap (k * W) ⟨v, hv, hlt⟩
      have := filter_lt (P := fun v => decide (N v ≤ ((k * W : Nat) : Int))) (Q := fun v => decide (N v ≤ ((k * W + W : Nat) : Int))) l (fun x _ hx => decide_eq_true (by have := of_decide_eq_true hx; omega)) hu (decide_eq_false (by omega)) (decide_eq_true hu2)
      omega
  intro v hv
  apply Classical.byContradiction
  intro hno
  have h1 := step l.length ⟨v, hv, by omega⟩
  have h2 := filter_lt (P := fun v => decide (N v ≤ ((l.length * W : Nat) : Int))) (Q := fun _ => true) l (fun _ _ _ => rfl) hv (decide_eq_false (by omega)) rfl
  rw [List.filter_eq_self.mpr fun _ _ => rfl] at h2
  omega
/-- potentials with the number of variables as their factor, and a bound -/
theorem pot_bd (n : Nat) (l : List Nat) (hl : ∀ v ∈ l, v < n) (R : Nat → Terms) (hin : ∀ v ∈ l, ∀ p ∈ R v, p.1.toNat ∈ l) (hN : ∀ (S : Nat → Prop) (X : Nat → Int), (∃ v, v ∈ l ∧ S v) → ¬ ∀ v, v ∈ l → S v → ∃ p ∈ R v, S p.1.toNat ∧ X v ≤ X p.1.toNat + p.2)
    (W : Nat) (hW : ∀ v ∈ l, ∀ p ∈ R v, ((l.length : Int) + 1) * p.2 + 1 ≤ W) :
    ∃ N : Nat → Int, (∀ v, 0 ≤ N v) ∧ (∀ v ∈ l, N v ≤ ((l.length * W : Nat) : Int) + 1) ∧ ∀ v ∈ l, ∀ p ∈ R v, N p.1.toNat + ((l.length : Int) * p.2 + 1) ≤ N v := by
  obtain ⟨M, ⟨hM0, hM⟩, hMb⟩ := pot_more_bd n l hl R hin hN W hW
  generalize hm : (l.length : Int) = m at hM ⊢
  have hm0 : 0 ≤ m := by omega
  have hF0 : 0 < m + 1 := by omega
  obtain ⟨r, hr, hfree⟩ := free_rem (fun v => ((m * M v) % (m + 1)).toNat) l
  refine ⟨fun v => (m * M v + (m + 1 - r)) / (m + 1), fun v => Int.ediv_nonneg (by have := Int.mul_nonneg hm0 (hM0 v); omega) (by omega), fun v hv => ?_, fun v hv p hp => ?_⟩
  · have h1 := hMb v hv
    have h2 : m * M v + (m + 1 - r) ≤ (m + 1) * (M v + 1) := by
      rw [Int.mul_add, Int.mul_one, Int.add_mul, Int.one_mul]
      have := hM0 v
      omega
    have h3 : (m * M v + (m + 1 - r)) / (m + 1) ≤ M v + 1 := by
      have := Int.ediv_le_ediv hF0 h2
      rw [Int.mul_ediv_cancel_left _ (by omega)] at this
      exact this
    show (m * M v + (m + 1 - r)) / (m + 1) ≤ _
    omega
  have h := hM v hv p hp
  have hpl := hin v hv p hp
  have h1 : m * (M p.1.toNat + ((m + 1) * p.2 + 1)) ≤ m * M v := Int.mul_le_mul_of_nonneg_left h hm0
  have h2 : m * (M p.1.toNat + ((m + 1) * p.2 + 1)) = m * M p.1.toNat + m + (m + 1) * (m * p.2) := by
    rw [Int.mul_add, Int.mul_add, Int.mul_one, ← Int.mul_assoc, ← Int.mul_assoc, Int.mul_comm m (m + 1)]
    omega
  rw [h2] at h1
  have h3 : (m * M p.1.toNat + (m + 1 - r) + m) / (m + 1) + m * p.2 ≤ (m * M v + (m + 1 - r)) / (m + 1) := by
    have := Int.ediv_le_ediv hF0 (show (m * M p.1.toNat + (m + 1 - r) + m) + (m + 1) * (m * p.2) ≤ m * M v + (m + 1 - r) by omega)
    rw [Int.add_mul_ediv_left _ _ (by omega)] at this
    exact this
  have h4 : (m * M p.1.toNat + (m + 1 - r) + m) / (m + 1) = (m * M p.1.toNat + (m + 1 - r)) / (m + 1) + 1 := by
    have hf := hfree _ hpl
    generalize m * M p.1.toNat = x at hf ⊢
    have q1 := Int.emod_nonneg x (show m + 1 ≠ 0 by omega)
    have q2 := Int.emod_lt_of_pos x hF0
    have nz : (x + (m + 1 - r)) % (m + 1) ≠ 0 := by
      intro z
      rw [Int.add_emod] at z
      have hr2 : (r : Int) ≤ m := by omega
      have hf : x % (m + 1) ≠ r := fun y => hf (by rw [y]; omega)
      generalize x % (m + 1) = y at *
      by_cases c : (r : Int) = 0
      · have : (m + 1 - (r : Int)) % (m + 1) = 0 := by rw [c, Int.sub_zero, Int.emod_self]
        rw [this, Int.add_zero, Int.emod_eq_of_lt q1 q2] at z
        omega
      · rw [Int.emod_eq_of_lt (show 0 ≤ m + 1 - (r : Int) by omega) (by omega)] at z
        by_cases d : y + (m + 1 - r) < m + 1
        · rw [Int.emod_eq_of_lt (by omega) d] at z
          omega
        · rw [← Int.sub_emod_right, Int.emod_eq_of_lt (by omega) (by omega)] at z
          omega
    generalize x + (m + 1 - r) = y at nz
    have q3 := Int.emod_nonneg y (show m + 1 ≠ 0 by omega)
    have q4 := Int.emod_lt_of_pos y hF0
    have q5 := Int.mul_ediv_add_emod y (m + 1)
    have : y + m = (y % (m + 1) - 1) + (m + 1) * (y / (m + 1) + 1) := by
      rw [Int.mul_add, Int.mul_one]
      omega
    rw [this, Int.add_mul_ediv_left _ _ (by omega), Int.ediv_eq_zero_of_lt (by omega) (by omega)]
    omega
  show (m * M p.1.toNat + (m + 1 - r)) / (m + 1) + (m * p.2 + 1) ≤ (m * M v + (m + 1 - r)) / (m + 1)
  omega
end Sv
set_option Elab.async false
set_option linter.all false
set_option maxRecDepth 100000
set_option maxHeartbeats 4000000

namespace K
open PySem PySem.Spec PyProof.Rows L2 Ev
def stm (i : Nat) : Stmt := PySem.Challenge.pw_latestof_k07_times_and_solutions_recogni.main.body.getD i (.Pass ⟨0, 0, 0, 0⟩)
abbrev blts : List Str := ["len", "abs", "int", "tuple", "list", "sum", "max", "min", "sorted", "repr", "str", "all", "range", "enumerate", "isinstance", "set", "bool"]
abbrev csts : List (Str × Int) := [("MAX_VARIABLES", 8), ("MAX_RULES", 24), ("MAX_DELAY", 60)]
abbrev sig (fs : List (Str × Fn)) : Sig := ⟨fun x => fs.lookup x, csts, blts⟩
abbrev fuel : Nat := 1000000
abbrev N_is_integer : List Str := ["value"]
abbrev P_is_integer : List Str := ["value"]
def b_is_integer : Ss := (.cons (.ret (.and (.isi (.var 0) "int") (.not (.isi (.var 0) "bool"))))
  .nil)
abbrev N_is_within : List Str := ["value", "low", "high"]
abbrev P_is_within : List Str := ["value", "low", "high"]
def b_is_within : Ss := (.cons (.ret (.and (.call "is_integer" (.cons (.var 0) .nil)) (.chain .le .le (.var 1) (.var 0) (.var 2))))
  .nil)
abbrev N_is_index : List Str := ["value", "length"]
abbrev P_is_index : List Str := ["value", "length"]
def b_is_index : Ss := (.cons (.ret (.call "is_within" (.cons (.var 0) (.cons (.int 0) (.cons (.op .sub (.var 1) (.int 1)) .nil)))))
  .nil)
abbrev N_is_tuple_of : List Str := ["value", "length"]
abbrev P_is_tuple_of : List Str := ["value", "length"]
def b_is_tuple_of : Ss := (.cons (.ret (.and (.isi (.var 0) "tuple") (.cmp .eq (.prim .len (.cons (.var 0) .nil)) (.var 1))))
  .nil)
abbrev N_ascends : List Str := ["numbers", "k"]
abbrev P_ascends : List Str := ["numbers"]
def b_ascends : Ss := (.cons (.ret (.prim .all (.cons (.comp [1] (.name 1) (.rng (.op .sub (.prim .len (.cons (.var 0) .nil)) (.int 1))) .nil (.cmp .lt (.ix (.var 0) (.var 1)) (.ix (.var 0) (.op .add (.var 1) (.int 1))))) .nil)))
  .nil)
abbrev N_greatest_sum : List Str := ["terms", "times", "sums", "variable", "delay"]
abbrev P_greatest_sum : List Str := ["terms", "times"]
def b_greatest_sum : Ss := (.cons (.asg 2 (.comp [3, 4] (.pair (.name 3) (.name 4)) (.seq (.var 0)) (.one (.val (.isC true (.ix (.var 1) (.var 3))))) (.op .add (.ix (.var 1) (.var 3)) (.var 4))))
  (.cons (.ret (.maxd (.var 2)))
  .nil))
abbrev N_holds : List Str := ["rule", "times", "right", "left", "terms"]
abbrev P_holds : List Str := ["rule", "times"]
def b_holds : Ss := (.cons (.asgT (.pair (.name 3) (.name 4)) (.var 0))
  (.cons (.ifs (.val (.isC false (.ix (.var 1) (.var 3))))
  (.cons (.ret (.bl true))
  .nil)
  .nil)
  (.cons (.asg 2 (.call "greatest_sum" (.cons (.var 4) (.cons (.var 1) .nil))))
  (.cons (.ret (.and (.isC true (.var 2)) (.cmp .le (.ix (.var 1) (.var 3)) (.var 2))))
  .nil))))
abbrev N_fulfils : List Str := ["rules", "times", "rule"]
abbrev P_fulfils : List Str := ["rules", "times"]
def b_fulfils : Ss := (.cons (.for_ (.name 2) (.seq (.ix (.var 0) (.int 1)))
  (.cons (.ifs (.not (.val (.call "holds" (.cons (.var 2) (.cons (.var 1) .nil)))))
  (.cons (.ret (.bl false))
  .nil)
  .nil)
  .nil))
  (.cons (.ret (.bl true))
  .nil))
abbrev N_is_size : List Str := ["value"]
abbrev P_is_size : List Str := ["value"]
def b_is_size : Ss := (.cons (.ret (.call "is_within" (.cons (.var 0) (.cons (.int 1) (.cons (.cst "MAX_VARIABLES" 8) .nil)))))
  .nil)
abbrev N_is_delay : List Str := ["value"]
abbrev P_is_delay : List Str := ["value"]
def b_is_delay : Ss := (.cons (.ret (.call "is_within" (.cons (.var 0) (.cons (.neg (.cst "MAX_DELAY" 60)) (.cons (.op .sub (.cst "MAX_DELAY" 60) (.int 1)) .nil)))))
  .nil)
abbrev N_check_size : List Str := ["size"]
abbrev P_check_size : List Str := ["size"]
def b_check_size : Ss := (.cons (.ifs (.not (.val (.call "is_size" (.cons (.var 0) .nil))))
  (.cons .stuck
  .nil)
  .nil)
  .nil)
abbrev N_has_delays : List Str := ["rule", "_", "delay"]
abbrev P_has_delays : List Str := ["rule"]
def b_has_delays : Ss := (.cons (.ret (.prim .all (.cons (.comp [1, 2] (.pair (.name 1) (.name 2)) (.seq (.ix (.var 0) (.int 1))) .nil (.call "is_delay" (.cons (.var 2) .nil))) .nil)))
  .nil)
abbrev N_is_loose_term : List Str := ["size", "value"]
abbrev P_is_loose_term : List Str := ["size", "value"]
def b_is_loose_term : Ss := (.cons (.ret (.and (.call "is_tuple_of" (.cons (.var 1) (.cons (.int 2) .nil))) (.and (.call "is_index" (.cons (.ix (.var 1) (.int 0)) (.cons (.var 0) .nil))) (.call "is_integer" (.cons (.ix (.var 1) (.int 1)) .nil)))))
  .nil)
abbrev N_is_unordered_rule : List Str := ["size", "value", "term"]
abbrev P_is_unordered_rule : List Str := ["size", "value"]
def b_is_unordered_rule : Ss := (.cons (.ifs (.or (.not (.val (.call "is_tuple_of" (.cons (.var 1) (.cons (.int 2) .nil))))) (.or (.not (.val (.call "is_index" (.cons (.ix (.var 1) (.int 0)) (.cons (.var 0) .nil))))) (.not (.val (.isi (.ix (.var 1) (.int 1)) "tuple")))))
  (.cons (.ret (.bl false))
  .nil)
  .nil)
  (.cons (.ret (.prim .all (.cons (.comp [2] (.name 2) (.seq (.ix (.var 1) (.int 1))) .nil (.call "_is_loose_term" (.cons (.var 0) (.cons (.var 2) .nil)))) .nil)))
  .nil))
abbrev N_is_loose_rule : List Str := ["size", "value", "term"]
abbrev P_is_loose_rule : List Str := ["size", "value"]
def b_is_loose_rule : Ss := (.cons (.ret (.and (.call "_is_unordered_rule" (.cons (.var 0) (.cons (.var 1) .nil))) (.call "ascends" (.cons (.comp [2] (.name 2) (.seq (.ix (.var 1) (.int 1))) .nil (.ix (.var 2) (.int 0))) .nil))))
  .nil)
abbrev N_is_rule : List Str := ["size", "value"]
abbrev P_is_rule : List Str := ["size", "value"]
def b_is_rule : Ss := (.cons (.expr (.call "check_size" (.cons (.var 0) .nil)))
  (.cons (.ret (.and (.call "is_loose_rule" (.cons (.var 0) (.cons (.var 1) .nil))) (.call "_has_delays" (.cons (.var 1) .nil))))
  .nil))
abbrev N_is_rule_set : List Str := ["value", "size", "rules", "rule"]
abbrev P_is_rule_set : List Str := ["value"]
def b_is_rule_set : Ss := (.cons (.ifs (.not (.val (.call "is_tuple_of" (.cons (.var 0) (.cons (.int 2) .nil)))))
  (.cons (.ret (.bl false))
  .nil)
  .nil)
  (.cons (.asgT (.pair (.name 1) (.name 2)) (.var 0))
  (.cons (.ifs (.or (.not (.val (.call "is_size" (.cons (.var 1) .nil)))) (.or (.not (.val (.isi (.var 2) "tuple"))) (.val (.cmp .gt (.prim .len (.cons (.var 2) .nil)) (.cst "MAX_RULES" 24)))))
  (.cons (.ret (.bl false))
  .nil)
  .nil)
  (.cons (.ret (.prim .all (.cons (.comp [3] (.name 3) (.seq (.var 2)) .nil (.call "is_rule" (.cons (.var 1) (.cons (.var 3) .nil)))) .nil)))
  .nil))))
abbrev N_check_rules : List Str := ["rules"]
abbrev P_check_rules : List Str := ["rules"]
def b_check_rules : Ss := (.cons (.ifs (.not (.val (.call "is_rule_set" (.cons (.var 0) .nil))))
  (.cons .stuck
  .nil)
  .nil)
  .nil)
abbrev N_is_times : List Str := ["size", "value", "entry"]
abbrev P_is_times : List Str := ["size", "value"]
def b_is_times : Ss := (.cons (.expr (.call "check_size" (.cons (.var 0) .nil)))
  (.cons (.ret (.and (.call "is_tuple_of" (.cons (.var 1) (.cons (.var 0) .nil))) (.prim .all (.cons (.comp [2] (.name 2) (.seq (.var 1)) .nil (.call "is_integer" (.cons (.var 2) .nil))) .nil))))
  .nil))
abbrev N_is_solution : List Str := ["rules", "value"]
abbrev P_is_solution : List Str := ["rules", "value"]
def b_is_solution : Ss := (.cons (.expr (.call "check_rules" (.cons (.var 0) .nil)))
  (.cons (.ret (.and (.call "is_times" (.cons (.ix (.var 0) (.int 0)) (.cons (.var 1) .nil))) (.call "fulfils" (.cons (.var 0) (.cons (.var 1) .nil)))))
  .nil))
abbrev N_law_source : List Str := ["script", "at", "cell", "great", "mixed"]
abbrev P_law_source : List Str := ["script", "at"]
def b_law_source : Ss := (.cons (.asg 2 (.ite (.val (.cmp .lt (.var 1) (.prim .len (.cons (.var 0) .nil)))) (.ix (.var 0) (.var 1)) (.op .add (.op .mul (.int 5) (.var 1)) (.int 4))))
  (.cons (.asg 3 (.op .mod (.prim .abs (.cons (.var 2) .nil)) (.op .pow (.op .pow (.int 10) (.int 60)) (.int 11))))
  (.cons (.asg 4 (.op .mod (.op .add (.op .add (.op .mul (.var 3) (.int 6364136223846793005)) (.op .mul (.int 1181783497) (.var 1))) (.prim .int (.cons (.cmp .lt (.var 2) (.int 0)) .nil))) (.int 9007199254740881)))
  (.cons (.ret (.lst (.cons (.prim .max2 (.cons (.int 0) (.cons (.op .add (.op .sub (.var 3) (.op .pow (.int 10) (.int 18))) (.int 1)) .nil))) (.cons (.var 4) (.cons (.int 0) .nil)))))
  .nil))))
abbrev N_law_draw : List Str := ["source", "many", "one", "two", "found"]
abbrev P_law_draw : List Str := ["source", "many"]
def b_law_draw : Ss := (.cons (.ifs (.val (.cmp .gt (.ix (.var 0) (.int 0)) (.int 0)))
  (.cons (.asg 4 (.op .mod (.prim .int (.cons (.ix (.var 0) (.int 0)) .nil)) (.var 1)))
  (.cons (.setix 0 (.int 0) (.op .fdiv (.ix (.var 0) (.int 0)) (.var 1)))
  (.cons (.ret (.var 4))
  .nil)))
  .nil)
  (.cons (.setix 0 (.int 2) (.op .add (.ix (.var 0) (.int 2)) (.int 1)))
  (.cons (.asg 2 (.op .mod (.prim .int (.cons (.op .add (.ix (.var 0) (.int 1)) (.op .mul (.int 2654435769) (.ix (.var 0) (.int 2)))) .nil)) (.int 4503599627370449)))
  (.cons (.asg 3 (.op .mul (.op .mod (.prim .int (.cons (.op .mul (.var 2) (.var 2)) .nil)) (.int 2251799813685119)) (.var 2)))
  (.cons (.asg 3 (.op .add (.op .add (.var 3) (.op .mul (.int 40503) (.ix (.var 0) (.int 2)))) (.op .mod (.prim .int (.cons (.ix (.var 0) (.int 1)) .nil)) (.int 32749))))
  (.cons (.ret (.op .mod (.op .fdiv (.op .mod (.prim .int (.cons (.op .mul (.var 3) (.var 3)) .nil)) (.int 1125899906842589)) (.int 1024)) (.var 1)))
  .nil))))))
abbrev N_law_delay : List Str := ["source", "reach", "way"]
abbrev P_law_delay : List Str := ["source", "reach"]
def b_law_delay : Ss := (.cons (.asg 2 (.callm "_law_draw" 0 (.cons (.int 16) .nil)))
  (.cons (.ifs (.val (.cmp .lt (.var 2) (.int 11)))
  (.cons (.ret (.op .sub (.callm "_law_draw" 0 (.cons (.int 7) .nil)) (.int 3)))
  .nil)
  .nil)
  (.cons (.ifs (.or (.val (.cmp .lt (.var 2) (.int 15))) (.val (.cmp .lt (.var 1) (.int 59))))
  (.cons (.ret (.op .sub (.callm "_law_draw" 0 (.cons (.op .add (.op .mul (.int 2) (.var 1)) (.int 1)) .nil)) (.var 1)))
  .nil)
  .nil)
  (.cons (.ret (.ix (.lst (.cons (.neg (.int 60)) (.cons (.int 59) (.cons (.neg (.int 59)) (.cons (.int 58) .nil))))) (.callm "_law_draw" 0 (.cons (.int 4) .nil))))
  .nil))))
abbrev N_law_terms : List Str := ["source", "size", "many", "reach", "found", "turn", "variable"]
abbrev P_law_terms : List Str := ["source", "size", "many", "reach"]
def b_law_terms : Ss := (.cons (.asg 4 .dnew)
  (.cons (.for_ (.name 5) (.rng (.var 2))
  (.cons (.setix 4 (.callm "_law_draw" 0 (.cons (.var 1) .nil)) (.callm "_law_delay" 0 (.cons (.var 3) .nil)))
  .nil))
  (.cons (.ret (.prim .tuple (.cons (.comp [6] (.name 6) (.seq (.prim .sorted (.cons (.var 4) .nil))) .nil (.tup (.cons (.var 6) (.cons (.ix (.var 4) (.var 6)) .nil)))) .nil)))
  .nil)))
abbrev N_law_ring : List Str := ["source", "size", "total", "turn", "delays", "left", "row", "at", "one"]
abbrev P_law_ring : List Str := ["source", "size", "total"]
def b_law_ring : Ss := (.cons (.parT 5 6 (.lrng (.var 1)) (.lst .nil))
  (.cons (.for_ (.name 3) (.rng (.op .add (.int 1) (.callm "_law_draw" 0 (.cons (.var 1) .nil))))
  (.cons (.expr (.meth .append 6 (.cons (.meth .popAt 5 (.cons (.callm "_law_draw" 0 (.cons (.prim .len (.cons (.var 5) .nil)) .nil)) .nil)) .nil)))
  .nil))
  (.cons (.asg 4 (.comp [3] (.name 3) (.seq (.var 6)) .nil (.op .sub (.callm "_law_draw" 0 (.cons (.int 7) .nil)) (.int 3))))
  (.cons (.setix 4 (.int 0) (.op .sub (.var 2) (.prim .sum (.cons (.sl (.var 4) (.cons (.int 1) .nil) .nil) .nil))))
  (.cons (.ret (.comp [7, 8] (.pair (.name 7) (.name 8)) (.enum (.var 6)) .nil (.tup (.cons (.var 8) (.cons (.tup (.cons (.tup (.cons (.ix (.var 6) (.op .sub (.var 7) (.int 1))) (.cons (.ix (.var 4) (.var 7)) .nil))) .nil)) .nil)))))
  .nil)))))
abbrev N_law_widened : List Str := ["source", "size", "row", "reach", "other", "variable", "terms", "one", "delay"]
abbrev P_law_widened : List Str := ["source", "size", "row", "reach"]
def b_law_widened : Ss := (.cons (.asgT (.pair (.name 5) (.name 6)) (.var 2))
  (.cons (.asg 4 (.callm "_law_draw" 0 (.cons (.var 1) .nil)))
  (.cons (.ifs (.or (.val (.cmp .mem (.var 4) (.comp [7, 8] (.pair (.name 7) (.name 8)) (.seq (.var 6)) .nil (.var 7)))) (.val (.cmp .gt (.callm "_law_draw" 0 (.cons (.int 3) .nil)) (.int 0))))
  (.cons (.ret (.var 2))
  .nil)
  .nil)
  (.cons (.ret (.tup (.cons (.var 5) (.cons (.prim .tuple (.cons (.prim .sorted (.cons (.op .add (.var 6) (.tup (.cons (.tup (.cons (.var 4) (.cons (.callm "_law_delay" 0 (.cons (.var 3) .nil)) .nil))) .nil))) .nil)) .nil)) .nil))))
  .nil))))
abbrev N_law_rules : List Str := ["source", "size", "reach", "found", "turn", "mixed", "ring", "wide", "many", "row"]
abbrev P_law_rules : List Str := ["source", "size", "reach"]
def b_law_rules : Ss := (.cons (.asg 3 (.lst .nil))
  (.cons (.for_ (.name 4) (.rng (.ix (.lst (.cons (.int 0) (.cons (.int 1) (.cons (.int 1) (.cons (.int 2) .nil))))) (.callm "_law_draw" 0 (.cons (.int 4) .nil))))
  (.cons (.asg 6 (.callm "_law_ring" 0 (.cons (.var 1) (.cons (.ix (.lst (.cons (.neg (.int 1)) (.cons (.neg (.int 1)) (.cons (.int 0) (.cons (.int 1) .nil))))) (.callm "_law_draw" 0 (.cons (.int 4) .nil))) .nil))))
  (.cons (.asg 7 (.callm "_law_draw" 0 (.cons (.int 2) .nil)))
  (.cons (.expr (.meth .extend 3 (.cons (.comp [9] (.name 9) (.seq (.var 6)) .nil (.ite (.val (.cmp .eq (.var 7) (.int 1))) (.callm "_law_widened" 0 (.cons (.var 1) (.cons (.var 9) (.cons (.var 2) .nil)))) (.var 9))) .nil)))
  .nil))))
  (.cons (.for_ (.name 4) (.rng (.callm "_law_draw" 0 (.cons (.op .add (.op .mul (.int 2) (.var 1)) (.int 2)) .nil)))
  (.cons (.asg 8 (.ix (.lst (.cons (.int 1) (.cons (.int 1) (.cons (.int 2) (.cons (.int 2) (.cons (.int 3) (.cons (.var 1) (.cons (.int 0) .nil)))))))) (.callm "_law_draw" 0 (.cons (.int 7) .nil))))
  (.cons (.ifs (.or (.val (.cmp .gt (.var 8) (.int 0))) (.val (.cmp .eq (.callm "_law_draw" 0 (.cons (.int 6) .nil)) (.int 0))))
  (.cons (.expr (.meth .append 3 (.cons (.tup (.cons (.callm "_law_draw" 0 (.cons (.var 1) .nil)) (.cons (.callm "_law_terms" 0 (.cons (.var 1) (.cons (.var 8) (.cons (.var 2) .nil)))) .nil))) .nil)))
  .nil)
  .nil)
  .nil)))
  (.cons (.asg 5 (.lst .nil))
  (.cons (.while_ (.val (.cmp .ne (.var 3) (.lst .nil)))
  (.cons (.expr (.meth .append 5 (.cons (.meth .popAt 3 (.cons (.callm "_law_draw" 0 (.cons (.prim .len (.cons (.var 3) .nil)) .nil)) .nil)) .nil)))
  .nil))
  (.cons (.ret (.tup (.cons (.var 1) (.cons (.prim .tuple (.cons (.sl (.var 5) .nil (.cons (.int 24) .nil)) .nil)) .nil))))
  .nil))))))
abbrev N_law_times : List Str := ["source", "size", "base", "span", "turn"]
abbrev P_law_times : List Str := ["source", "size"]
def b_law_times : Ss := (.cons (.asg 2 (.ix (.lst (.cons (.int 0) (.cons (.int 0) (.cons (.int 0) (.cons (.neg (.int 1000)) (.cons (.op .pow (.int 10) (.int 30)) (.cons (.op .sub (.int 1) (.op .pow (.int 10) (.int 39))) .nil))))))) (.callm "_law_draw" 0 (.cons (.int 6) .nil))))
  (.cons (.asg 3 (.ix (.lst (.cons (.int 1) (.cons (.int 4) (.cons (.int 9) (.cons (.int 60) .nil))))) (.callm "_law_draw" 0 (.cons (.int 4) .nil))))
  (.cons (.ret (.prim .tuple (.cons (.comp [4] (.name 4) (.rng (.var 1)) .nil (.op .add (.var 2) (.callm "_law_draw" 0 (.cons (.var 3) .nil)))) .nil)))
  .nil)))
abbrev N_law_limits : List Str := ["source", "size", "span", "base", "turn"]
abbrev P_law_limits : List Str := ["source", "size"]
def b_law_limits : Ss := (.cons (.asg 2 (.ix (.lst (.cons (.int 1) (.cons (.int 3) (.cons (.int 12) (.cons (.int 401) .nil))))) (.callm "_law_draw" 0 (.cons (.int 4) .nil))))
  (.cons (.asg 3 (.op .sub (.callm "_law_draw" 0 (.cons (.op .sub (.int 402) (.var 2)) .nil)) (.int 200)))
  (.cons (.ret (.prim .tuple (.cons (.comp [4] (.name 4) (.rng (.var 1)) .nil (.op .add (.var 3) (.callm "_law_draw" 0 (.cons (.var 2) .nil)))) .nil)))
  .nil)))
abbrev N_law_side : List Str := ["row", "times", "sums", "variable", "delay"]
abbrev P_law_side : List Str := ["row", "times"]
def b_law_side : Ss := (.cons (.asg 2 (.comp [3, 4] (.pair (.name 3) (.name 4)) (.seq (.ix (.var 0) (.int 1))) (.one (.val (.isC true (.ix (.var 1) (.var 3))))) (.op .add (.ix (.var 1) (.var 3)) (.var 4))))
  (.cons (.ret (.maxd (.var 2)))
  .nil))
abbrev N_law_holds : List Str := ["row", "times", "side"]
abbrev P_law_holds : List Str := ["row", "times"]
def b_law_holds : Ss := (.cons (.ifs (.val (.isC false (.ix (.var 1) (.ix (.var 0) (.int 0)))))
  (.cons (.ret (.bl true))
  .nil)
  .nil)
  (.cons (.asg 2 (.call "_law_side" (.cons (.var 0) (.cons (.var 1) .nil))))
  (.cons (.ret (.and (.isC true (.var 2)) (.cmp .le (.ix (.var 1) (.ix (.var 0) (.int 0))) (.var 2))))
  .nil)))
abbrev N_law_solves : List Str := ["given", "times", "row"]
abbrev P_law_solves : List Str := ["given", "times"]
def b_law_solves : Ss := (.cons (.ret (.cmp .eq (.comp [2] (.name 2) (.seq (.ix (.var 0) (.int 1))) (.one (.not (.val (.call "_law_holds" (.cons (.var 2) (.cons (.var 1) .nil)))))) (.var 2)) (.lst .nil)))
  .nil)
abbrev N_law_span : List Str := ["given", "found", "variable", "terms", "other", "delay"]
abbrev P_law_span : List Str := ["given"]
def b_law_span : Ss := (.cons (.asg 1 (.int 1))
  (.cons (.for_ (.pair (.name 2) (.name 3)) (.seq (.ix (.var 0) (.int 1)))
  (.cons (.asg 1 (.prim .max (.cons (.op .add (.lst (.cons (.var 1) .nil)) (.comp [4, 5] (.pair (.name 4) (.name 5)) (.seq (.var 3)) .nil (.op .add (.prim .abs (.cons (.var 5) .nil)) (.int 1)))) .nil)))
  .nil))
  (.cons (.ret (.var 1))
  .nil)))
abbrev N_law_latest : List Str := ["given", "limits", "size", "floor", "times", "is_still", "row", "here", "side"]
abbrev P_law_latest : List Str := ["given", "limits"]
def b_law_latest : Ss := (.cons (.asg 2 (.ix (.var 0) (.int 0)))
  (.cons (.asg 3 (.op .sub (.prim .min (.cons (.var 1) .nil)) (.op .mul (.op .sub (.var 2) (.int 1)) (.call "_law_span" (.cons (.var 0) .nil)))))
  (.cons (.par 4 5 (.prim .list (.cons (.var 1) .nil)) (.bl false))
  (.cons (.while_ (.not (.val (.var 5)))
  (.cons (.asg 5 (.bl true))
  (.cons (.for_ (.name 6) (.seq (.ix (.var 0) (.int 1)))
  (.cons (.asg 7 (.ix (.var 4) (.ix (.var 6) (.int 0))))
  (.cons (.ifs (.and (.val (.isC true (.var 7))) (.not (.val (.call "_law_holds" (.cons (.var 6) (.cons (.var 4) .nil))))))
  (.cons (.asg 8 (.call "_law_side" (.cons (.var 6) (.cons (.var 4) .nil))))
  (.cons (.setix 4 (.ix (.var 6) (.int 0)) (.ite (.and (.val (.isC true (.var 8))) (.val (.cmp .ge (.var 8) (.var 3)))) (.var 8) .non))
  (.cons (.asg 5 (.bl false))
  .nil)))
  .nil)
  .nil)))
  .nil)))
  (.cons (.ret (.prim .tuple (.cons (.var 4) .nil)))
  .nil)))))
abbrev N_law_whole : List Str := ["value"]
abbrev P_law_whole : List Str := ["value"]
def b_law_whole : Ss := (.cons (.ret (.and (.isi (.var 0) "int") (.not (.isi (.var 0) "bool"))))
  .nil)
abbrev N_law_odd : List Str := ["source", "some"]
abbrev P_law_odd : List Str := ["source"]
def b_law_odd : Ss := (.cons (.asg 1 (.lst (.cons .non (.cons (.bl true) (.cons (.bl false) (.cons (.neg (.int 1)) (.cons (.int 0) (.cons (.int 1) (.cons (.int 8) (.cons (.op .pow (.int 10) (.int 40)) (.cons (.op .sub (.int 1) (.op .pow (.int 10) (.int 41))) (.cons (.str (Str.ofString "")) (.cons (.str (Str.ofString "a")) (.cons (.str (Str.ofString "0")) (.cons (.tup .nil) (.cons (.tup (.cons (.int 0) .nil)) (.cons (.tup (.cons (.int 0) (.cons (.int 0) .nil))) (.cons (.lst .nil) (.cons (.lst (.cons (.int 0) .nil)) (.cons .dnew .nil))))))))))))))))))))
  (.cons (.ret (.ix (.op .add (.var 1) (.lst (.cons (.tup (.cons .non .nil)) (.cons (.tup (.cons (.tup .nil) .nil)) (.cons (.tup (.cons (.tup (.cons (.int 0) (.cons (.int 0) .nil))) .nil)) (.cons (.tup (.cons (.int 0) (.cons (.tup (.cons (.tup (.cons (.int 0) (.cons (.int 0) .nil))) .nil)) .nil))) (.cons (.tup (.cons (.int 1) (.cons (.tup .nil) .nil))) (.cons (.tup (.cons (.int 9) (.cons (.tup .nil) .nil))) (.cons (.dic1 0 0) .nil))))))))) (.callm "_law_draw" 0 (.cons (.int 25) .nil))))
  .nil))
abbrev N_law_bent : List Str := ["source", "value", "deep", "at", "some"]
abbrev P_law_bent : List Str := ["source", "value", "deep"]
def b_law_bent : Ss := (.cons (.ifs (.and (.val (.isi (.var 1) "tuple")) (.and (.val (.cmp .ne (.var 1) (.tup .nil))) (.and (.val (.cmp .gt (.var 2) (.int 0))) (.val (.cmp .gt (.callm "_law_draw" 0 (.cons (.int 4) .nil)) (.int 0))))))
  (.cons (.asg 3 (.callm "_law_draw" 0 (.cons (.prim .len (.cons (.var 1) .nil)) .nil)))
  (.cons (.ret (.op .add (.op .add (.sl (.var 1) .nil (.cons (.var 3) .nil)) (.tup (.cons (.callm "_law_bent" 0 (.cons (.ix (.var 1) (.var 3)) (.cons (.op .sub (.var 2) (.int 1)) .nil))) .nil))) (.sl (.var 1) (.cons (.op .add (.var 3) (.int 1)) .nil) .nil)))
  .nil))
  .nil)
  (.cons (.ifs (.val (.isi (.var 1) "tuple"))
  (.cons (.asg 3 (.callm "_law_draw" 0 (.cons (.op .add (.prim .len (.cons (.var 1) .nil)) (.int 1)) .nil)))
  (.cons (.asg 4 (.lst (.cons (.prim .list (.cons (.var 1) .nil)) (.cons (.op .add (.sl (.var 1) .nil (.cons (.var 3) .nil)) (.sl (.var 1) (.cons (.op .add (.var 3) (.int 1)) .nil) .nil)) (.cons (.op .add (.op .add (.sl (.var 1) .nil (.cons (.var 3) .nil)) (.tup (.cons (.int 0) .nil))) (.sl (.var 1) (.cons (.var 3) .nil) .nil)) (.cons (.rev (.var 1)) .nil))))))
  (.cons (.ret (.ix (.op .add (.var 4) (.lst (.cons (.op .add (.var 1) (.sl (.var 1) (.cons (.neg (.int 1)) .nil) .nil)) (.cons (.tup (.cons (.var 1) .nil)) (.cons (.tup .nil) .nil))))) (.callm "_law_draw" 0 (.cons (.int 7) .nil))))
  .nil)))
  .nil)
  (.cons (.ifs (.val (.call "_law_whole" (.cons (.var 1) .nil)))
  (.cons (.ret (.ix (.lst (.cons (.op .add (.var 1) (.int 1)) (.cons (.op .sub (.var 1) (.int 1)) (.cons (.op .sub (.int 0) (.var 1)) (.cons (.prim .str (.cons (.var 1) .nil)) (.cons (.cmp .eq (.var 1) (.int 1)) (.cons (.tup (.cons (.var 1) .nil)) (.cons .non .nil)))))))) (.callm "_law_draw" 0 (.cons (.int 7) .nil))))
  .nil)
  .nil)
  (.cons (.ret (.callm "_law_odd" 0 .nil))
  .nil))))
abbrev N_law_no_times : List Str := ["source", "size", "bad"]
abbrev P_law_no_times : List Str := ["source", "size"]
def b_law_no_times : Ss := (.cons (.asg 2 (.lst (.cons .non (.cons (.tup .nil) (.cons (.int 0) (.cons (.str (Str.ofString "0")) (.cons .dnew (.cons (.lrep (.lst (.cons (.int 0) .nil)) (.var 1)) (.cons (.op .mul (.tup (.cons (.int 0) .nil)) (.op .add (.var 1) (.int 1))) (.cons (.op .mul (.tup (.cons (.int 0) .nil)) (.op .sub (.var 1) (.int 1))) (.cons (.op .mul (.tup (.cons .non .nil)) (.var 1)) .nil)))))))))))
  (.cons (.asg 2 (.op .add (.var 2) (.lst (.cons (.op .mul (.tup (.cons (.bl true) .nil)) (.var 1)) (.cons (.op .add (.op .mul (.tup (.cons (.int 0) .nil)) (.op .sub (.var 1) (.int 1))) (.tup (.cons .non .nil))) (.cons (.op .mul (.tup (.cons (.str (Str.ofString "0")) .nil)) (.var 1)) (.cons (.op .mul (.tup (.cons (.tup (.cons (.int 0) .nil)) .nil)) (.var 1)) (.cons (.op .mul (.tup (.cons (.lst .nil) .nil)) (.var 1)) .nil))))))))
  (.cons (.ret (.ix (.var 2) (.callm "_law_draw" 0 (.cons (.int 14) .nil))))
  .nil)))
abbrev N_law_is_times : List Str := ["size", "value", "one"]
abbrev P_law_is_times : List Str := ["size", "value"]
def b_law_is_times : Ss := (.cons (.ret (.and (.isi (.var 1) "tuple") (.and (.cmp .eq (.prim .len (.cons (.var 1) .nil)) (.var 0)) (.prim .all (.cons (.comp [2] (.name 2) (.seq (.var 1)) .nil (.call "_law_whole" (.cons (.var 2) .nil))) .nil)))))
  .nil)
abbrev N_law_judged : List Str := ["given", "value", "kept", "due"]
abbrev P_law_judged : List Str := ["given", "value"]
def b_law_judged : Ss := (.cons (.asg 2 (.prim .repr (.cons (.tup (.cons (.var 0) (.cons (.var 1) .nil))) .nil)))
  (.cons (.asg 3 (.call "_law_is_times" (.cons (.ix (.var 0) (.int 0)) (.cons (.var 1) .nil))))
  (.cons (.ifs (.val (.cmp .ne (.prim .repr (.cons (.call "is_times" (.cons (.ix (.var 0) (.int 0)) (.cons (.var 1) .nil))) .nil)) (.prim .repr (.cons (.var 3) .nil))))
  (.cons (.ret (.bl false))
  .nil)
  .nil)
  (.cons (.asg 3 (.and (.var 3) (.call "_law_solves" (.cons (.var 0) (.cons (.var 1) .nil)))))
  (.cons (.ret (.and (.cmp .eq (.prim .repr (.cons (.call "is_solution" (.cons (.var 0) (.cons (.var 1) .nil))) .nil)) (.prim .repr (.cons (.var 3) .nil))) (.cmp .eq (.prim .repr (.cons (.tup (.cons (.var 0) (.cons (.var 1) .nil))) .nil)) (.var 2))))
  .nil)))))
abbrev N_law : List Str := ["script", "at", "source", "given", "times", "values", "turn", "value"]
abbrev P_law : List Str := ["script"]
def b_law : Ss := (.cons (.for_ (.name 1) (.rng (.prim .max2 (.cons (.int 1) (.cons (.prim .min2 (.cons (.int 10) (.cons (.prim .len (.cons (.var 0) .nil)) .nil))) .nil))))
  (.cons (.asg 2 (.call "_law_source" (.cons (.var 0) (.cons (.var 1) .nil))))
  (.cons (.asg 3 (.callm "_law_rules" 2 (.cons (.op .add (.int 1) (.callm "_law_draw" 2 (.cons (.int 8) .nil))) (.cons (.int 4) .nil))))
  (.cons (.asg 4 (.callm "_law_times" 2 (.cons (.ix (.var 3) (.int 0)) .nil)))
  (.cons (.asg 5 (.lst (.cons (.var 4) (.cons (.call "_law_latest" (.cons (.var 3) (.cons (.callm "_law_limits" 2 (.cons (.ix (.var 3) (.int 0)) .nil)) .nil))) (.cons (.callm "_law_no_times" 2 (.cons (.ix (.var 3) (.int 0)) .nil)) .nil)))))
  (.cons (.for_ (.name 6) (.rng (.int 6))
  (.cons (.expr (.meth .append 5 (.cons (.callm "_law_bent" 2 (.cons (.ix (.var 5) (.callm "_law_draw" 2 (.cons (.int 2) .nil))) (.cons (.int 2) .nil))) .nil)))
  .nil))
  (.cons (.for_ (.name 7) (.seq (.op .add (.var 5) (.comp [6] (.name 6) (.rng (.int 4)) .nil (.callm "_law_odd" 2 .nil))))
  (.cons (.ifs (.not (.val (.call "_law_judged" (.cons (.var 3) (.cons (.var 7) .nil)))))
  (.cons (.ret (.bl false))
  .nil)
  .nil)
  .nil))
  .nil)))))))
  (.cons (.ret (.bl true))
  .nil))
abbrev G_is_integer : Sig := sig []
def F_is_integer : Fn := runF G_is_integer fuel N_is_integer P_is_integer false b_is_integer
theorem s_is_integer : FnScope N_is_integer P_is_integer (defScope (stm 1)) := ⟨rfl, rfl, rfl, by decide +kernel, rfl, by decide +kernel, by decide +kernel⟩
theorem n_is_integer : Bnd "is_integer" (stm 1) P_is_integer := fun _ _ _ _ _ _ us hl => match us, hl with | [_], _ => rfl
theorem c_is_integer : chkSs csts blts N_is_integer (defScope (stm 1)) b_is_integer (defBody (stm 1)) = true := by decide +kernel
abbrev G_is_within : Sig := sig [("is_integer", F_is_integer)]
def F_is_within : Fn := runF G_is_within fuel N_is_within P_is_within false b_is_within
theorem s_is_within : FnScope N_is_within P_is_within (defScope (stm 2)) := ⟨rfl, rfl, rfl, by decide +kernel, rfl, by decide +kernel, by decide +kernel⟩
theorem n_is_within : Bnd "is_within" (stm 2) P_is_within := fun _ _ _ _ _ _ us hl => match us, hl with | [_, _, _], _ => rfl
theorem c_is_within : chkSs csts blts N_is_within (defScope (stm 2)) b_is_within (defBody (stm 2)) = true := by decide +kernel
abbrev G_is_index : Sig := sig [("is_within", F_is_within)]
def F_is_index : Fn := runF G_is_index fuel N_is_index P_is_index false b_is_index
theorem s_is_index : FnScope N_is_index P_is_index (defScope (stm 3)) := ⟨rfl, rfl, rfl, by decide +kernel, rfl, by decide +kernel, by decide +kernel⟩
theorem n_is_index : Bnd "is_index" (stm 3) P_is_index := fun _ _ _ _ _ _ us hl => match us, hl with | [_, _], _ => rfl
theorem c_is_index : chkSs csts blts N_is_index (defScope (stm 3)) b_is_index (defBody (stm 3)) = true := by decide +kernel
abbrev G_is_tuple_of : Sig := sig []
def F_is_tuple_of : Fn := runF G_is_tuple_of fuel N_is_tuple_of P_is_tuple_of false b_is_tuple_of
theorem s_is_tuple_of : FnScope N_is_tuple_of P_is_tuple_of (defScope (stm 4)) := ⟨rfl, rfl, rfl, by decide +kernel, rfl, by decide +kernel, by decide +kernel⟩
theorem n_is_tuple_of : Bnd "is_tuple_of" (stm 4) P_is_tuple_of := fun _ _ _ _ _ _ us hl => match us, hl with | [_, _], _ => rfl
theorem c_is_tuple_of : chkSs csts blts N_is_tuple_of (defScope (stm 4)) b_is_tuple_of (defBody (stm 4)) = true := by decide +kernel
abbrev G_ascends : Sig := sig []
def F_ascends : Fn := runF G_ascends fuel N_ascends P_ascends false b_ascends
theorem s_ascends : FnScope N_ascends P_ascends (defScope (stm 5)) := ⟨rfl, rfl, rfl, by decide +kernel, rfl, by decide +kernel, by decide +kernel⟩
theorem n_ascends : Bnd "ascends" (stm 5) P_ascends := fun _ _ _ _ _ _ us hl => match us, hl with | [_], _ => rfl
theorem c_ascends : chkSs csts blts N_ascends (defScope (stm 5)) b_ascends (defBody (stm 5)) = true := by decide +kernel
abbrev G_greatest_sum : Sig := sig []
def F_greatest_sum : Fn := runF G_greatest_sum fuel N_greatest_sum P_greatest_sum false b_greatest_sum
theorem s_greatest_sum : FnScope N_greatest_sum P_greatest_sum (defScope (stm 11)) := ⟨rfl, rfl, rfl, by decide +kernel, rfl, by decide +kernel, by decide +kernel⟩
theorem n_greatest_sum : Bnd "greatest_sum" (stm 11) P_greatest_sum := fun _ _ _ _ _ _ us hl => match us, hl with | [_, _], _ => rfl
theorem c_greatest_sum : chkSs csts blts N_greatest_sum (defScope (stm 11)) b_greatest_sum (defBody (stm 11)) = true := by decide +kernel
abbrev G_holds : Sig := sig [("greatest_sum", F_greatest_sum)]
def F_holds : Fn := runF G_holds fuel N_holds P_holds false b_holds
theorem s_holds : FnScope N_holds P_holds (defScope (stm 12)) := ⟨rfl, rfl, rfl, by decide +kernel, rfl, by decide +kernel, by decide +kernel⟩
theorem n_holds : Bnd "holds" (stm 12) P_holds := fun _ _ _ _ _ _ us hl => match us, hl with | [_, _], _ => rfl
theorem c_holds : chkSs csts blts N_holds (defScope (stm 12)) b_holds (defBody (stm 12)) = true := by decide +kernel
abbrev G_fulfils : Sig := sig [("holds", F_holds)]
def F_fulfils : Fn := runF G_fulfils fuel N_fulfils P_fulfils false b_fulfils
theorem s_fulfils : FnScope N_fulfils P_fulfils (defScope (stm 13)) := ⟨rfl, rfl, rfl, by decide +kernel, rfl, by decide +kernel, by decide +kernel⟩
theorem n_fulfils : Bnd "fulfils" (stm 13) P_fulfils := fun _ _ _ _ _ _ us hl => match us, hl with | [_, _], _ => rfl
theorem c_fulfils : chkSs csts blts N_fulfils (defScope (stm 13)) b_fulfils (defBody (stm 13)) = true := by decide +kernel
abbrev G_is_size : Sig := sig [("is_within", F_is_within)]
def F_is_size : Fn := runF G_is_size fuel N_is_size P_is_size false b_is_size
theorem s_is_size : FnScope N_is_size P_is_size (defScope (stm 18)) := ⟨rfl, rfl, rfl, by decide +kernel, rfl, by decide +kernel, by decide +kernel⟩
theorem n_is_size : Bnd "is_size" (stm 18) P_is_size := fun _ _ _ _ _ _ us hl => match us, hl with | [_], _ => rfl
theorem c_is_size : chkSs csts blts N_is_size (defScope (stm 18)) b_is_size (defBody (stm 18)) = true := by decide +kernel
abbrev G_is_delay : Sig := sig [("is_within", F_is_within)]
def F_is_delay : Fn := runF G_is_delay fuel N_is_delay P_is_delay false b_is_delay
theorem s_is_delay : FnScope N_is_delay P_is_delay (defScope (stm 19)) := ⟨rfl, rfl, rfl, by decide +kernel, rfl, by decide +kernel, by decide +kernel⟩
theorem n_is_delay : Bnd "is_delay" (stm 19) P_is_delay := fun _ _ _ _ _ _ us hl => match us, hl with | [_], _ => rfl
theorem c_is_delay : chkSs csts blts N_is_delay (defScope (stm 19)) b_is_delay (defBody (stm 19)) = true := by decide +kernel
abbrev G_check_size : Sig := sig [("is_size", F_is_size)]
def F_check_size : Fn := runF G_check_size fuel N_check_size P_check_size false b_check_size
theorem s_check_size : FnScope N_check_size P_check_size (defScope (stm 20)) := ⟨rfl, rfl, rfl, by decide +kernel, rfl, by decide +kernel, by decide +kernel⟩
theorem n_check_size : Bnd "check_size" (stm 20) P_check_size := fun _ _ _ _ _ _ us hl => match us, hl with | [_], _ => rfl
theorem c_check_size : chkSs csts blts N_check_size (defScope (stm 20)) b_check_size (defBody (stm 20)) = true := by decide +kernel
abbrev G_has_delays : Sig := sig [("is_delay", F_is_delay)]
def F_has_delays : Fn := runF G_has_delays fuel N_has_delays P_has_delays false b_has_delays
theorem s_has_delays : FnScope N_has_delays P_has_delays (defScope (stm 27)) := ⟨rfl, rfl, rfl, by decide +kernel, rfl, by decide +kernel, by decide +kernel⟩
theorem n_has_delays : Bnd "_has_delays" (stm 27) P_has_delays := fun _ _ _ _ _ _ us hl => match us, hl with | [_], _ => rfl
theorem c_has_delays : chkSs csts blts N_has_delays (defScope (stm 27)) b_has_delays (defBody (stm 27)) = true := by decide +kernel
abbrev G_is_loose_term : Sig := sig [("is_integer", F_is_integer), ("is_index", F_is_index), ("is_tuple_of", F_is_tuple_of)]
def F_is_loose_term : Fn := runF G_is_loose_term fuel N_is_loose_term P_is_loose_term false b_is_loose_term
theorem s_is_loose_term : FnScope N_is_loose_term P_is_loose_term (defScope (stm 26)) := ⟨rfl, rfl, rfl, by decide +kernel, rfl, by decide +kernel, by decide +kernel⟩
theorem n_is_loose_term : Bnd "_is_loose_term" (stm 26) P_is_loose_term := fun _ _ _ _ _ _ us hl => match us, hl with | [_, _], _ => rfl
theorem c_is_loose_term : chkSs csts blts N_is_loose_term (defScope (stm 26)) b_is_loose_term (defBody (stm 26)) = true := by decide +kernel
abbrev G_is_unordered_rule : Sig := sig [("_is_loose_term", F_is_loose_term), ("is_index", F_is_index), ("is_tuple_of", F_is_tuple_of)]
def F_is_unordered_rule : Fn := runF G_is_unordered_rule fuel N_is_unordered_rule P_is_unordered_rule false b_is_unordered_rule
theorem s_is_unordered_rule : FnScope N_is_unordered_rule P_is_unordered_rule (defScope (stm 25)) := ⟨rfl, rfl, rfl, by decide +kernel, rfl, by decide +kernel, by decide +kernel⟩
theorem n_is_unordered_rule : Bnd "_is_unordered_rule" (stm 25) P_is_unordered_rule := fun _ _ _ _ _ _ us hl => match us, hl with | [_, _], _ => rfl
theorem c_is_unordered_rule : chkSs csts blts N_is_unordered_rule (defScope (stm 25)) b_is_unordered_rule (defBody (stm 25)) = true := by decide +kernel
abbrev G_is_loose_rule : Sig := sig [("ascends", F_ascends), ("_is_unordered_rule", F_is_unordered_rule)]
def F_is_loose_rule : Fn := runF G_is_loose_rule fuel N_is_loose_rule P_is_loose_rule false b_is_loose_rule
theorem s_is_loose_rule : FnScope N_is_loose_rule P_is_loose_rule (defScope (stm 23)) := ⟨rfl, rfl, rfl, by decide +kernel, rfl, by decide +kernel, by decide +kernel⟩
theorem n_is_loose_rule : Bnd "is_loose_rule" (stm 23) P_is_loose_rule := fun _ _ _ _ _ _ us hl => match us, hl with | [_, _], _ => rfl
theorem c_is_loose_rule : chkSs csts blts N_is_loose_rule (defScope (stm 23)) b_is_loose_rule (defBody (stm 23)) = true := by decide +kernel
abbrev G_is_rule : Sig := sig [("_has_delays", F_has_delays), ("is_loose_rule", F_is_loose_rule), ("check_size", F_check_size)]
def F_is_rule : Fn := runF G_is_rule fuel N_is_rule P_is_rule false b_is_rule
theorem s_is_rule : FnScope N_is_rule P_is_rule (defScope (stm 22)) := ⟨rfl, rfl, rfl, by decide +kernel, rfl, by decide +kernel, by decide +kernel⟩
theorem n_is_rule : Bnd "is_rule" (stm 22) P_is_rule := fun _ _ _ _ _ _ us hl => match us, hl with | [_, _], _ => rfl
theorem c_is_rule : chkSs csts blts N_is_rule (defScope (stm 22)) b_is_rule (defBody (stm 22)) = true := by decide +kernel
abbrev G_is_rule_set : Sig := sig [("is_rule", F_is_rule), ("is_size", F_is_size), ("is_tuple_of", F_is_tuple_of)]
def F_is_rule_set : Fn := runF G_is_rule_set fuel N_is_rule_set P_is_rule_set false b_is_rule_set
theorem s_is_rule_set : FnScope N_is_rule_set P_is_rule_set (defScope (stm 24)) := ⟨rfl, rfl, rfl, by decide +kernel, rfl, by decide +kernel, by decide +kernel⟩
theorem n_is_rule_set : Bnd "is_rule_set" (stm 24) P_is_rule_set := fun _ _ _ _ _ _ us hl => match us, hl with | [_], _ => rfl
theorem c_is_rule_set : chkSs csts blts N_is_rule_set (defScope (stm 24)) b_is_rule_set (defBody (stm 24)) = true := by decide +kernel
abbrev G_check_rules : Sig := sig [("is_rule_set", F_is_rule_set)]
def F_check_rules : Fn := runF G_check_rules fuel N_check_rules P_check_rules false b_check_rules
theorem s_check_rules : FnScope N_check_rules P_check_rules (defScope (stm 21)) := ⟨rfl, rfl, rfl, by decide +kernel, rfl, by decide +kernel, by decide +kernel⟩
theorem n_check_rules : Bnd "check_rules" (stm 21) P_check_rules := fun _ _ _ _ _ _ us hl => match us, hl with | [_], _ => rfl
theorem c_check_rules : chkSs csts blts N_check_rules (defScope (stm 21)) b_check_rules (defBody (stm 21)) = true := by decide +kernel
abbrev G_is_times : Sig := sig [("is_integer", F_is_integer), ("is_tuple_of", F_is_tuple_of), ("check_size", F_check_size)]
def F_is_times : Fn := runF G_is_times fuel N_is_times P_is_times false b_is_times
theorem s_is_times : FnScope N_is_times P_is_times (defScope (stm 29)) := ⟨rfl, rfl, rfl, by decide +kernel, rfl, by decide +kernel, by decide +kernel⟩
theorem n_is_times : Bnd "is_times" (stm 29) P_is_times := fun _ _ _ _ _ _ us hl => match us, hl with | [_, _], _ => rfl
theorem c_is_times : chkSs csts blts N_is_times (defScope (stm 29)) b_is_times (defBody (stm 29)) = true := by decide +kernel
abbrev G_is_solution : Sig := sig [("fulfils", F_fulfils), ("is_times", F_is_times), ("check_rules", F_check_rules)]
def F_is_solution : Fn := runF G_is_solution fuel N_is_solution P_is_solution false b_is_solution
theorem s_is_solution : FnScope N_is_solution P_is_solution (defScope (stm 30)) := ⟨rfl, rfl, rfl, by decide +kernel, rfl, by decide +kernel, by decide +kernel⟩
theorem n_is_solution : Bnd "is_solution" (stm 30) P_is_solution := fun _ _ _ _ _ _ us hl => match us, hl with | [_, _], _ => rfl
theorem c_is_solution : chkSs csts blts N_is_solution (defScope (stm 30)) b_is_solution (defBody (stm 30)) = true := by decide +kernel
abbrev G_law_source : Sig := sig []
def F_law_source : Fn := runF G_law_source fuel N_law_source P_law_source false b_law_source
theorem s_law_source : FnScope N_law_source P_law_source (defScope (stm 32)) := ⟨rfl, rfl, rfl, by decide +kernel, rfl, by decide +kernel, by decide +kernel⟩
theorem n_law_source : Bnd "_law_source" (stm 32) P_law_source := fun _ _ _ _ _ _ us hl => match us, hl with | [_, _], _ => rfl
theorem c_law_source : chkSs csts blts N_law_source (defScope (stm 32)) b_law_source (defBody (stm 32)) = true := by decide +kernel
abbrev G_law_draw : Sig := sig []
def F_law_draw : Fn := runF G_law_draw fuel N_law_draw P_law_draw true b_law_draw
theorem s_law_draw : FnScope N_law_draw P_law_draw (defScope (stm 33)) := ⟨rfl, rfl, rfl, by decide +kernel, rfl, by decide +kernel, by decide +kernel⟩
theorem n_law_draw : Bnd "_law_draw" (stm 33) P_law_draw := fun _ _ _ _ _ _ us hl => match us, hl with | [_, _], _ => rfl
theorem c_law_draw : chkSs csts blts N_law_draw (defScope (stm 33)) b_law_draw (defBody (stm 33)) = true := by decide +kernel
abbrev G_law_delay : Sig := sig [("_law_draw", F_law_draw)]
def F_law_delay : Fn := runF G_law_delay fuel N_law_delay P_law_delay true b_law_delay
theorem s_law_delay : FnScope N_law_delay P_law_delay (defScope (stm 34)) := ⟨rfl, rfl, rfl, by decide +kernel, rfl, by decide +kernel, by decide +kernel⟩
theorem n_law_delay : Bnd "_law_delay" (stm 34) P_law_delay := fun _ _ _ _ _ _ us hl => match us, hl with | [_, _], _ => rfl
theorem c_law_delay : chkSs csts blts N_law_delay (defScope (stm 34)) b_law_delay (defBody (stm 34)) = true := by decide +kernel
abbrev G_law_terms : Sig := sig [("_law_draw", F_law_draw), ("_law_delay", F_law_delay)]
def F_law_terms : Fn := runF G_law_terms fuel N_law_terms P_law_terms true b_law_terms
theorem s_law_terms : FnScope N_law_terms P_law_terms (defScope (stm 35)) := ⟨rfl, rfl, rfl, by decide +kernel, rfl, by decide +kernel, by decide +kernel⟩
theorem n_law_terms : Bnd "_law_terms" (stm 35) P_law_terms := fun _ _ _ _ _ _ us hl => match us, hl with | [_, _, _, _], _ => rfl
theorem c_law_terms : chkSs csts blts N_law_terms (defScope (stm 35)) b_law_terms (defBody (stm 35)) = true := by decide +kernel
abbrev G_law_ring : Sig := sig [("_law_draw", F_law_draw)]
def F_law_ring : Fn := runF G_law_ring fuel N_law_ring P_law_ring true b_law_ring
theorem s_law_ring : FnScope N_law_ring P_law_ring (defScope (stm 36)) := ⟨rfl, rfl, rfl, by decide +kernel, rfl, by decide +kernel, by decide +kernel⟩
theorem n_law_ring : Bnd "_law_ring" (stm 36) P_law_ring := fun _ _ _ _ _ _ us hl => match us, hl with | [_, _, _], _ => rfl
theorem c_law_ring : chkSs csts blts N_law_ring (defScope (stm 36)) b_law_ring (defBody (stm 36)) = true := by decide +kernel
abbrev G_law_widened : Sig := sig [("_law_delay", F_law_delay), ("_law_draw", F_law_draw)]
def F_law_widened : Fn := runF G_law_widened fuel N_law_widened P_law_widened true b_law_widened
theorem s_law_widened : FnScope N_law_widened P_law_widened (defScope (stm 37)) := ⟨rfl, rfl, rfl, by decide +kernel, rfl, by decide +kernel, by decide +kernel⟩
theorem n_law_widened : Bnd "_law_widened" (stm 37) P_law_widened := fun _ _ _ _ _ _ us hl => match us, hl with | [_, _, _, _], _ => rfl
theorem c_law_widened : chkSs csts blts N_law_widened (defScope (stm 37)) b_law_widened (defBody (stm 37)) = true := by decide +kernel
abbrev G_law_rules : Sig := sig [("_law_draw", F_law_draw), ("_law_terms", F_law_terms), ("_law_widened", F_law_widened), ("_law_ring", F_law_ring)]
def F_law_rules : Fn := runF G_law_rules fuel N_law_rules P_law_rules true b_law_rules
theorem s_law_rules : FnScope N_law_rules P_law_rules (defScope (stm 38)) := ⟨rfl, rfl, rfl, by decide +kernel, rfl, by decide +kernel, by decide +kernel⟩
theorem n_law_rules : Bnd "_law_rules" (stm 38) P_law_rules := fun _ _ _ _ _ _ us hl => match us, hl with | [_, _, _], _ => rfl
theorem c_law_rules : chkSs csts blts N_law_rules (defScope (stm 38)) b_law_rules (defBody (stm 38)) = true := by decide +kernel
abbrev G_law_times : Sig := sig [("_law_draw", F_law_draw)]
def F_law_times : Fn := runF G_law_times fuel N_law_times P_law_times true b_law_times
theorem s_law_times : FnScope N_law_times P_law_times (defScope (stm 39)) := ⟨rfl, rfl, rfl, by decide +kernel, rfl, by decide +kernel, by decide +kernel⟩
theorem n_law_times : Bnd "_law_times" (stm 39) P_law_times := fun _ _ _ _ _ _ us hl => match us, hl with | [_, _], _ => rfl
theorem c_law_times : chkSs csts blts N_law_times (defScope (stm 39)) b_law_times (defBody (stm 39)) = true := by decide +kernel
abbrev G_law_limits : Sig := sig [("_law_draw", F_law_draw)]
def F_law_limits : Fn := runF G_law_limits fuel N_law_limits P_law_limits true b_law_limits
theorem s_law_limits : FnScope N_law_limits P_law_limits (defScope (stm 40)) := ⟨rfl, rfl, rfl, by decide +kernel, rfl, by decide +kernel, by decide +kernel⟩
theorem n_law_limits : Bnd "_law_limits" (stm 40) P_law_limits := fun _ _ _ _ _ _ us hl => match us, hl with | [_, _], _ => rfl
theorem c_law_limits : chkSs csts blts N_law_limits (defScope (stm 40)) b_law_limits (defBody (stm 40)) = true := by decide +kernel
abbrev G_law_side : Sig := sig []
def F_law_side : Fn := runF G_law_side fuel N_law_side P_law_side false b_law_side
theorem s_law_side : FnScope N_law_side P_law_side (defScope (stm 41)) := ⟨rfl, rfl, rfl, by decide +kernel, rfl, by decide +kernel, by decide +kernel⟩
theorem n_law_side : Bnd "_law_side" (stm 41) P_law_side := fun _ _ _ _ _ _ us hl => match us, hl with | [_, _], _ => rfl
theorem c_law_side : chkSs csts blts N_law_side (defScope (stm 41)) b_law_side (defBody (stm 41)) = true := by decide +kernel
abbrev G_law_holds : Sig := sig [("_law_side", F_law_side)]
def F_law_holds : Fn := runF G_law_holds fuel N_law_holds P_law_holds false b_law_holds
theorem s_law_holds : FnScope N_law_holds P_law_holds (defScope (stm 42)) := ⟨rfl, rfl, rfl, by decide +kernel, rfl, by decide +kernel, by decide +kernel⟩
theorem n_law_holds : Bnd "_law_holds" (stm 42) P_law_holds := fun _ _ _ _ _ _ us hl => match us, hl with | [_, _], _ => rfl
theorem c_law_holds : chkSs csts blts N_law_holds (defScope (stm 42)) b_law_holds (defBody (stm 42)) = true := by decide +kernel
abbrev G_law_solves : Sig := sig [("_law_holds", F_law_holds)]
def F_law_solves : Fn := runF G_law_solves fuel N_law_solves P_law_solves false b_law_solves
theorem s_law_solves : FnScope N_law_solves P_law_solves (defScope (stm 43)) := ⟨rfl, rfl, rfl, by decide +kernel, rfl, by decide +kernel, by decide +kernel⟩
theorem n_law_solves : Bnd "_law_solves" (stm 43) P_law_solves := fun _ _ _ _ _ _ us hl => match us, hl with | [_, _], _ => rfl
theorem c_law_solves : chkSs csts blts N_law_solves (defScope (stm 43)) b_law_solves (defBody (stm 43)) = true := by decide +kernel
abbrev G_law_span : Sig := sig []
def F_law_span : Fn := runF G_law_span fuel N_law_span P_law_span false b_law_span
theorem s_law_span : FnScope N_law_span P_law_span (defScope (stm 44)) := ⟨rfl, rfl, rfl, by decide +kernel, rfl, by decide +kernel, by decide +kernel⟩
theorem n_law_span : Bnd "_law_span" (stm 44) P_law_span := fun _ _ _ _ _ _ us hl => match us, hl with | [_], _ => rfl
theorem c_law_span : chkSs csts blts N_law_span (defScope (stm 44)) b_law_span (defBody (stm 44)) = true := by decide +kernel
abbrev G_law_latest : Sig := sig [("_law_holds", F_law_holds), ("_law_side", F_law_side), ("_law_span", F_law_span)]
def F_law_latest : Fn := runF G_law_latest fuel N_law_latest P_law_latest false b_law_latest
theorem s_law_latest : FnScope N_law_latest P_law_latest (defScope (stm 45)) := ⟨rfl, rfl, rfl, by decide +kernel, rfl, by decide +kernel, by decide +kernel⟩
theorem n_law_latest : Bnd "_law_latest" (stm 45) P_law_latest := fun _ _ _ _ _ _ us hl => match us, hl with | [_, _], _ => rfl
theorem c_law_latest : chkSs csts blts N_law_latest (defScope (stm 45)) b_law_latest (defBody (stm 45)) = true := by decide +kernel
abbrev G_law_whole : Sig := sig []
def F_law_whole : Fn := runF G_law_whole fuel N_law_whole P_law_whole false b_law_whole
theorem s_law_whole : FnScope N_law_whole P_law_whole (defScope (stm 46)) := ⟨rfl, rfl, rfl, by decide +kernel, rfl, by decide +kernel, by decide +kernel⟩
theorem n_law_whole : Bnd "_law_whole" (stm 46) P_law_whole := fun _ _ _ _ _ _ us hl => match us, hl with | [_], _ => rfl
theorem c_law_whole : chkSs csts blts N_law_whole (defScope (stm 46)) b_law_whole (defBody (stm 46)) = true := by decide +kernel
abbrev G_law_odd : Sig := sig [("_law_draw", F_law_draw)]
def F_law_odd : Fn := runF G_law_odd fuel N_law_odd P_law_odd true b_law_odd
theorem s_law_odd : FnScope N_law_odd P_law_odd (defScope (stm 47)) := ⟨rfl, rfl, rfl, by decide +kernel, rfl, by decide +kernel, by decide +kernel⟩
theorem n_law_odd : Bnd "_law_odd" (stm 47) P_law_odd := fun _ _ _ _ _ _ us hl => match us, hl with | [_], _ => rfl
theorem c_law_odd : chkSs csts blts N_law_odd (defScope (stm 47)) b_law_odd (defBody (stm 47)) = true := by decide +kernel
def F_law_bent : Nat → Fn
  | 0 => ⟨true, fun _ => none⟩
  | k + 1 => runF (sig [("_law_odd", F_law_odd), ("_law_whole", F_law_whole), ("_law_draw", F_law_draw), ("_law_bent", F_law_bent k)]) fuel N_law_bent P_law_bent true b_law_bent
abbrev G_law_bent (k : Nat) : Sig := sig [("_law_odd", F_law_odd), ("_law_whole", F_law_whole), ("_law_draw", F_law_draw), ("_law_bent", F_law_bent k)]
theorem s_law_bent : FnScope N_law_bent P_law_bent (defScope (stm 48)) := ⟨rfl, rfl, rfl, by decide +kernel, rfl, by decide +kernel, by decide +kernel⟩
theorem n_law_bent : Bnd "_law_bent" (stm 48) P_law_bent := fun _ _ _ _ _ _ us hl => match us, hl with | [_, _, _], _ => rfl
theorem c_law_bent : chkSs csts blts N_law_bent (defScope (stm 48)) b_law_bent (defBody (stm 48)) = true := by decide +kernel
abbrev G_law_no_times : Sig := sig [("_law_draw", F_law_draw)]
def F_law_no_times : Fn := runF G_law_no_times fuel N_law_no_times P_law_no_times true b_law_no_times
theorem s_law_no_times : FnScope N_law_no_times P_law_no_times (defScope (stm 49)) := ⟨rfl, rfl, rfl, by decide +kernel, rfl, by decide +kernel, by decide +kernel⟩
theorem n_law_no_times : Bnd "_law_no_times" (stm 49) P_law_no_times := fun _ _ _ _ _ _ us hl => match us, hl with | [_, _], _ => rfl
theorem c_law_no_times : chkSs csts blts N_law_no_times (defScope (stm 49)) b_law_no_times (defBody (stm 49)) = true := by decide +kernel
abbrev G_law_is_times : Sig := sig [("_law_whole", F_law_whole)]
def F_law_is_times : Fn := runF G_law_is_times fuel N_law_is_times P_law_is_times false b_law_is_times
theorem s_law_is_times : FnScope N_law_is_times P_law_is_times (defScope (stm 50)) := ⟨rfl, rfl, rfl, by decide +kernel, rfl, by decide +kernel, by decide +kernel⟩
theorem n_law_is_times : Bnd "_law_is_times" (stm 50) P_law_is_times := fun _ _ _ _ _ _ us hl => match us, hl with | [_, _], _ => rfl
theorem c_law_is_times : chkSs csts blts N_law_is_times (defScope (stm 50)) b_law_is_times (defBody (stm 50)) = true := by decide +kernel
abbrev G_law_judged : Sig := sig [("is_solution", F_is_solution), ("_law_solves", F_law_solves), ("is_times", F_is_times), ("_law_is_times", F_law_is_times)]
def F_law_judged : Fn := runF G_law_judged fuel N_law_judged P_law_judged false b_law_judged
theorem s_law_judged : FnScope N_law_judged P_law_judged (defScope (stm 51)) := ⟨rfl, rfl, rfl, by decide +kernel, rfl, by decide +kernel, by decide +kernel⟩
theorem n_law_judged : Bnd "_law_judged" (stm 51) P_law_judged := fun _ _ _ _ _ _ us hl => match us, hl with | [_, _], _ => rfl
theorem c_law_judged : chkSs csts blts N_law_judged (defScope (stm 51)) b_law_judged (defBody (stm 51)) = true := by decide +kernel
abbrev G_law : Sig := sig [("_law_odd", F_law_odd), ("_law_judged", F_law_judged), ("_law_bent", F_law_bent 6), ("_law_draw", F_law_draw), ("_law_no_times", F_law_no_times), ("_law_latest", F_law_latest), ("_law_limits", F_law_limits), ("_law_times", F_law_times), ("_law_rules", F_law_rules), ("_law_source", F_law_source)]
def F_law : Fn := runF G_law fuel N_law P_law false b_law
theorem s_law : FnScope N_law P_law (defScope (stm 52)) := ⟨rfl, rfl, rfl, by decide +kernel, rfl, by decide +kernel, by decide +kernel⟩
theorem n_law : Bnd "law" (stm 52) P_law := fun _ _ _ _ _ _ us hl => match us, hl with | [_], _ => rfl
theorem c_law : chkSs csts blts N_law (defScope (stm 52)) b_law (defBody (stm 52)) = true := by decide +kernel
end K
set_option Elab.async false
set_option linter.all false
set_option maxRecDepth 100000
set_option maxHeartbeats 4000000
namespace K
open PySem PySem.Spec PyProof.Rows L2 Ev
local macro_rules | `(tactic| contradiction) => `(tactic| (((first
  | refine Stp1.h ?_
  | ((with_reducible refine gi_mk ?_); refine gv_some.mpr ?_)
  | ((with_reducible refine b_name ?_ ?_); · (simp only [List.length_cons, List.length_nil, List.length_set]; decide))
  | ((with_reducible refine gs_val ?_ ?_); · (simp only [List.length_cons, List.length_nil, List.length_set]; decide))
  | with_reducible refine And.intro rfl ?_)) <;> try dsimp only [List.set_cons_zero, List.set_cons_succ, List.length_cons, List.length_nil, Int.reduceToNat]))
/-- a state of the draws with so many to come -/
def Src (k : Nat) (s : List D) : Prop := ∃ a b c : Int, s = [.int a, .int b, .int c] ∧ 0 ≤ a ∧ 0 ≤ b ∧ b < 9007199254740881 ∧ 0 ≤ c ∧ c + k < 2 ^ 40
theorem draw_ok {s : List D} {k : Nat} {m : Int} (hs : Src (k + 1) s) (hm : 0 < m) (hb : m < 2 ^ 60) : Gv (F_law_draw.fn [.list s, .int m]) fun r => ∃ v s', r = ((false, .int v), .list s') ∧ 0 ≤ v ∧ v < m ∧ Src k s' := by
  obtain ⟨a, b, c, rfl, ha, hb1, hb2, hc, hk⟩ := hs
  refine run_gv [some (true, .list [.int a, .int b, .int c]), some (false, .int m), none, none, none] 1 rfl rfl rfl ?_
  unfold b_law_draw
  repeat contradiction
  refine ⟨fun h => ?_, fun h => ?_⟩
  · have h : 0 < a := of_decide_eq_true h
    repeat contradiction
    refine g_mod hm ?_
    repeat contradiction
    refine g_fdivS hm (by omega) ?_
    repeat contradiction
    exact ⟨_, _, rfl, Int.emod_nonneg _ (by omega), Int.emod_lt_of_pos _ hm, _, _, _, rfl, Int.ediv_nonneg ha (by omega), hb1, hb2, hc, by omega⟩
  · have h : ¬ 0 < a := of_decide_eq_false h
    repeat contradiction
    refine g_mulS (by decide) (by omega) ?_
    repeat contradiction
    refine g_mod (by decide) ?_
    repeat contradiction
    have o1 : ((b + 2654435769 * (c + 1)) % 4503599627370449).natAbs < 2 ^ 52 := by omega
    generalize (b + 2654435769 * (c + 1)) % 4503599627370449 = one at o1
    refine g_mulS (by omega) (by omega) ?_
    repeat contradiction
    refine g_mod (by decide) ?_
    repeat contradiction
    have o2 : (one * one % 2251799813685119).natAbs < 2 ^ 51 := by omega
    generalize one * one % 2251799813685119 = two at o2
    refine g_mulS (by omega) (by omega) ?_
    repeat contradiction
    have o3 := mul_lt o2 o1
    generalize two * one = t3 at o3
    refine g_mulS (by decide) (by omega) ?_
    repeat contradiction
    refine g_mod (by decide) ?_
    repeat contradiction
    have o4 : (t3 + 40503 * (c + 1) + b % 32749).natAbs < 2 ^ 110 := by omega
    generalize t3 + 40503 * (c + 1) + b % 32749 = t4 at o4
    refine g_mulS (by omega) (by omega) ?_
    repeat contradiction
    refine g_mod (by decide) ?_
    repeat contradiction
    refine g_fdivS (by decide) (by decide) ?_
    repeat contradiction
    refine g_mod hm ?_
    repeat contradiction
    exact ⟨_, _, rfl, Int.emod_nonneg _ (by omega), Int.emod_lt_of_pos _ hm, _, _, _, rfl, ha, hb1, hb2, by omega, by omega⟩
theorem src_froz {k : Nat} {s : List D} (h : Src k s) : froz.frozs s = true := by
  obtain ⟨a, b, c, rfl, _⟩ := h
  rfl
theorem Src.mono {j k : Nat} {s : List D} (h : Src k s) (l : j ≤ k) : Src j s := by
  obtain ⟨a, b, c, e, h1, h2, h3, h4, h5⟩ := h
  exact ⟨a, b, c, e, h1, h2, h3, h4, by omega⟩
theorem delay_ok {s : List D} {k : Nat} {m : Int} (hs : Src (k + 2) s) (hm : 3 ≤ m) (hb : m ≤ 59) : Gv (F_law_delay.fn [.list s, .int m]) fun r => ∃ v s', r = ((false, .int v), .list s') ∧ -m - 1 ≤ v ∧ v ≤ m ∧ Src k s' := by
  refine run_gv [some (true, .list s), some (false, .int m), none] 1 rfl rfl rfl ?_
  unfold b_law_delay
  repeat contradiction
  refine (draw_ok hs (by decide) (by decide)).mono fun r hr => ?_
  obtain ⟨v, s1, rfl, h1, h2, hs1⟩ := hr
  repeat contradiction
  refine ⟨src_froz hs1, ?_⟩
  repeat contradiction
  refine ⟨fun h => ?_, fun h => ?_⟩
  · repeat contradiction
    refine (draw_ok hs1 (by decide) (by decide)).mono fun r hr => ?_
    obtain ⟨v, s2, rfl, h3, h4, hs2⟩ := hr
    repeat contradiction
    refine ⟨src_froz hs2, ?_⟩
    repeat contradiction
    exact ⟨_, _, rfl, by omega, by omega, hs2⟩
  · repeat contradiction
    have fin : Gx (Ev.execs G_law_delay 1 fuel (Ss.cons (S.ret (E.op O2.sub (E.callm (Str.ofString "_law_draw") 0 (Es.cons (E.op O2.add (E.op O2.mul (E.int 2) (E.var 1)) (E.int 1)) Es.nil)) (E.var 1))) Ss.nil)
        [some (true, PyData.list s1), some (false, PyData.int m), some (false, PyData.int v)]) (fun _ => False) (fun _ => False) (fun _ => False) fun r ρ => Gv (finR true ρ r) fun r => ∃ v s', r = ((false, PyData.int v), PyData.list s') ∧ -m - 1 ≤ v ∧ v ≤ m ∧ Src k s' := by
      repeat contradiction
      refine g_mulS (by decide) (by omega) ?_
      repeat contradiction
      refine (draw_ok hs1 (by omega) (by omega)).mono fun r hr => ?_
      obtain ⟨v, s2, rfl, h3, h4, hs2⟩ := hr
      repeat contradiction
      refine ⟨src_froz hs2, ?_⟩
      repeat contradiction
      exact ⟨_, _, rfl, by omega, by omega, hs2⟩
    refine ⟨fun h => ?_, fun h => ?_⟩
    · try refine pick_t ?_
      exact fin.mono (fun _ z => z.elim) (fun _ z => z.elim) (fun _ z => z.elim) fun _ _ z => z
    · repeat contradiction
      refine ⟨fun h => ?_, fun h => ?_⟩
      · exact fin.mono (fun _ z => z.elim) (fun _ z => z.elim) (fun _ z => z.elim) fun _ _ z => z
      · have hm59 : m = 59 := by
          have := of_decide_eq_false h
          omega
        repeat contradiction
        refine ⟨Nat.le_of_ble_eq_true rfl, ?_⟩
        repeat contradiction
        refine (draw_ok hs1 (by decide) (by decide)).mono fun r hr => ?_
        obtain ⟨v, s2, rfl, h3, h4, hs2⟩ := hr
        repeat contradiction
        refine ⟨src_froz hs2, ?_⟩
        repeat contradiction
        have : v = 0 ∨ v = 1 ∨ v = 2 ∨ v = 3 := by omega
        rcases this with rfl | rfl | rfl | rfl
        · refine gi_of rfl ?_
          repeat contradiction
          exact ⟨_, _, rfl, by omega, by omega, hs2⟩
        · refine gi_of rfl ?_
          repeat contradiction
          exact ⟨_, _, rfl, by omega, by omega, hs2⟩
        · refine gi_of rfl ?_
          repeat contradiction
          exact ⟨_, _, rfl, by omega, by omega, hs2⟩
        · refine gi_of rfl ?_
          repeat contradiction
          exact ⟨_, _, rfl, by omega, by omega, hs2⟩

end K
set_option Elab.async false
set_option linter.all false
set_option maxRecDepth 100000
set_option maxHeartbeats 4000000
namespace K
open PySem PySem.Spec PyProof.Rows L2 Ev
local macro_rules | `(tactic| contradiction) => `(tactic| (((first
  | refine Stp1.h ?_
  | ((with_reducible refine gi_mk ?_); refine gv_some.mpr ?_)
  | ((with_reducible refine b_name ?_ ?_); · (simp only [List.length_cons, List.length_nil, List.length_set]; decide))
  | ((with_reducible refine gs_val ?_ ?_); · (simp only [List.length_cons, List.length_nil, List.length_set]; decide))
  | with_reducible refine And.intro rfl ?_)) <;> try dsimp only [List.set_cons_zero, List.set_cons_succ, List.length_cons, List.length_nil, Int.reduceToNat]))
/-! ### tables of ints -/
def kvD (ps : List (Int × Int)) : List (D × D) := ps.map fun p => (.int p.1, .int p.2)
def putI (ps : List (Int × Int)) (x y : Int) : List (Int × Int) := if ps.any (fun p => decide (p.1 = x)) = true then ps.map (fun p => if p.1 = x then (p.1, y) else p) else ps ++ [(x, y)]
theorem keyEq_int (a b : Int) : keyEq (.int a) (.int b) = decide (a = b) := rfl
theorem any_kv (x : Int) : ∀ ps : List (Int × Int), ((kvD ps).any fun p => keyEq p.1 (.int x)) = ps.any fun p => decide (p.1 = x)
  | [] => rfl
  | p :: r => by
    have := any_kv x r
    simp only [kvD, List.map_cons, List.any_cons, keyEq_int] at this ⊢
    rw [this]
theorem map_kv (x y : Int) : ∀ ps : List (Int × Int), (kvD ps).map (fun p => if keyEq p.1 (.int x) = true then (p.1, .int y) else p) = kvD (ps.map fun p => if p.1 = x then (p.1, y) else p)
  | [] => rfl
  | p :: r => by
    have := map_kv x y r
    simp only [kvD, List.map_cons, keyEq_int, decide_eq_true_eq] at this ⊢
    rw [this]
    by_cases h : p.1 = x <;> simp [h]
theorem dput_kv (ps : List (Int × Int)) (x y : Int) : dput (kvD ps) (.int x) (.int y) = kvD (putI ps x y) := by
  unfold dput putI
  rw [any_kv]
  by_cases h : (ps.any fun p => decide (p.1 = x)) = true
  · rw [if_pos h, if_pos h, map_kv]
  · rw [if_neg h, if_neg h]
    simp [kvD]
theorem dget_kv {x y : Int} : ∀ {ps : List (Int × Int)}, (ps.map (·.1)).Nodup → (x, y) ∈ ps → dget (kvD ps) (.int x) = some (.int y)
  | p :: r, nd, h => by
    rw [List.map_cons, List.nodup_cons] at nd
    show (if keyEq (.int p.1) (.int x) = true then some (.int p.2) else dget (kvD r) (.int x)) = _
    rw [keyEq_int]
    rcases List.mem_cons.mp h with e | e
    · cases e
      simp
    · have : ¬ p.1 = x := fun z => nd.1 (by rw [z]; exact List.mem_map.mpr ⟨_, e, rfl⟩)
      rw [if_neg (by simpa using this)]
      exact dget_kv nd.2 e
theorem put_keys (ps : List (Int × Int)) (x y : Int) : (putI ps x y).map (·.1) = if ps.any (fun p => decide (p.1 = x)) = true then ps.map (·.1) else ps.map (·.1) ++ [x] := by
  unfold putI
  split
  · rw [List.map_map]
    refine List.map_congr_left fun p _ => ?_
    show (if p.1 = x then (p.1, y) else p).1 = p.1
    split <;> rfl
  · simp
/-- a table of distinct keys below n, values within m -/
structure Tab (n m : Int) (ps : List (Int × Int)) : Prop where
  nd : (ps.map (·.1)).Nodup
  rg : ∀ p ∈ ps, 0 ≤ p.1 ∧ p.1 < n ∧ -m - 1 ≤ p.2 ∧ p.2 ≤ m
theorem Tab.put {n m : Int} {ps : List (Int × Int)} {x y : Int} (t : Tab n m ps) (h1 : 0 ≤ x) (h2 : x < n) (h3 : -m - 1 ≤ y) (h4 : y ≤ m) : Tab n m (putI ps x y) ∧ (putI ps x y).length ≤ ps.length + 1 ∧ 0 < (putI ps x y).length := by
  refine ⟨⟨?_, fun p hp => ?_⟩, ?_, ?_⟩
  · rw [put_keys]
    split
    · exact t.nd
    · rename_i h
      rw [List.nodup_append]
      refine ⟨t.nd, (by simp), fun a ha b hb e => h ?_⟩
      rw [List.mem_singleton] at hb
      obtain ⟨p, hp, e2⟩ := List.mem_map.mp ha
      exact List.any_eq_true.mpr ⟨p, hp, by simp [e2, e, hb]⟩
  · unfold putI at hp
    split at hp
    · obtain ⟨q, hq, e⟩ := List.mem_map.mp hp
      have := t.rg q hq
      split at e
      · subst e
        exact ⟨this.1, this.2.1, h3, h4⟩
      · subst e
        exact this
    · rcases List.mem_append.mp hp with h | h
      · exact t.rg p h
      · rw [List.mem_singleton] at h
        subst h
        exact ⟨h1, h2, h3, h4⟩
  · unfold putI
    split
    · rw [List.length_map]; omega
    · rw [List.length_append]; exact Nat.le_refl _
  · unfold putI
    split
    · rename_i h
      rw [List.length_map]
      cases ps with
      | nil => cases h
      | cons p r => simp
    · simp
theorem asInts_kv : ∀ ps : List (Int × Int), asInts ((kvD ps).map (·.1)) = some (ps.map (·.1))
  | [] => rfl
  | p :: r => by
    have := asInts_kv r
    simp only [kvD, List.map_cons, asInts] at this ⊢
    rw [this]
    rfl
/-- terms: ascending, distinct variables -/
structure Terms (n m : Int) (ps : List (Int × Int)) : Prop where
  up : (ps.map (·.1)).Pairwise (· < ·)
  rg : ∀ p ∈ ps, 0 ≤ p.1 ∧ p.1 < n ∧ -m - 1 ≤ p.2 ∧ p.2 ≤ m
def tabG : List (Int × Int) → Int → Int
  | [], _ => 0
  | p :: r, x => if p.1 = x then p.2 else tabG r x
theorem tab_mem {x : Int} : ∀ {ps : List (Int × Int)}, x ∈ ps.map (·.1) → (x, tabG ps x) ∈ ps
  | p :: r, h => by
    unfold tabG
    by_cases e : p.1 = x
    · rw [if_pos e, ← e]
      exact List.mem_cons_self
    · rw [if_neg e]
      rw [List.map_cons] at h
      rcases List.mem_cons.mp h with z | z
      · exact absurd z.symm e
      · exact List.mem_cons_of_mem _ (tab_mem z)
theorem Tab.terms {n m : Int} {ps : List (Int × Int)} (t : Tab n m ps) : Terms n m ((sortI (ps.map (·.1))).map fun x => (x, tabG ps x)) := by
  have hp := sortI_perm (ps.map (·.1))
  have nd : (sortI (ps.map (·.1))).Nodup := hp.nodup_iff.mpr t.nd
  refine ⟨?_, fun p h => ?_⟩
  · rw [List.map_map]
    show ((sortI (ps.map (·.1))).map fun x => x).Pairwise (· < ·)
    rw [List.map_id']
    exact ((sortI_sorted _).and nd).imp fun {a b} h => by
      have h1 := h.1
      have h2 : a ≠ b := h.2
      omega
  · obtain ⟨x, hx, e⟩ := List.mem_map.mp h
    subst e
    exact t.rg _ (tab_mem (hp.mem_iff.mp hx))

end K
set_option Elab.async false
set_option linter.all false
set_option maxRecDepth 100000
set_option maxHeartbeats 4000000
namespace K
open PySem PySem.Spec PyProof.Rows L2 Ev
local macro_rules | `(tactic| contradiction) => `(tactic| (((first
  | refine Stp1.h ?_
  | ((with_reducible refine gi_mk ?_); refine gv_some.mpr ?_)
  | ((with_reducible refine b_name ?_ ?_); · (simp only [List.length_cons, List.length_nil, List.length_set]; decide))
  | ((with_reducible refine gs_val ?_ ?_); · (simp only [List.length_cons, List.length_nil, List.length_set]; decide))
  | with_reducible refine And.intro rfl ?_)) <;> try dsimp only [List.set_cons_zero, List.set_cons_succ, List.length_cons, List.length_nil, Int.reduceToNat]))
theorem take_next {α : Type} {l : List α} {i : Nat} {a : α} (h : l[i]? = some a) : l.take i ++ [a] = l.take (i + 1) := by
  rw [List.take_add_one, h]
  rfl
theorem upTo_at {n i : Nat} {d : D} (h : (Ev.upTo n)[i]? = some d) : i < n ∧ d = .int i := by
  unfold Ev.upTo at h
  rw [List.getElem?_map, Option.map_eq_some_iff] at h
  obtain ⟨j, h1, h2⟩ := h
  have hi : i < n := by
    by_cases c : i < n
    · exact c
    · rw [List.getElem?_eq_none (by rw [List.length_range]; omega)] at h1; cases h1
  rw [List.getElem?_range hi] at h1
  cases h1
  exact ⟨hi, h2.symm⟩
theorem upTo_len (n : Nat) : (Ev.upTo n).length = n := by
  unfold Ev.upTo
  rw [List.length_map, List.length_range]
theorem terms_ok {s : List D} {k q : Nat} {n m : Int} (hs : Src (k + 3 * q) s) (hq : q ≤ 8) (hn : 0 < n) (hn8 : n ≤ 8) (hm : 3 ≤ m) (hb : m ≤ 59) :
    Gv (F_law_terms.fn [.list s, .int n, .int q, .int m]) fun r => ∃ ps s', r = ((false, .tuple (ps.map Ev.pairD)), .list s') ∧ Terms n m ps ∧ ps.length ≤ q ∧ (0 < q → 0 < ps.length) ∧ Src k s' := by
  refine run_gv [some (true, .list s), some (false, .int n), some (false, .int q), some (false, .int m), none, none, none] 1 rfl rfl rfl ?_
  unfold b_law_terms
  repeat contradiction
  refine gx_for (I := fun i ρ => ∃ s' ps x5, ρ = [some (true, .list s'), some (false, .int n), some (false, .int q), some (false, .int m), some (true, .dict (kvD ps)), x5, none] ∧ Src (k + 3 * (q - i)) s' ∧ Tab n m ps ∧ ps.length ≤ i ∧ (0 < i → 0 < ps.length)) ?_
  repeat contradiction
  refine ⟨by omega, rfl, ⟨s, [], none, rfl, hs, ⟨.nil, fun p hp => absurd hp List.not_mem_nil⟩, Nat.le_refl _, fun z => absurd z (Nat.lt_irrefl 0)⟩, fun i d ρ1 hd hI => ?_, fun ρ1 hI => ?_⟩
  · obtain ⟨s', ps, x5, rfl, hs', ht, hl, hp⟩ := hI
    obtain ⟨hi, rfl⟩ := upTo_at hd
    rw [Int.toNat_natCast] at hi
    have hs1 : Src (k + 3 * (q - (i + 1)) + 1 + 2) s' := hs'.mono (by omega)
    repeat contradiction
    refine (delay_ok hs1 hm hb).mono fun r hr => ?_
    obtain ⟨v, s2, rfl, h3, h4, hs2⟩ := hr
    repeat contradiction
    refine ⟨src_froz hs2, ?_⟩
    repeat contradiction
    refine (draw_ok hs2 hn (by omega)).mono fun r hr => ?_
    obtain ⟨u, s3, rfl, h5, h6, hs3⟩ := hr
    repeat contradiction
    refine ⟨src_froz hs3, ?_⟩
    repeat contradiction
    refine g_setD rfl (Nat.lt_of_le_of_lt (show (kvD ps).length ≤ 8 by unfold kvD; rw [List.length_map]; omega) (by decide)) ?_
    rw [dput_kv]
    repeat contradiction
    obtain ⟨t1, t2, t3⟩ := ht.put h5 h6 h3 h4
    exact ⟨s3, putI ps u v, _, rfl, hs3, t1, by omega, fun _ => t3⟩
  · obtain ⟨s', ps, x5, rfl, hs', ht, hl, hp⟩ := hI
    rw [upTo_len, Int.toNat_natCast] at hl hp hs'
    rw [Nat.sub_self, Nat.mul_zero, Nat.add_zero] at hs'
    have hperm := sortI_perm (ps.map (·.1))
    have hlen : (sortI (ps.map (·.1))).length = ps.length := by rw [hperm.length_eq, List.length_map]
    repeat contradiction
    refine gv_comp (I := fun i acc ρ => ρ = [some (true, .list s'), some (false, .int n), some (false, .int q), some (false, .int m), some (true, .dict (kvD ps)), x5, none] ∧ acc = (((sortI (ps.map (·.1))).map fun x => (x, tabG ps x)).map Ev.pairD).take i) ?_
    repeat contradiction
    refine p_sortD (asInts_kv ps) (by rw [List.length_map]; omega) ?_
    repeat contradiction
    refine ⟨⟨rfl, rfl⟩, fun i d acc ρ1 hd hI => ?_, fun acc ρ1 hI => ?_⟩
    · obtain ⟨rfl, rfl⟩ := hI
      rw [List.getElem?_map, Option.map_eq_some_iff] at hd
      obtain ⟨x, hx, rfl⟩ := hd
      have hx2 : x ∈ ps.map (·.1) := hperm.mem_iff.mp (List.mem_of_getElem? hx)
      repeat contradiction
      refine x_dic rfl ?_
      refine gv_eq (dget_kv ht.nd (tab_mem hx2)) ?_
      repeat contradiction
      refine ⟨(by decide), ?_⟩
      repeat contradiction
      refine take_next (a := Ev.pairD (x, tabG ps x)) ?_
      rw [List.getElem?_map, List.getElem?_map, hx]
      rfl
    · obtain ⟨rfl, rfl⟩ := hI
      repeat contradiction
      try refine f_yes (s := .list s') (r := [some (false, .int n), some (false, .int q), some (false, .int m), some (true, .dict (kvD ps)), x5, none]) ?_
      refine ⟨(sortI (ps.map (·.1))).map fun x => (x, tabG ps x), s', ?_, ht.terms, by rw [List.length_map, hlen]; exact hl, fun z => by rw [List.length_map, hlen]; exact hp z, hs'⟩
      rw [List.take_of_length_le (by simp)]

end K
set_option Elab.async false
set_option linter.all false
set_option maxRecDepth 100000
set_option maxHeartbeats 4000000
namespace K
open PySem PySem.Spec PyProof.Rows L2 Ev
local macro_rules | `(tactic| contradiction) => `(tactic| (((first
  | refine Stp1.h ?_
  | ((with_reducible refine gi_mk ?_); refine gv_some.mpr ?_)
  | ((with_reducible refine b_name ?_ ?_); · (simp only [List.length_cons, List.length_nil, List.length_set]; decide))
  | ((with_reducible refine gs_val ?_ ?_); · (simp only [List.length_cons, List.length_nil, List.length_set]; decide))
  | with_reducible refine And.intro rfl ?_)) <;> try dsimp only [List.set_cons_zero, List.set_cons_succ, List.length_cons, List.length_nil, Int.reduceToNat]))
theorem source_ok {ns : List Int} {i k : Nat} (hi : i < 1000) (hk : k < 2 ^ 39) : Gv (F_law_source.fn [.list (ns.map .int), .int i]) fun r => ∃ s, r = ((true, .list s), .none) ∧ Src k s := by
  refine run_gv [some (false, .list (ns.map .int)), some (false, .int i), none, none, none] 0 rfl rfl rfl ?_
  unfold b_law_source
  have big : ∀ x : Int, (0 ≤ x ∧ x < ((10 : Int) ^ 60) ^ 11) → x.natAbs.log2 < 2200 := fun x hx => by
    by_cases e : x.natAbs = 0
    · rw [e]; decide
    · refine (Nat.log2_lt e).mpr ?_
      have h1 : ((10 : Int) ^ 60) ^ 11 ≤ 2 ^ 2200 := by decide +kernel
      have h2 : (x.natAbs : Int) = x := Int.natAbs_of_nonneg hx.1
      have h3 : (x.natAbs : Int) < ((2 ^ 2200 : Nat) : Int) := by
        rw [h2]
        exact Int.lt_of_lt_of_le hx.2 (by rw [Int.natCast_pow]; exact h1)
      exact Int.ofNat_lt.mp h3
  -- from the cell on
  have rest : ∀ c : Int, Gx (Ev.execs G_law_source 0 fuel (.cons (.asg 3 (.op .mod (.prim .abs (.cons (.var 2) .nil)) (.op .pow (.op .pow (.int 10) (.int 60)) (.int 11))))
      (.cons (.asg 4 (.op .mod (.op .add (.op .add (.op .mul (.var 3) (.int 6364136223846793005)) (.op .mul (.int 1181783497) (.var 1))) (.prim .int (.cons (.cmp .lt (.var 2) (.int 0)) .nil))) (.int 9007199254740881)))
      (.cons (.ret (.lst (.cons (.prim .max2 (.cons (.int 0) (.cons (.op .add (.op .sub (.var 3) (.op .pow (.int 10) (.int 18))) (.int 1)) .nil))) (.cons (.var 4) (.cons (.int 0) .nil))))) .nil)))
      [some (false, .list (ns.map .int)), some (false, .int i), some (false, .int c), none, none]) (fun _ => False) (fun _ => False) (fun _ => False) fun r ρ => Gv (finR false ρ r) fun r => ∃ s, r = ((true, .list s), .none) ∧ Src k s := fun c => by
    repeat contradiction
    refine g_pow (by decide +kernel) ?_
    repeat contradiction
    refine g_pow (by decide +kernel) ?_
    repeat contradiction
    have pos : (0 : Int) < ((10 : Int) ^ 60) ^ 11 := by decide +kernel
    refine g_mod pos ?_
    repeat contradiction
    generalize hg : (if c < 0 then -c else c) % ((10 : Int) ^ 60) ^ 11 = g
    have hg1 : 0 ≤ g ∧ g < ((10 : Int) ^ 60) ^ 11 := by
      rw [← hg]
      exact ⟨Int.emod_nonneg _ (Int.ne_of_gt pos), Int.emod_lt_of_pos _ pos⟩
    refine g_mul (Nat.lt_of_lt_of_le (Nat.add_lt_add_right (big g hg1) _) (by decide +kernel)) ?_
    repeat contradiction
    refine g_mulS (by decide) (by omega) ?_
    repeat contradiction
    refine g_mod (by decide) ?_
    repeat contradiction
    refine g_pow (by decide +kernel) ?_
    repeat contradiction
    refine ⟨(by decide), ?_⟩
    repeat contradiction
    refine ⟨_, rfl, _, _, _, rfl, ?_, by omega, by omega, by omega, by omega⟩
    split <;> omega
  repeat contradiction
  refine ⟨fun h => ?_, fun h => ?_⟩
  · have h : (i : Int) < ((ns.map PyData.int).length : Int) := of_decide_eq_true h
    rw [List.length_map] at h
    have hlt : i < ns.length := by omega
    repeat contradiction
    refine gi_of (a := .int ns[i]) ?_ ?_
    · unfold atI
      rw [show ixN (ns.map PyData.int).length (i : Int) = some i by
        unfold ixN
        rw [if_pos (by omega), if_pos (by rw [List.length_map]; omega), Int.toNat_natCast]]
      show (ns.map PyData.int)[i]? = _
      rw [List.getElem?_map, List.getElem?_eq_getElem hlt]
      rfl
    · refine gs_val ⟨Nat.zero_le _, (by simp)⟩ ?_
      exact (rest _).fin
  · repeat contradiction
    refine g_mulS (by decide) (by omega) ?_
    repeat (first | exact (rest _).fin | contradiction)

end K
set_option Elab.async false
set_option linter.all false
set_option maxRecDepth 100000
set_option maxHeartbeats 4000000
namespace K
open PySem PySem.Spec PyProof.Rows L2 Ev
local macro_rules | `(tactic| contradiction) => `(tactic| (((first
  | refine Stp1.h ?_
  | ((with_reducible refine gi_mk ?_); refine gv_some.mpr ?_)
  | ((with_reducible refine b_name ?_ ?_); · (simp only [List.length_cons, List.length_nil, List.length_set]; decide))
  | ((with_reducible refine gs_val ?_ ?_); · (simp only [List.length_cons, List.length_nil, List.length_set]; decide))
  | with_reducible refine And.intro rfl ?_)) <;> try dsimp only [List.set_cons_zero, List.set_cons_succ, List.length_cons, List.length_nil, Int.reduceToNat]))
def ruleD (r : Int × List (Int × Int)) : D := .tuple [.int r.1, .tuple (r.2.map Ev.pairD)]
/-- a rule of the size, its delays within m -/
structure Rl (n m : Int) (r : Int × List (Int × Int)) : Prop where
  lo : 0 ≤ r.1
  hi : r.1 < n
  tm : Terms n m r.2
abbrev IntsD (l : List Int) : List D := l.map .int
def InR (n : Int) (l : List Int) : Prop := ∀ x ∈ l, 0 ≤ x ∧ x < n
theorem sum_le {b : Int} : ∀ l : List Int, (∀ x ∈ l, -b ≤ x ∧ x ≤ b) → -(b * l.length) ≤ l.sum ∧ l.sum ≤ b * l.length
  | [], _ => by simp
  | x :: r, h => by
    have h1 := h x List.mem_cons_self
    have h2 := sum_le r fun y hy => h y (List.mem_cons_of_mem _ hy)
    rw [List.sum_cons, List.length_cons, Int.natCast_add, Int.mul_add]
    simp only [Int.natCast_one, Int.mul_one]
    omega
/-- a slot's value that is no object of one's own -/
def Pl (x : Option (Bool × D)) : Prop := x = none ∨ ∃ d, x = some (false, d)
theorem ints_at {l : List Int} {i : Nat} {d : D} (h : (IntsD l)[i]? = some d) : ∃ x, l[i]? = some x ∧ d = .int x := by
  rw [List.getElem?_map, Option.map_eq_some_iff] at h
  obtain ⟨x, h1, h2⟩ := h
  exact ⟨x, h1, h2.symm⟩
theorem erase_map {α β : Type} (f : α → β) : ∀ (l : List α) (i : Nat), (l.map f).eraseIdx i = (l.eraseIdx i).map f
  | [], _ => rfl
  | _ :: _, 0 => rfl
  | x :: r, i + 1 => by
    show f x :: (r.map f).eraseIdx i = f x :: (r.eraseIdx i).map f
    rw [erase_map f r i]
def before (l : List Int) (i : Nat) : Int := l.getD (if i = 0 then l.length - 1 else i - 1) 0
theorem before_at {l : List Int} {i : Nat} (h : i < l.length) : atI (IntsD l) ((i : Int) - 1) = some (.int (before l i)) := by
  unfold before atI
  have key : ∀ j, j < l.length → (IntsD l)[j]? = some (.int (l.getD j 0)) := fun j hj => by
    rw [List.getElem?_map, List.getElem?_eq_getElem hj, List.getD_eq_getElem?_getD, List.getElem?_eq_getElem hj]
    rfl
  by_cases e : i = 0
  · subst e
    rw [if_pos rfl, show ixN (IntsD l).length (((0 : Nat) : Int) - 1) = some (l.length - 1) by
      unfold ixN
      rw [if_neg (by omega), if_pos (by rw [List.length_map]; omega), List.length_map]
      congr 1
      omega]
    exact key _ (by omega)
  · rw [if_neg e, ixN_int (by omega) (by rw [List.length_map]; omega)]
    have : ((i : Int) - 1).toNat = i - 1 := by omega
    rw [this]
    exact key _ (by omega)
def ringOf (rw ds : List Int) : List (Int × List (Int × Int)) := (List.range rw.length).map fun i => (rw.getD i 0, [(before rw i, ds.getD i 0)])
theorem ringOf_at {l es : List Int} {i : Nat} (h : i < l.length) : (ringOf l es)[i]? = some (l.getD i 0, [(before l i, es.getD i 0)]) := by
  unfold ringOf
  rw [List.getElem?_map, List.getElem?_range h]
  rfl
theorem getD_mem {l : List Int} {i : Nat} (h : i < l.length) : l.getD i 0 ∈ l := by
  rw [List.getD_eq_getElem?_getD, List.getElem?_eq_getElem h]
  exact List.getElem_mem h
theorem ringOf_ok {n : Int} {l es : List Int} (hR : InR n l) (he : ∀ j, -59 ≤ es.getD j 0 ∧ es.getD j 0 ≤ 59) : ∀ r ∈ ringOf l es, Rl n 59 r := fun r hr => by
  obtain ⟨i, hi, rfl⟩ := List.mem_map.mp hr
  have hi := List.mem_range.mp hi
  have h1 := hR _ (getD_mem hi)
  have h2 : 0 ≤ before l i ∧ before l i < n := hR _ (getD_mem (by split <;> omega))
  exact ⟨h1.1, h1.2, ⟨List.pairwise_singleton _ _, fun p hp => by
    rw [List.mem_singleton] at hp
    subst hp
    have := he i; exact ⟨h2.1, h2.2, (by omega), this.2⟩⟩⟩
theorem ring_ok {s : List D} {k n : Nat} {t : Int} (hs : Src (k + 17) s) (hn : 0 < n) (hn8 : n ≤ 8) (ht : -1 ≤ t ∧ t ≤ 1) :
    Gv (F_law_ring.fn [.list s, .int n, .int t]) fun r => ∃ (rs : List (Int × List (Int × Int))) (s' : List D), r = ((true, .list (rs.map ruleD)), .list s') ∧ (∀ r ∈ rs, Rl n 59 r) ∧ rs.length ≤ n ∧ Src k s' := by
  refine run_gv [some (true, .list s), some (false, .int n), some (false, .int t), none, none, none, none, none, none] 1 rfl rfl rfl ?_
  unfold b_law_ring
  repeat contradiction
  refine ⟨⟨by omega, by omega⟩, ?_⟩
  repeat contradiction
  refine ⟨Nat.zero_le _, rfl, ?_⟩
  repeat contradiction
  refine gx_for (I := fun i ρ => ∃ (s' : List D) (ls rw : List Int) (x3 : Option (Bool × D)), ρ = [some (true, .list s'), some (false, .int n), some (false, .int t), x3, none, some (true, .list (IntsD ls)), some (true, .list (IntsD rw)), none, none] ∧ Src (k + 16 - i) s' ∧ ls.length = n - i ∧ rw.length = i ∧ i ≤ n ∧ InR n ls ∧ InR n rw ∧ Pl x3) ?_
  repeat contradiction
  refine (draw_ok (hs.mono (show k + 16 + 1 ≤ k + 17 by omega)) (by omega) (by omega)).mono fun r hr => ?_
  obtain ⟨v, s1, rfl, h1, h2, hs1⟩ := hr
  repeat contradiction
  refine ⟨src_froz hs1, ?_⟩
  repeat contradiction
  refine ⟨⟨by omega, by omega⟩, rfl, ⟨s1, (List.range n).map (fun (i : Nat) => (i : Int)), [], none, ?_, hs1, (by simp), rfl, Nat.zero_le _, fun x hx => ?_, fun x hx => absurd hx List.not_mem_nil, .inl rfl⟩, fun i d ρ1 hd hI => ?_, fun ρ1 hI => ?_⟩
  · unfold Ev.upTo IntsD
    rw [List.map_map]
    rfl
  · obtain ⟨j, hj, rfl⟩ := List.mem_map.mp hx
    have := List.mem_range.mp hj
    omega
  · obtain ⟨s', ls, rw', x3, rfl, hs', hl, hw, hi, hL, hR, hx3⟩ := hI
    obtain ⟨hi2, rfl⟩ := upTo_at hd
    have hin : i < n := by omega
    repeat contradiction
    refine (draw_ok (hs'.mono (show (k + 16 - (i + 1)) + 1 ≤ k + 16 - i by omega)) (by rw [List.length_map]; omega) (by rw [List.length_map]; omega)).mono fun r hr => ?_
    obtain ⟨u, s2, rfl, h3, h4, hs2⟩ := hr
    rw [List.length_map] at h4
    repeat contradiction
    refine ⟨src_froz hs2, ?_⟩
    repeat contradiction
    have hu : u.toNat < ls.length := by omega
    refine g_pop (y := .int ls[u.toNat]) h3 (by rw [List.length_map]; exact h4) (by rw [List.getElem?_map, List.getElem?_eq_getElem hu]; rfl) ?_
    repeat contradiction
    refine g_append (Nat.lt_of_le_of_lt (show _ ≤ 8 by rw [List.length_map]; omega) (by decide)) ?_
    repeat contradiction
    refine ⟨s2, ls.eraseIdx u.toNat, rw' ++ [ls[u.toNat]], some (false, .int i), ?_, hs2, ?_, ?_, by omega, fun x hx => hL x (List.mem_of_mem_eraseIdx hx), fun x hx => ?_, .inr ⟨_, rfl⟩⟩
    · unfold IntsD
      rw [List.map_append, erase_map]
      rfl
    · rw [List.length_eraseIdx, if_pos hu]; omega
    · rw [List.length_append, List.length_singleton, hw]
    · rcases List.mem_append.mp hx with h | h
      · exact hR x h
      · rw [List.mem_singleton] at h
        rw [h]
        exact hL _ (List.getElem_mem _)
  · obtain ⟨s', ls, rw', x3, rfl, hs', hl, hw, hi, hL, hR, hx3⟩ := hI
    rw [upTo_len] at hw hi hl hs'
    have hr0 : 0 < rw'.length := by omega
    have hr8 : rw'.length ≤ 8 := by omega
    have hrn : rw'.length ≤ n := by omega
    have hs3 : Src (k + 8) s' := hs'.mono (by omega)
    repeat contradiction
    refine gv_comp (I := fun i acc ρ => ∃ (s2 : List D) (ds : List Int), ρ = [some (true, .list s2), some (false, .int n), some (false, .int t), none, none, some (true, .list (IntsD ls)), some (false, .list (IntsD rw')), none, none] ∧ acc = IntsD ds ∧ ds.length = i ∧ (∀ x ∈ ds, -3 ≤ x ∧ x ≤ 3) ∧ Src (k + 8 - i) s2) ?_
    repeat contradiction
    refine ⟨by rcases hx3 with rfl | ⟨d, rfl⟩ <;> rfl, ⟨s', [], rfl, rfl, rfl, fun x hx => absurd hx List.not_mem_nil, hs3⟩, fun i d acc ρ1 hd hI => ?_, fun acc ρ1 hI => ?_⟩
    · obtain ⟨s2, ds, rfl, rfl, hd1, hd2, hs4⟩ := hI
      have hi3 : i < rw'.length := by
        obtain ⟨x, hx, _⟩ := ints_at hd
        exact (List.getElem?_eq_some_iff.mp hx).1
      repeat contradiction
      refine (draw_ok (hs4.mono (show (k + 8 - (i + 1)) + 1 ≤ k + 8 - i by omega)) (by decide) (by decide)).mono fun r hr => ?_
      obtain ⟨u, s5, rfl, h3, h4, hs5⟩ := hr
      repeat contradiction
      refine ⟨src_froz hs5, ?_⟩
      repeat contradiction
      refine ⟨s5, ds ++ [u - 3], rfl, ?_, ?_, fun x hx => ?_, hs5⟩
      · unfold IntsD
        rw [List.map_append]
        rfl
      · rw [List.length_append, List.length_singleton, hd1]
      · rcases List.mem_append.mp hx with h | h
        · exact hd2 x h
        · rw [List.mem_singleton] at h
          omega
    · obtain ⟨s2, ds, rfl, rfl, hd1, hd2, hs4⟩ := hI
      rw [List.length_map] at hd1 hs4
      have hs5 : Src k s2 := hs4.mono (by omega)
      refine gs_val ⟨(by decide), (by simp [backR])⟩ ?_
      show Gx (Ev.execs G_law_ring 1 fuel _ [some (true, .list s2), some (false, .int n), some (false, .int t), x3, some (true, .list (IntsD ds)), some (true, .list (IntsD ls)), some (false, .list (IntsD rw')), none, none]) _ _ _ _
      repeat contradiction
      have hcut : Ev.cutD (IntsD ds) (some 1) none = IntsD (ds.drop 1) := by
        rw [show (some (1 : Int)) = some ((1 : Nat) : Int) from rfl, cut_from]
        exact (List.map_drop ..).symm
      rw [hcut]
      refine p_sum (asInts_map _) ?_
      repeat contradiction
      refine gi_of (ixN_nat (i := 0) (by rw [List.length_map]; omega)) ?_
      have hset : (IntsD ds).set 0 (.int (t - (ds.drop 1).sum)) = IntsD (ds.set 0 (t - (ds.drop 1).sum)) := by
        unfold IntsD
        rw [List.map_set]
      rw [hset]
      have hsum := sum_le (b := 3) (ds.drop 1) fun x hx => hd2 x (List.mem_of_mem_drop hx)
      rw [List.length_drop] at hsum
      have hds : ∀ j, -59 ≤ (ds.set 0 (t - (ds.drop 1).sum)).getD j 0 ∧ (ds.set 0 (t - (ds.drop 1).sum)).getD j 0 ≤ 59 := fun j => by
        rw [List.getD_eq_getElem?_getD]
        cases hq : (ds.set 0 (t - (ds.drop 1).sum))[j]? with
        | none => exact ⟨by decide, by decide⟩
        | some y =>
          rcases List.mem_or_eq_of_mem_set (List.mem_of_getElem? hq) with h | h
          · have := hd2 y h
            simp only [Option.getD_some]
            omega
          · simp only [Option.getD_some]
            omega
      have hdl : (ds.set 0 (t - (ds.drop 1).sum)).length = rw'.length := by rw [List.length_set, hd1]
      generalize ds.set 0 (t - (ds.drop 1).sum) = es at hds hdl
      repeat contradiction
      refine gv_comp (I := fun i acc ρ => ρ = [some (true, .list s2), some (false, .int n), some (false, .int t), x3, some (true, .list (IntsD es)), some (true, .list (IntsD ls)), some (false, .list (IntsD rw')), none, none] ∧ acc = ((ringOf rw' es).map ruleD).take i) ?_
      repeat contradiction
      refine ⟨⟨rfl, rfl⟩, fun i d acc ρ1 hd hI => ?_, fun acc ρ1 hI => ?_⟩
      · obtain ⟨rfl, rfl⟩ := hI
        rw [List.getElem?_mapIdx, Option.map_eq_some_iff] at hd
        obtain ⟨d2, hd3, rfl⟩ := hd
        obtain ⟨x, hx, rfl⟩ := ints_at hd3
        have hi3 : i < rw'.length := (List.getElem?_eq_some_iff.mp hx).1
        have hx3 : x = rw'.getD i 0 := by rw [List.getD_eq_getElem?_getD, hx]; rfl
        repeat contradiction
        refine gi_of (before_at hi3) ?_
        repeat contradiction
        refine gi_of (a := .int (es.getD i 0)) ?_ ?_
        · unfold atI
          rw [ixN_nat (by rw [List.length_map]; omega)]
          show (IntsD es)[i]? = _
          rw [List.getElem?_map, List.getD_eq_getElem?_getD, List.getElem?_eq_getElem (by omega)]
          rfl
        repeat contradiction
        refine ⟨(by decide), ?_⟩
        repeat contradiction
        refine ⟨(by decide), ?_⟩
        repeat contradiction
        refine ⟨(by decide), ?_⟩
        repeat contradiction
        refine take_next ?_
        rw [List.getElem?_map, ringOf_at hi3, hx3]
        rfl
      · obtain ⟨rfl, rfl⟩ := hI
        repeat contradiction
        try refine f_yes (s := .list s2) (r := [some (false, .int n), some (false, .int t), x3, some (true, .list (IntsD es)), some (true, .list (IntsD ls)), some (false, .list (IntsD rw')), none, none]) ?_
        have hlen : (ringOf rw' es).length = rw'.length := by unfold ringOf; rw [List.length_map, List.length_range]
        refine ⟨ringOf rw' es, s2, ?_, ringOf_ok hR hds, by rw [hlen]; exact hrn, hs5⟩
        rw [List.take_of_length_le (by rw [List.length_mapIdx, List.length_map, List.length_map, hlen]; exact Nat.le_refl _)]

end K
set_option Elab.async false
set_option linter.all false
set_option maxRecDepth 100000
set_option maxHeartbeats 4000000
namespace K
open PySem PySem.Spec PyProof.Rows L2 Ev
local macro_rules | `(tactic| contradiction) => `(tactic| (((first
  | refine Stp1.h ?_
  | ((with_reducible refine gi_mk ?_); refine gv_some.mpr ?_)
  | ((with_reducible refine b_name ?_ ?_); · (simp only [List.length_cons, List.length_nil, List.length_set]; decide))
  | ((with_reducible refine gs_val ?_ ?_); · (simp only [List.length_cons, List.length_nil, List.length_set]; decide))
  | with_reducible refine And.intro rfl ?_)) <;> try dsimp only [List.set_cons_zero, List.set_cons_succ, List.length_cons, List.length_nil, Int.reduceToNat]))
theorem up_len {n : Int} : ∀ (l : List Int) (lo : Int), lo ≤ n → l.Pairwise (· < ·) → (∀ x ∈ l, lo ≤ x ∧ x < n) → (l.length : Int) ≤ n - lo
  | [], lo, h, _, _ => by simp; omega
  | x :: r, lo, h, p, q => by
    have h1 := q x List.mem_cons_self
    obtain ⟨p1, p2⟩ := List.pairwise_cons.mp p
    have := up_len r (x + 1) (by omega) p2 fun y hy => ⟨p1 y hy, (q y (List.mem_cons_of_mem _ hy)).2⟩
    rw [List.length_cons]
    omega
theorem Terms.len {n m : Int} {ps : List (Int × Int)} (t : Terms n m ps) (h : 0 ≤ n) : (ps.length : Int) ≤ n := by
  have := up_len (ps.map (·.1)) 0 h t.up fun x hx => by
    obtain ⟨p, hp, rfl⟩ := List.mem_map.mp hx
    exact ⟨(t.rg p hp).1, (t.rg p hp).2.1⟩
  rw [List.length_map] at this
  omega
theorem Terms.wider {n m m' : Int} {ps : List (Int × Int)} (t : Terms n m ps) (h : m ≤ m') : Terms n m' ps :=
  ⟨t.up, fun p hp => ⟨(t.rg p hp).1, (t.rg p hp).2.1, by have := (t.rg p hp).2.2; omega, by have := (t.rg p hp).2.2; omega⟩⟩
theorem asPairs_map : ∀ ps : List (Int × Int), asPairs (ps.map Ev.pairD) = some ps
  | [] => rfl
  | p :: r => by
    have := asPairs_map r
    simp only [List.map_cons, Ev.pairD, asPairs] at this ⊢
    rw [this]
    rfl
theorem memD_ints (x : Int) : ∀ l : List Int, memD (.int x) (IntsD l) = decide (x ∈ l)
  | [] => rfl
  | y :: r => by
    have := memD_ints x r
    show (PyData.eqv (.int y) (.int x) || memD (.int x) (IntsD r)) = _
    rw [this]
    have e : PyData.eqv (.int y) (.int x) = decide (y = x) := by
      simp only [PyData.eqv]
      exact Bool.eq_iff_iff.mpr (by simp)
    rw [e]
    by_cases h : x = y
    · subst h; simp
    · have : ¬ y = x := fun z => h z.symm
      simp [h, this]
theorem flat_ints (l : List Int) : (IntsD l).all flatD = true := by
  rw [List.all_eq_true]
  intro x hx
  obtain ⟨i, _, rfl⟩ := List.mem_map.mp hx
  rfl
theorem sort_terms {n m : Int} {ps : List (Int × Int)} {q : Int × Int} (t : Terms n m ps) (hq : q.1 ∉ ps.map (·.1)) (h : 0 ≤ q.1 ∧ q.1 < n ∧ -m - 1 ≤ q.2 ∧ q.2 ≤ m) : Terms n m (sortP (ps ++ [q])) := by
  have hp := sortP_perm (ps ++ [q])
  have nd : ((sortP (ps ++ [q])).map (·.1)).Nodup := by
    refine (hp.map (·.1)).nodup_iff.mpr ?_
    rw [List.map_append, List.nodup_append]
    refine ⟨t.up.imp fun z => Int.ne_of_lt z, (by simp), fun a ha b hb e => hq ?_⟩
    simp only [List.map_cons, List.map_nil, List.mem_singleton] at hb
    rw [← hb, ← e]
    exact ha
  refine ⟨?_, fun p hpm => ?_⟩
  · have up := sortP_up (ps ++ [q])
    rw [List.Nodup, List.pairwise_map] at nd
    rw [List.pairwise_map]
    exact (up.and nd).imp fun {a b} z => by
      have z1 := pairLe_iff.mp z.1
      have z2 : a.1 ≠ b.1 := z.2
      omega
  · rcases List.mem_append.mp (hp.mem_iff.mp hpm) with z | z
    · exact t.rg p z
    · rw [List.mem_singleton] at z
      subst z
      exact h
theorem widened_ok {s : List D} {k n : Nat} {m : Int} {r : Int × List (Int × Int)} (hs : Src (k + 4) s) (hn : 0 < n) (hn8 : n ≤ 8) (hr : Rl n 59 r) (hm : 3 ≤ m) (hb : m ≤ 59) :
    Gv (F_law_widened.fn [.list s, .int n, ruleD r, .int m]) fun o => ∃ (r' : Int × List (Int × Int)) (s' : List D), o = ((false, ruleD r'), .list s') ∧ Rl n 59 r' ∧ Src k s' := by
  obtain ⟨l, ps⟩ := r
  have hlen := hr.tm.len (by omega)
  have hlen : ps.length ≤ 8 := by have : (ps.length : Int) ≤ n := hlen; omega
  refine run_gv [some (true, .list s), some (false, .int n), some (false, ruleD (l, ps)), some (false, .int m), none, none, none, none, none] 1 rfl rfl rfl ?_
  unfold b_law_widened
  repeat contradiction
  unfold ruleD
  repeat contradiction
  refine (draw_ok (hs.mono (show k + 3 + 1 ≤ k + 4 by omega)) (by omega) (by omega)).mono fun o ho => ?_
  obtain ⟨x, s1, rfl, h1, h2, hs1⟩ := ho
  repeat contradiction
  refine ⟨src_froz hs1, ?_⟩
  repeat contradiction
  refine gv_comp (I := fun i acc ρ => ρ = [some (true, .list s1), some (false, .int n), some (false, .tuple [.int l, .tuple (ps.map Ev.pairD)]), some (false, .int m), some (false, .int x), some (false, .int l), some (false, .tuple (ps.map Ev.pairD)), none, none] ∧ acc = (IntsD (ps.map (·.1))).take i) ?_
  repeat contradiction
  refine ⟨⟨rfl, rfl⟩, fun i d acc ρ1 hd hI => ?_, fun acc ρ1 hI => ?_⟩
  · obtain ⟨rfl, rfl⟩ := hI
    rw [List.getElem?_map, Option.map_eq_some_iff] at hd
    obtain ⟨p, hp, rfl⟩ := hd
    unfold Ev.pairD
    repeat contradiction
    refine take_next ?_
    rw [List.getElem?_map, List.getElem?_map, hp]
    rfl
  · obtain ⟨rfl, rfl⟩ := hI
    rw [List.take_of_length_le (by simp)]
    have back : backR [some (true, .list s1), some (false, .int n), some (false, .tuple [.int l, .tuple (ps.map Ev.pairD)]), some (false, .int m), some (false, .int x), some (false, .int l), some (false, .tuple (ps.map Ev.pairD)), none, none] [some (true, .list s1), some (false, .int n), some (false, .tuple [.int l, .tuple (ps.map Ev.pairD)]), some (false, .int m), some (false, .int x), some (false, .int l), some (false, .tuple (ps.map Ev.pairD)), none, none] [7, 8]
      = [some (true, .list s1), some (false, .int n), some (false, .tuple [.int l, .tuple (ps.map Ev.pairD)]), some (false, .int m), some (false, .int x), some (false, .int l), some (false, .tuple (ps.map Ev.pairD)), none, none] := rfl
    rw [back]
    repeat contradiction
    refine g_memL rfl (flat_ints _) ?_
    rw [memD_ints]
    repeat contradiction
    refine ⟨fun h => ?_, fun h => ?_⟩
    · try refine pick_t ?_
      repeat contradiction
      exact ⟨(l, ps), s1, rfl, hr, hs1.mono (by omega)⟩
    · have hx : x ∉ ps.map (·.1) := of_decide_eq_false h
      repeat contradiction
      refine (draw_ok (hs1.mono (show k + 2 + 1 ≤ k + 3 by omega)) (by decide) (by decide)).mono fun o ho => ?_
      obtain ⟨u, s2, rfl, h3, h4, hs2⟩ := ho
      repeat contradiction
      refine ⟨src_froz hs2, ?_⟩
      repeat contradiction
      refine ⟨fun h => ?_, fun h => ?_⟩
      · repeat contradiction
        exact ⟨(l, ps), s2, rfl, hr, hs2.mono (by omega)⟩
      · repeat contradiction
        refine (delay_ok hs2 hm hb).mono fun o ho => ?_
        obtain ⟨d, s3, rfl, h5, h6, hs3⟩ := ho
        repeat contradiction
        refine ⟨src_froz hs3, ?_⟩
        repeat contradiction
        refine ⟨(by decide), ?_⟩
        repeat contradiction
        refine ⟨(by decide), ?_⟩
        repeat contradiction
        refine g_catT (Nat.le_trans (show _ ≤ 9 by rw [List.length_map]; simp only [List.length_cons, List.length_nil]; omega) (by decide)) ?_
        repeat contradiction
        have e : ps.map Ev.pairD ++ [PyData.tuple [.int x, .int d]] = (ps ++ [(x, d)]).map Ev.pairD := by
          rw [List.map_append]
          rfl
        rw [e]
        refine p_sortT (asPairs_map _) (Nat.le_trans (show _ ≤ 9 by rw [List.length_append, List.length_singleton]; omega) (by decide)) ?_
        repeat contradiction
        refine ⟨(by decide), ?_⟩
        repeat contradiction
        exact ⟨(l, sortP (ps ++ [(x, d)])), s3, rfl, ⟨hr.lo, hr.hi, sort_terms hr.tm hx ⟨h1, h2, by omega, by omega⟩⟩, hs3⟩

end K
set_option Elab.async false
set_option linter.all false
set_option maxRecDepth 100000
set_option maxHeartbeats 4000000
namespace K
open PySem PySem.Spec PyProof.Rows L2 Ev
local macro_rules | `(tactic| contradiction) => `(tactic| (((first
  | refine Stp1.h ?_
  | ((with_reducible refine gi_mk ?_); refine gv_some.mpr ?_)
  | ((with_reducible refine b_name ?_ ?_); · (simp only [List.length_cons, List.length_nil, List.length_set]; decide))
  | ((with_reducible refine gs_val ?_ ?_); · (simp only [List.length_cons, List.length_nil, List.length_set]; decide))
  | with_reducible refine And.intro rfl ?_)) <;> try dsimp only [List.set_cons_zero, List.set_cons_succ, List.length_cons, List.length_nil, Int.reduceToNat]))
abbrev Rls (n : Int) (rs : List (Int × List (Int × Int))) : Prop := ∀ r ∈ rs, Rl n 59 r
theorem pick4 {v a b c d : Int} (h : 0 ≤ v) (h2 : v < 4) : ∃ t, atI [PyData.int a, .int b, .int c, .int d] v = some (.int t) ∧ (t = a ∨ t = b ∨ t = c ∨ t = d) := by
  have : v = 0 ∨ v = 1 ∨ v = 2 ∨ v = 3 := by omega
  rcases this with rfl | rfl | rfl | rfl
  · exact ⟨a, rfl, .inl rfl⟩
  · exact ⟨b, rfl, .inr (.inl rfl)⟩
  · exact ⟨c, rfl, .inr (.inr (.inl rfl))⟩
  · exact ⟨d, rfl, .inr (.inr (.inr rfl))⟩
theorem lay_pairs : ∀ ps : List (Int × Int), PyData.canLayAll0 (ps.map Ev.pairD) = true ∧ PyData.depthAll (ps.map Ev.pairD) ≤ 3
  | [] => ⟨rfl, by simp [PyData.depthAll]⟩
  | p :: r => by
    have := lay_pairs r
    refine ⟨?_, ?_⟩
    · simp [Ev.pairD, PyData.canLayAll0, PyData.canLay0, this.1]
    · have h := this.2
      simp only [List.map_cons, Ev.pairD, PyData.depthAll, PyData.depth] at h ⊢
      omega
theorem lay_rules : ∀ rs : List (Int × List (Int × Int)), PyData.canLayAll0 (rs.map ruleD) = true ∧ PyData.depthAll (rs.map ruleD) ≤ 6
  | [] => ⟨rfl, by simp [PyData.depthAll]⟩
  | r :: l => by
    have := lay_rules l
    have q := lay_pairs r.2
    refine ⟨?_, ?_⟩
    · simp [ruleD, PyData.canLayAll0, PyData.canLay0, this.1, q.1]
    · have h := this.2
      have h2 := q.2
      simp only [List.map_cons, ruleD, PyData.depthAll, PyData.depth] at h h2 ⊢
      omega
theorem okEq_rules (rs : List (Int × List (Int × Int))) : okEq (.list (rs.map ruleD)) = true := by
  have := lay_rules rs
  unfold okEq SeqAt.shaped
  rw [Bool.and_eq_true, decide_eq_true_eq]
  refine ⟨by simp [PyData.canLay0, this.1], ?_⟩
  simp only [PyData.depth]
  omega
theorem eqv_nil (rs : List (Int × List (Int × Int))) : PyData.eqv (.list (rs.map ruleD)) (.list []) = rs.isEmpty := by
  cases rs <;> simp [PyData.eqv, PyData.eqvAll]
theorem pick7 {v : Int} {n : Nat} (h : 0 ≤ v) (h2 : v < 7) (hn8 : n ≤ 8) : ∃ q : Nat, atI [PyData.int 1, .int 1, .int 2, .int 2, .int 3, .int n, .int 0] v = some (.int q) ∧ q ≤ 8 := by
  have : v = 0 ∨ v = 1 ∨ v = 2 ∨ v = 3 ∨ v = 4 ∨ v = 5 ∨ v = 6 := by omega
  rcases this with rfl | rfl | rfl | rfl | rfl | rfl | rfl
  · exact ⟨1, rfl, by omega⟩
  · exact ⟨1, rfl, by omega⟩
  · exact ⟨2, rfl, by omega⟩
  · exact ⟨2, rfl, by omega⟩
  · exact ⟨3, rfl, by omega⟩
  · exact ⟨n, rfl, hn8⟩
  · exact ⟨0, rfl, by omega⟩
theorem rules_ok {s : List D} {k n : Nat} {m : Int} (hs : Src (k + 700) s) (hn : 0 < n) (hn8 : n ≤ 8) (hm : 3 ≤ m) (hb : m ≤ 59) :
    Gv (F_law_rules.fn [.list s, .int n, .int m]) fun o => ∃ (rs : List (Int × List (Int × Int))) (s' : List D), o = ((false, .tuple [.int n, .tuple (rs.map ruleD)]), .list s') ∧ Rls n rs ∧ rs.length ≤ 24 ∧ Src k s' := by
  refine run_gv [some (true, .list s), some (false, .int n), some (false, .int m), none, none, none, none, none, none, none] 1 rfl rfl rfl ?_
  unfold b_law_rules
  repeat contradiction
  refine ⟨Nat.zero_le _, ?_⟩
  repeat contradiction
  refine gx_for (I := fun i ρ => ∃ (s' : List D) (fs : List (Int × List (Int × Int))) (x4 x6 x7 : Option (Bool × D)), ρ = [some (true, .list s'), some (false, .int n), some (false, .int m), some (true, .list (fs.map ruleD)), x4, none, x6, x7, none, none] ∧ Rls n fs ∧ fs.length ≤ 8 * i ∧ i ≤ 2 ∧ Src (k + 699 - 51 * i) s') ?_
  repeat contradiction
  refine ⟨Nat.le_of_ble_eq_true rfl, ?_⟩
  repeat contradiction
  refine (draw_ok (hs.mono (show k + 699 + 1 ≤ k + 700 by omega)) (by decide) (by decide)).mono fun o ho => ?_
  obtain ⟨v, s1, rfl, h1, h2, hs1⟩ := ho
  repeat contradiction
  refine ⟨src_froz hs1, ?_⟩
  repeat contradiction
  obtain ⟨c, hc, hc2⟩ := pick4 (a := 0) (b := 1) (c := 1) (d := 2) h1 h2
  refine gi_of hc ?_
  repeat contradiction
  refine ⟨⟨by omega, by omega⟩, rfl, ⟨s1, [], none, none, none, rfl, fun r hr => absurd hr List.not_mem_nil, Nat.le_refl _, by omega, hs1⟩, fun i d ρ1 hd hI => ?_, fun ρ1 hI => ?_⟩
  · obtain ⟨s', fs, x4, x6, x7, rfl, hF, hl, hi, hs'⟩ := hI
    obtain ⟨hi2, rfl⟩ := upTo_at hd
    have hi3 : i < 2 := by omega
    repeat contradiction
    refine ⟨Nat.le_of_ble_eq_true rfl, ?_⟩
    repeat contradiction
    refine (draw_ok (hs'.mono (show (k + 648 - 51 * i + 50) + 1 ≤ k + 699 - 51 * i by omega)) (by decide) (by decide)).mono fun o ho => ?_
    obtain ⟨u, s2, rfl, h3, h4, hs2⟩ := ho
    repeat contradiction
    refine ⟨src_froz hs2, ?_⟩
    repeat contradiction
    obtain ⟨t, ht, ht2⟩ := pick4 (a := -1) (b := -1) (c := 0) (d := 1) h3 h4
    refine gi_of ht ?_
    repeat contradiction
    refine (ring_ok (hs2.mono (show (k + 648 - 51 * i + 33) + 17 ≤ k + 648 - 51 * i + 50 by omega)) hn hn8 (by omega)).mono fun o ho => ?_
    obtain ⟨rs, s3, rfl, hrs, hrl, hs3⟩ := ho
    repeat contradiction
    refine ⟨src_froz hs3, ?_⟩
    repeat contradiction
    refine (draw_ok (hs3.mono (show (k + 648 - 51 * i + 32) + 1 ≤ k + 648 - 51 * i + 33 by omega)) (by decide) (by decide)).mono fun o ho => ?_
    obtain ⟨w, s4, rfl, h5, h6, hs4⟩ := ho
    repeat contradiction
    refine ⟨src_froz hs4, ?_⟩
    repeat contradiction
    refine gv_comp (I := fun j acc ρ => ∃ (s5 : List D) (ws : List (Int × List (Int × Int))), ρ = [some (true, .list s5), some (false, .int n), some (false, .int m), some (true, .list (fs.map ruleD)), some (false, .int i), none, some (false, .list (rs.map ruleD)), some (false, .int w), none, none] ∧ acc = ws.map ruleD ∧ ws.length = j ∧ Rls n ws ∧ Src (k + 648 - 51 * i + 32 - 4 * j) s5) ?_
    repeat contradiction
    refine ⟨⟨s4, [], rfl, rfl, rfl, fun r hr => absurd hr List.not_mem_nil, hs4⟩, fun j d acc ρ1 hd hI => ?_, fun acc ρ1 hI => ?_⟩
    · obtain ⟨s5, ws, rfl, rfl, hw1, hw2, hs5⟩ := hI
      rw [List.getElem?_map, Option.map_eq_some_iff] at hd
      obtain ⟨r, hr, rfl⟩ := hd
      have hj : j < rs.length := (List.getElem?_eq_some_iff.mp hr).1
      have hrok := hrs r (List.mem_of_getElem? hr)
      repeat contradiction
      refine g_eq rfl rfl ?_
      repeat contradiction
      refine ⟨fun h => ?_, fun h => ?_⟩
      · repeat contradiction
        refine (widened_ok (hs5.mono (show (k + 648 - 51 * i + 32 - 4 * (j + 1)) + 4 ≤ k + 648 - 51 * i + 32 - 4 * j by omega)) hn hn8 hrok hm hb).mono fun o ho => ?_
        obtain ⟨r2, s6, rfl, hr2, hs6⟩ := ho
        repeat contradiction
        refine ⟨src_froz hs6, ?_⟩
        repeat contradiction
        refine ⟨s6, ws ++ [r2], rfl, by rw [List.map_append]; rfl, by rw [List.length_append, List.length_singleton, hw1], fun x hx => ?_, hs6⟩
        rcases List.mem_append.mp hx with z | z
        · exact hw2 x z
        · rw [List.mem_singleton] at z
          rw [z]; exact hr2
      · repeat contradiction
        refine ⟨s5, ws ++ [r], rfl, by rw [List.map_append]; rfl, by rw [List.length_append, List.length_singleton, hw1], fun x hx => ?_, hs5.mono (by omega)⟩
        rcases List.mem_append.mp hx with z | z
        · exact hw2 x z
        · rw [List.mem_singleton] at z
          rw [z]; exact hrok
    · obtain ⟨s5, ws, rfl, rfl, hw1, hw2, hs5⟩ := hI
      rw [List.length_map] at hw1 hs5
      have back : backR [some (true, .list s4), some (false, .int n), some (false, .int m), some (true, .list (fs.map ruleD)), some (false, .int i), none, some (false, .list (rs.map ruleD)), some (false, .int w), none, none] [some (true, .list s5), some (false, .int n), some (false, .int m), some (true, .list (fs.map ruleD)), some (false, .int i), none, some (false, .list (rs.map ruleD)), some (false, .int w), none, none] [9]
        = [some (true, .list s5), some (false, .int n), some (false, .int m), some (true, .list (fs.map ruleD)), some (false, .int i), none, some (false, .list (rs.map ruleD)), some (false, .int w), none, none] := rfl
      rw [back]
      repeat contradiction
      refine g_extend (Nat.le_trans (show _ ≤ 24 by rw [List.length_map, List.length_map]; omega) (Nat.le_of_ble_eq_true rfl)) ?_
      repeat contradiction
      refine ⟨s5, fs ++ ws, some (false, .int i), some (false, .list (rs.map ruleD)), some (false, .int w), by rw [List.map_append], fun r hr => ?_, by rw [List.length_append]; omega, by omega, hs5.mono (by omega)⟩
      rcases List.mem_append.mp hr with z | z
      · exact hF r z
      · exact hw2 r z
  · obtain ⟨s', fs, x4, x6, x7, rfl, hF, hl, hi, hs'⟩ := hI
    have hf16 : fs.length ≤ 16 := by omega
    have hs2 : Src (k + 597) s' := hs'.mono (by omega)
    repeat contradiction
    refine gx_for (I := fun i ρ => ∃ (s' : List D) (fs : List (Int × List (Int × Int))) (x4 x8 : Option (Bool × D)), ρ = [some (true, .list s'), some (false, .int n), some (false, .int m), some (true, .list (fs.map ruleD)), x4, none, x6, x7, x8, none] ∧ Rls n fs ∧ fs.length ≤ 16 + i ∧ i ≤ 17 ∧ Src (k + 596 - 27 * i) s') ?_
    repeat contradiction
    refine g_mulS (by decide) (by omega) ?_
    repeat contradiction
    refine (draw_ok (hs2.mono (show k + 596 + 1 ≤ k + 597 by omega)) (by omega) (by omega)).mono fun o ho => ?_
    obtain ⟨v, s3, rfl, h3, h4, hs3⟩ := ho
    repeat contradiction
    refine ⟨src_froz hs3, ?_⟩
    repeat contradiction
    refine ⟨⟨by omega, by omega⟩, rfl, ⟨s3, fs, x4, none, rfl, hF, hf16, by omega, hs3⟩, fun i d ρ1 hd hI => ?_, fun ρ1 hI => ?_⟩
    · obtain ⟨s4, gs, y4, y8, rfl, hG, hgl, hi, hs4⟩ := hI
      obtain ⟨hi2, rfl⟩ := upTo_at hd
      have hi3 : i < 17 := by omega
      repeat contradiction
      refine ⟨Nat.le_of_ble_eq_true rfl, ?_⟩
      repeat contradiction
      refine (draw_ok (hs4.mono (show (k + 569 - 27 * i + 26) + 1 ≤ k + 596 - 27 * i by omega)) (by decide) (by decide)).mono fun o ho => ?_
      obtain ⟨u, s5, rfl, h5, h6, hs5⟩ := ho
      repeat contradiction
      refine ⟨src_froz hs5, ?_⟩
      repeat contradiction
      obtain ⟨q, hq, hq8⟩ := pick7 (n := n) h5 h6 hn8
      refine gi_of hq ?_
      repeat contradiction
      -- a rule is appended
      have app : ∀ (s6 : List D) (N : Rho → Prop) (B C : Rho → Prop) (T : R → Rho → Prop), Src (k + 569 - 27 * i + 25) s6 →
          (∀ (s7 : List D) (r : Int × List (Int × Int)), Rl n 59 r → Src (k + 569 - 27 * i) s7 → N [some (true, .list s7), some (false, .int n), some (false, .int m), some (true, .list ((gs ++ [r]).map ruleD)), some (false, .int i), none, x6, x7, some (false, .int q), none]) →
          Gx (Ev.execs G_law_rules 1 fuel (.cons (.expr (.meth .append 3 (.cons (.tup (.cons (.callm "_law_draw" 0 (.cons (.var 1) .nil)) (.cons (.callm "_law_terms" 0 (.cons (.var 1) (.cons (.var 8) (.cons (.var 2) .nil)))) .nil))) .nil))) .nil)
            [some (true, .list s6), some (false, .int n), some (false, .int m), some (true, .list (gs.map ruleD)), some (false, .int i), none, x6, x7, some (false, .int q), none]) N B C T := fun s6 N B C T h6 hN => by
        repeat contradiction
        refine (draw_ok (h6.mono (show (k + 569 - 27 * i + 24) + 1 ≤ k + 569 - 27 * i + 25 by omega)) (by omega) (by omega)).mono fun o ho => ?_
        obtain ⟨l, s8, rfl, h7, h8, hs8⟩ := ho
        repeat contradiction
        refine ⟨src_froz hs8, ?_⟩
        repeat contradiction
        refine (terms_ok (k := k + 569 - 27 * i) (hs8.mono (show (k + 569 - 27 * i) + 3 * q ≤ k + 569 - 27 * i + 24 by omega)) hq8 (by omega) (by omega) hm hb).mono fun o ho => ?_
        obtain ⟨ps, s9, rfl, hp1, _, _, hs9⟩ := ho
        repeat contradiction
        refine ⟨src_froz hs9, ?_⟩
        repeat contradiction
        refine ⟨Nat.le_of_ble_eq_true rfl, ?_⟩
        repeat contradiction
        refine g_append (Nat.lt_of_le_of_lt (show _ ≤ 40 by rw [List.length_map]; omega) (Nat.lt_of_lt_of_le (by decide) (Nat.le_of_ble_eq_true (show Nat.ble 41 sizeLine = true from rfl)))) ?_
        repeat contradiction
        have := hN s9 (l, ps) ⟨h7, h8, hp1.wider (by omega)⟩ hs9
        rw [List.map_append] at this
        exact this
      have fin : ∀ (s7 : List D) (r : Int × List (Int × Int)), Rl n 59 r → Src (k + 569 - 27 * i) s7 → ∃ (s' : List D) (fs : List (Int × List (Int × Int))) (x4 x8 : Option (Bool × D)), [some (true, .list s7), some (false, .int n), some (false, .int m), some (true, .list ((gs ++ [r]).map ruleD)), some (false, .int i), none, x6, x7, some (false, .int q), none] = [some (true, .list s'), some (false, .int n), some (false, .int m), some (true, .list (fs.map ruleD)), x4, none, x6, x7, x8, none] ∧ Rls n fs ∧ fs.length ≤ 16 + (i + 1) ∧ i + 1 ≤ 17 ∧ Src (k + 596 - 27 * (i + 1)) s' := fun s7 r hr h7 =>
        ⟨s7, gs ++ [r], _, _, rfl, fun x hx => (List.mem_append.mp hx).elim (hG x) fun z => by rw [List.mem_singleton] at z; rw [z]; exact hr, by rw [List.length_append, List.length_singleton]; omega, by omega, h7.mono (by omega)⟩
      refine ⟨fun h => ?_, fun h => ?_⟩
      · try refine pick_t ?_
        refine app s5 _ _ _ _ (hs5.mono (by omega)) fun s7 r hr h7 => ?_
        repeat contradiction
        exact fin s7 r hr h7
      · repeat contradiction
        refine (draw_ok (hs5.mono (show (k + 569 - 27 * i + 25) + 1 ≤ k + 569 - 27 * i + 26 by omega)) (by decide) (by decide)).mono fun o ho => ?_
        obtain ⟨w, s6, rfl, h7, h8, hs6⟩ := ho
        repeat contradiction
        refine ⟨src_froz hs6, ?_⟩
        repeat contradiction
        refine g_eq rfl rfl ?_
        repeat contradiction
        refine ⟨fun h => ?_, fun h => ?_⟩
        · refine app s6 _ _ _ _ hs6 fun s7 r hr h7 => ?_
          repeat contradiction
          exact fin s7 r hr h7
        · repeat contradiction
          exact ⟨s6, gs, some (false, .int i), some (false, .int q), rfl, hG, by omega, by omega, hs6.mono (by omega)⟩
    · obtain ⟨s4, gs, y4, y8, rfl, hG, hgl, hi, hs4⟩ := hI
      have hg33 : gs.length ≤ 33 := by omega
      have hs5 : Src (k + gs.length) s4 := hs4.mono (by omega)
      repeat contradiction
      refine ⟨Nat.zero_le _, ?_⟩
      repeat contradiction
      refine gx_while (I := fun j ρ => ∃ (s' : List D) (fs ms : List (Int × List (Int × Int))), ρ = [some (true, .list s'), some (false, .int n), some (false, .int m), some (true, .list (fs.map ruleD)), y4, some (true, .list (ms.map ruleD)), x6, x7, y8, none] ∧ Rls n fs ∧ Rls n ms ∧ fs.length + ms.length ≤ 33 ∧ fs.length = j ∧ Src (k + j) s') gs.length (Nat.lt_of_le_of_lt hg33 (by decide)) ⟨s4, gs, [], rfl, hG, fun r hr => absurd hr List.not_mem_nil, by simpa using hg33, rfl, hs5⟩ fun j ρ1 hI => ?_
      obtain ⟨s', fs, ms, rfl, hF2, hM, hlen, hj, hs6⟩ := hI
      repeat contradiction
      refine ⟨Nat.zero_le _, ?_⟩
      repeat contradiction
      refine g_ne (okEq_rules fs) rfl ?_
      rw [eqv_nil]
      repeat contradiction
      refine ⟨fun h => ?_, fun h => ?_⟩
      · have hpos : 0 < fs.length := by
          cases fs with
          | nil => simp at h
          | cons a b => simp
        repeat contradiction
        refine (draw_ok (hs6.mono (show (k + (j - 1)) + 1 ≤ k + j by omega)) (by rw [List.length_map]; omega) (by rw [List.length_map]; omega)).mono fun o ho => ?_
        obtain ⟨u, s7, rfl, h7, h8, hs7⟩ := ho
        rw [List.length_map] at h8
        repeat contradiction
        refine ⟨src_froz hs7, ?_⟩
        repeat contradiction
        have hu : u.toNat < fs.length := by omega
        refine g_pop (y := ruleD fs[u.toNat]) h7 (by rw [List.length_map]; exact h8) (by rw [List.getElem?_map, List.getElem?_eq_getElem hu]; rfl) ?_
        repeat contradiction
        refine g_append (Nat.lt_of_le_of_lt (show _ ≤ 40 by rw [List.length_map]; omega) (Nat.lt_of_lt_of_le (by decide) (Nat.le_of_ble_eq_true (show Nat.ble 41 sizeLine = true from rfl)))) ?_
        repeat contradiction
        refine ⟨j - 1, by omega, s7, fs.eraseIdx u.toNat, ms ++ [fs[u.toNat]], ?_, fun x hx => hF2 x (List.mem_of_mem_eraseIdx hx), fun x hx => ?_, ?_, ?_, hs7⟩
        · rw [List.map_append, ← erase_map]
          rfl
        · rcases List.mem_append.mp hx with z | z
          · exact hM x z
          · rw [List.mem_singleton] at z
            rw [z]
            exact hF2 _ (List.getElem_mem _)
        · rw [List.length_append, List.length_singleton, List.length_eraseIdx, if_pos hu]; omega
        · rw [List.length_eraseIdx, if_pos hu]; omega
      · have hnil : fs.length = 0 := by
          cases fs with
          | nil => rfl
          | cons a b => simp at h
        repeat contradiction
        refine ⟨Nat.le_of_ble_eq_true rfl, ?_⟩
        repeat contradiction
        have hcut : Ev.cutD (ms.map ruleD) none (some 24) = (ms.take 24).map ruleD := by
          rw [show (some (24 : Int)) = some ((24 : Nat) : Int) from rfl, cut_to]
          exact (List.map_take ..).symm
        rw [hcut]
        exact ⟨ms.take 24, s', rfl, fun r hr => hM r (List.mem_of_mem_take hr), by rw [List.length_take]; omega, hs6.mono (by omega)⟩

end K
set_option Elab.async false
set_option linter.all false
set_option maxRecDepth 100000
set_option maxHeartbeats 4000000
namespace K
open PySem PySem.Spec PyProof.Rows L2 Ev
local macro_rules | `(tactic| contradiction) => `(tactic| (((first
  | refine Stp1.h ?_
  | ((with_reducible refine gi_mk ?_); refine gv_some.mpr ?_)
  | ((with_reducible refine b_name ?_ ?_); · (simp only [List.length_cons, List.length_nil, List.length_set]; decide))
  | ((with_reducible refine gs_val ?_ ?_); · (simp only [List.length_cons, List.length_nil, List.length_set]; decide))
  | with_reducible refine And.intro rfl ?_)) <;> try dsimp only [List.set_cons_zero, List.set_cons_succ, List.length_cons, List.length_nil, Int.reduceToNat]))
def sumsOf (ps : List (Int × Int)) (ts : List Int) : List Int := ps.map fun p => ts.getD p.1.toNat 0 + p.2
def sideD : List Int → D
  | [] => .none
  | x :: r => .int (maxI x r)
theorem ints_getD {ts : List Int} {z : Int} {Ψ : D → Prop} (h0 : 0 ≤ z) (h : z < ts.length) (q : Ψ (.int (ts.getD z.toNat 0))) : Gi (atI (IntsD ts) z) Ψ := by
  have hz : z.toNat < ts.length := by omega
  refine gi_ix h0 (by rw [List.length_map]; exact h) ?_ q
  rw [List.getElem?_map, List.getElem?_eq_getElem hz, List.getD_eq_getElem?_getD, List.getElem?_eq_getElem hz]
  rfl
theorem side_ok {n : Nat} {r : Int × List (Int × Int)} {ts : List Int} (hr : Rl n 59 r) (ht : ts.length = n) : Gv (F_law_side.fn [ruleD r, .tuple (IntsD ts)]) fun o => o = ((false, sideD (sumsOf r.2 ts)), .none) := by
  obtain ⟨l, ps⟩ := r
  refine run_gv [some (false, ruleD (l, ps)), some (false, .tuple (IntsD ts)), none, none, none] 0 rfl rfl rfl ?_
  unfold b_law_side ruleD
  repeat contradiction
  refine gv_comp (I := fun i acc ρ => ρ = [some (false, .tuple [.int l, .tuple (ps.map Ev.pairD)]), some (false, .tuple (IntsD ts)), none, none, none] ∧ acc = (IntsD (sumsOf ps ts)).take i) ?_
  repeat contradiction
  refine ⟨⟨rfl, rfl⟩, fun i d acc ρ1 hd hI => ?_, fun acc ρ1 hI => ?_⟩
  · obtain ⟨rfl, rfl⟩ := hI
    rw [List.getElem?_map, Option.map_eq_some_iff] at hd
    obtain ⟨p, hp, rfl⟩ := hd
    have hrg := hr.tm.rg p (List.mem_of_getElem? hp)
    unfold Ev.pairD
    repeat contradiction
    refine ints_getD hrg.1 (by omega) ?_
    repeat contradiction
    refine ints_getD hrg.1 (by omega) ?_
    repeat contradiction
    refine take_next ?_
    unfold sumsOf
    rw [List.getElem?_map, List.getElem?_map, hp]
    rfl
  · obtain ⟨rfl, rfl⟩ := hI
    rw [List.take_of_length_le (by simp [sumsOf])]
    refine gs_val ⟨Nat.zero_le _, (by simp [backR])⟩ ?_
    show Gx (Ev.execs G_law_side 0 fuel _ [some (false, .tuple [.int l, .tuple (ps.map Ev.pairD)]), some (false, .tuple (IntsD ts)), some (true, .list (IntsD (sumsOf ps ts))), none, none]) _ _ _ _
    repeat contradiction
    have e : maxdD (.list (IntsD (sumsOf ps ts))) = some (sideD (sumsOf ps ts)) := by
      cases sumsOf ps ts with
      | nil => rfl
      | cons x r =>
        show (asInts (r.map .int)).map (fun ns => PyData.int (maxI x ns)) = _
        rw [asInts_map]
        rfl
    refine gv_eq e ?_
    repeat contradiction
theorem greatest_ok {n m : Int} {ps : List (Int × Int)} {ts : List Int} (hr : Terms n m ps) (ht : n = ts.length) : Gv (F_greatest_sum.fn [.tuple (ps.map Ev.pairD), .tuple (IntsD ts)]) fun o => o = ((false, sideD (sumsOf ps ts)), .none) := by
  refine run_gv [some (false, .tuple (ps.map Ev.pairD)), some (false, .tuple (IntsD ts)), none, none, none] 0 rfl rfl rfl ?_
  unfold b_greatest_sum
  repeat contradiction
  refine gv_comp (I := fun i acc ρ => ρ = [some (false, .tuple (ps.map Ev.pairD)), some (false, .tuple (IntsD ts)), none, none, none] ∧ acc = (IntsD (sumsOf ps ts)).take i) ?_
  repeat contradiction
  refine ⟨⟨rfl, rfl⟩, fun i d acc ρ1 hd hI => ?_, fun acc ρ1 hI => ?_⟩
  · obtain ⟨rfl, rfl⟩ := hI
    rw [List.getElem?_map, Option.map_eq_some_iff] at hd
    obtain ⟨p, hp, rfl⟩ := hd
    have hrg := hr.rg p (List.mem_of_getElem? hp)
    unfold Ev.pairD
    repeat contradiction
    refine ints_getD hrg.1 (by omega) ?_
    repeat contradiction
    refine ints_getD hrg.1 (by omega) ?_
    repeat contradiction
    refine take_next ?_
    unfold sumsOf
    rw [List.getElem?_map, List.getElem?_map, hp]
    rfl
  · obtain ⟨rfl, rfl⟩ := hI
    rw [List.take_of_length_le (by simp [sumsOf])]
    refine gs_val ⟨Nat.zero_le _, (by simp [backR])⟩ ?_
    show Gx (Ev.execs G_greatest_sum 0 fuel _ [some (false, .tuple (ps.map Ev.pairD)), some (false, .tuple (IntsD ts)), some (true, .list (IntsD (sumsOf ps ts))), none, none]) _ _ _ _
    repeat contradiction
    have e : maxdD (.list (IntsD (sumsOf ps ts))) = some (sideD (sumsOf ps ts)) := by
      cases sumsOf ps ts with
      | nil => rfl
      | cons x r =>
        show (asInts (r.map .int)).map (fun ns => PyData.int (maxI x ns)) = _
        rw [asInts_map]
        rfl
    refine gv_eq e ?_
    repeat contradiction
/-- whether the rule holds -/
def holdsB (r : Int × List (Int × Int)) (ts : List Int) : Bool := match sumsOf r.2 ts with
  | [] => false
  | x :: l => decide (ts.getD r.1.toNat 0 ≤ maxI x l)
theorem law_holds_ok {n : Nat} {r : Int × List (Int × Int)} {ts : List Int} (hr : Rl n 59 r) (ht : ts.length = n) : Gv (F_law_holds.fn [ruleD r, .tuple (IntsD ts)]) fun o => o = ((false, .bool (holdsB r ts)), .none) := by
  refine run_gv [some (false, ruleD r), some (false, .tuple (IntsD ts)), none] 0 rfl rfl rfl ?_
  have h1 := hr.lo
  have h2 := hr.hi
  have hs := side_ok hr ht
  obtain ⟨l, ps⟩ := r
  unfold b_law_holds ruleD
  repeat contradiction
  refine ints_getD h1 (by omega) ?_
  repeat contradiction
  refine hs.mono fun o ho => ?_
  subst ho
  repeat contradiction
  have e : holdsB (l, ps) ts = match sumsOf ps ts with
    | [] => false
    | x :: r => decide (ts.getD l.toNat 0 ≤ maxI x r) := rfl
  rw [e]
  clear e hs
  cases sumsOf ps ts with
  | nil =>
    refine ⟨fun h => (by cases h), fun _ => ?_⟩
    repeat contradiction
    rfl
  | cons x r =>
    refine ⟨fun _ => ?_, fun h => (by cases h)⟩
    dsimp only [sideD]
    repeat contradiction
    refine ints_getD h1 (by omega) ?_
    repeat contradiction
theorem holds_ok {n : Nat} {r : Int × List (Int × Int)} {ts : List Int} (hr : Rl n 59 r) (ht : ts.length = n) : Gv (F_holds.fn [ruleD r, .tuple (IntsD ts)]) fun o => o = ((false, .bool (holdsB r ts)), .none) := by
  refine run_gv [some (false, ruleD r), some (false, .tuple (IntsD ts)), none, none, none] 0 rfl rfl rfl ?_
  have h1 := hr.lo
  have h2 := hr.hi
  have hs := greatest_ok (ts := ts) hr.tm (by omega)
  obtain ⟨l, ps⟩ := r
  unfold b_holds ruleD
  repeat contradiction
  refine ints_getD h1 (by omega) ?_
  repeat contradiction
  refine hs.mono fun o ho => ?_
  subst ho
  repeat contradiction
  have e : holdsB (l, ps) ts = match sumsOf ps ts with
    | [] => false
    | x :: r => decide (ts.getD l.toNat 0 ≤ maxI x r) := rfl
  rw [e]
  clear e hs
  cases sumsOf ps ts with
  | nil =>
    refine ⟨fun h => (by cases h), fun _ => ?_⟩
    repeat contradiction
    rfl
  | cons x r =>
    refine ⟨fun _ => ?_, fun h => (by cases h)⟩
    dsimp only [sideD]
    repeat contradiction
    refine ints_getD h1 (by omega) ?_
    repeat contradiction

end K
set_option Elab.async false
set_option linter.all false
set_option maxRecDepth 100000
set_option maxHeartbeats 4000000
namespace K
open PySem PySem.Spec PyProof.Rows L2 Ev
local macro_rules | `(tactic| contradiction) => `(tactic| (((first
  | refine Stp1.h ?_
  | ((with_reducible refine gi_mk ?_); refine gv_some.mpr ?_)
  | ((with_reducible refine b_name ?_ ?_); · (simp only [List.length_cons, List.length_nil, List.length_set]; decide))
  | ((with_reducible refine gs_val ?_ ?_); · (simp only [List.length_cons, List.length_nil, List.length_set]; decide))
  | with_reducible refine And.intro rfl ?_)) <;> try dsimp only [List.set_cons_zero, List.set_cons_succ, List.length_cons, List.length_nil, Int.reduceToNat]))
abbrev Yes (o : (Bool × D) × D) : Prop := o = ((false, .bool true), .none)
theorem is_integer_ok (x : Int) : Gv (F_is_integer.fn [.int x]) Yes := ⟨_, rfl, rfl⟩
theorem is_within_ok {x lo hi : Int} (h1 : lo ≤ x) (h2 : x ≤ hi) : Gv (F_is_within.fn [.int x, .int lo, .int hi]) Yes := by
  refine run_gv [some (false, .int x), some (false, .int lo), some (false, .int hi)] 0 rfl rfl rfl ?_
  unfold b_is_within
  repeat contradiction
  refine (is_integer_ok x).mono fun o ho => ?_
  subst ho
  repeat contradiction
  refine ⟨fun _ => ?_, fun z => absurd h1 (of_decide_eq_false z)⟩
  repeat contradiction
  show _ = _
  rw [decide_eq_true h2]
theorem is_index_ok {x n : Int} (h1 : 0 ≤ x) (h2 : x < n) : Gv (F_is_index.fn [.int x, .int n]) Yes := by
  refine run_gv [some (false, .int x), some (false, .int n)] 0 rfl rfl rfl ?_
  unfold b_is_index
  repeat contradiction
  refine (is_within_ok h1 (show x ≤ n - 1 by omega)).mono fun o ho => ?_
  subst ho
  repeat contradiction
  exact rfl
theorem is_size_ok {x : Int} (h1 : 1 ≤ x) (h2 : x ≤ 8) : Gv (F_is_size.fn [.int x]) Yes := by
  refine run_gv [some (false, .int x)] 0 rfl rfl rfl ?_
  unfold b_is_size
  repeat contradiction
  refine (is_within_ok h1 h2).mono fun o ho => ?_
  subst ho
  repeat contradiction
  exact rfl
theorem is_delay_ok {x : Int} (h1 : -60 ≤ x) (h2 : x ≤ 59) : Gv (F_is_delay.fn [.int x]) Yes := by
  refine run_gv [some (false, .int x)] 0 rfl rfl rfl ?_
  unfold b_is_delay
  repeat contradiction
  refine (is_within_ok h1 (show x ≤ 60 - 1 by omega)).mono fun o ho => ?_
  subst ho
  repeat contradiction
  exact rfl
theorem is_tuple_ok {xs : List D} {n : Int} (h : (xs.length : Int) = n) : Gv (F_is_tuple_of.fn [.tuple xs, .int n]) Yes := by
  refine run_gv [some (false, .tuple xs), some (false, .int n)] 0 rfl rfl rfl ?_
  unfold b_is_tuple_of
  repeat contradiction
  refine ⟨fun _ => ?_, fun z => (by cases z)⟩
  repeat contradiction
  refine g_eq rfl rfl ?_
  repeat contradiction
  show _ = _
  rw [h]
  simp [PyData.eqv]
theorem check_size_ok {x : Int} (h1 : 1 ≤ x) (h2 : x ≤ 8) : Gv (F_check_size.fn [.int x]) fun o => o = ((false, .none), .none) := by
  refine run_gv [some (false, .int x)] 0 rfl rfl rfl ?_
  unfold b_check_size
  repeat contradiction
  refine (is_size_ok h1 h2).mono fun o ho => ?_
  subst ho
  repeat contradiction
  refine ⟨fun z => (by cases z), fun _ => ?_⟩
  repeat contradiction

end K
set_option Elab.async false
set_option linter.all false
set_option maxRecDepth 100000
set_option maxHeartbeats 4000000
namespace K
open PySem PySem.Spec PyProof.Rows L2 Ev
local macro_rules | `(tactic| contradiction) => `(tactic| (((first
  | refine Stp1.h ?_
  | ((with_reducible refine gi_mk ?_); refine gv_some.mpr ?_)
  | ((with_reducible refine b_name ?_ ?_); · (simp only [List.length_cons, List.length_nil, List.length_set]; decide))
  | ((with_reducible refine gs_val ?_ ?_); · (simp only [List.length_cons, List.length_nil, List.length_set]; decide))
  | with_reducible refine And.intro rfl ?_)) <;> try dsimp only [List.set_cons_zero, List.set_cons_succ, List.length_cons, List.length_nil, Int.reduceToNat]))
theorem is_term_ok {n : Int} {p : Int × Int} (h : 0 ≤ p.1 ∧ p.1 < n ∧ -59 - 1 ≤ p.2 ∧ p.2 ≤ 59) : Gv (F_is_loose_term.fn [.int n, Ev.pairD p]) Yes := by
  refine run_gv [some (false, .int n), some (false, Ev.pairD p)] 0 rfl rfl rfl ?_
  unfold b_is_loose_term Ev.pairD
  repeat contradiction
  refine (is_tuple_ok rfl).mono fun o ho => ?_
  subst ho
  repeat contradiction
  refine (is_index_ok h.1 h.2.1).mono fun o ho => ?_
  subst ho
  repeat contradiction
  refine (is_integer_ok _).mono fun o ho => ?_
  subst ho
  repeat contradiction
  exact rfl
theorem asBools_true : ∀ n : Nat, asBools (List.replicate n (.bool true)) = some (List.replicate n true)
  | 0 => rfl
  | n + 1 => by simp only [List.replicate_succ, asBools, asBools_true n, Option.map_some]
theorem all_true (n : Nat) : (List.replicate n true).all id = true := by simp
theorem rep_next {i : Nat} : List.replicate i (PyData.bool true) ++ [.bool true] = List.replicate (i + 1) (.bool true) := by
  rw [List.replicate_succ']
theorem unordered_ok {n : Nat} {r : Int × List (Int × Int)} (h : Rl n 59 r) : Gv (F_is_unordered_rule.fn [.int n, ruleD r]) Yes := by
  refine run_gv [some (false, .int n), some (false, ruleD r), none] 0 rfl rfl rfl ?_
  have h1 := h.lo
  have h2 := h.hi
  have h3 := h.tm.rg
  obtain ⟨l, ps⟩ := r
  unfold b_is_unordered_rule ruleD
  repeat contradiction
  refine (is_tuple_ok rfl).mono fun o ho => ?_
  subst ho
  repeat contradiction
  refine ⟨fun z => (by cases z), fun _ => ?_⟩
  repeat contradiction
  refine (is_index_ok h1 h2).mono fun o ho => ?_
  subst ho
  repeat contradiction
  refine ⟨fun z => (by cases z), fun _ => ?_⟩
  repeat contradiction
  refine ⟨fun z => (by cases z), fun _ => ?_⟩
  repeat contradiction
  refine gv_comp (I := fun i acc ρ => ρ = [some (false, .int n), some (false, .tuple [.int l, .tuple (ps.map Ev.pairD)]), none] ∧ acc = List.replicate i (.bool true)) ?_
  repeat contradiction
  refine ⟨⟨rfl, rfl⟩, fun i d acc ρ1 hd hI => ?_, fun acc ρ1 hI => ?_⟩
  · obtain ⟨rfl, rfl⟩ := hI
    rw [List.getElem?_map, Option.map_eq_some_iff] at hd
    obtain ⟨p, hp, rfl⟩ := hd
    repeat contradiction
    refine (is_term_ok (h3 p (List.mem_of_getElem? hp))).mono fun o ho => ?_
    subst ho
    repeat contradiction
    exact rep_next
  · obtain ⟨rfl, rfl⟩ := hI
    repeat contradiction
    refine p_all (asBools_true _) ?_
    rw [all_true]
    repeat contradiction
    exact rfl
theorem has_delays_ok {n : Nat} {r : Int × List (Int × Int)} (h : Rl n 59 r) : Gv (F_has_delays.fn [ruleD r]) Yes := by
  refine run_gv [some (false, ruleD r), none, none] 0 rfl rfl rfl ?_
  have h3 := h.tm.rg
  obtain ⟨l, ps⟩ := r
  unfold b_has_delays ruleD
  repeat contradiction
  refine gv_comp (I := fun i acc ρ => ρ = [some (false, .tuple [.int l, .tuple (ps.map Ev.pairD)]), none, none] ∧ acc = List.replicate i (.bool true)) ?_
  repeat contradiction
  refine ⟨⟨rfl, rfl⟩, fun i d acc ρ1 hd hI => ?_, fun acc ρ1 hI => ?_⟩
  · obtain ⟨rfl, rfl⟩ := hI
    rw [List.getElem?_map, Option.map_eq_some_iff] at hd
    obtain ⟨p, hp, rfl⟩ := hd
    have h4 := h3 p (List.mem_of_getElem? hp)
    unfold Ev.pairD
    repeat contradiction
    refine (is_delay_ok (by omega) h4.2.2.2).mono fun o ho => ?_
    have ho : o = ((false, .bool true), .none) := ho
    subst ho
    repeat contradiction
    exact rep_next
  · obtain ⟨rfl, rfl⟩ := hI
    repeat contradiction
    refine p_all (asBools_true _) ?_
    rw [all_true]
    repeat contradiction
    exact rfl
theorem ascends_ok {vs : List Int} (h : vs.Pairwise (· < ·)) (hl : vs.length ≤ 100) : Gv (F_ascends.fn [.list (IntsD vs)]) Yes := by
  refine run_gv [some (false, .list (IntsD vs)), none] 0 rfl rfl rfl ?_
  unfold b_ascends
  repeat contradiction
  refine gv_comp (I := fun i acc ρ => ρ = [some (false, .list (IntsD vs)), none] ∧ acc = List.replicate i (.bool true)) ?_
  repeat contradiction
  refine ⟨by rw [List.length_map]; omega, ⟨rfl, ⟨rfl, rfl⟩, fun i d acc ρ1 hd hI => ?_, fun acc ρ1 hI => ?_⟩⟩
  · obtain ⟨rfl, rfl⟩ := hI
    obtain ⟨hi, rfl⟩ := upTo_at hd
    rw [List.length_map] at hi
    have h1 : i < vs.length := by omega
    have h2 : i + 1 < vs.length := by omega
    repeat contradiction
    refine ints_getD (by omega) (by omega) ?_
    repeat contradiction
    refine ints_getD (by omega) (by omega) ?_
    repeat contradiction
    have lt : vs.getD (i : Int).toNat 0 < vs.getD ((i : Int) + 1).toNat 0 := by
      have e1 : (i : Int).toNat = i := by omega
      have e2 : ((i : Int) + 1).toNat = i + 1 := by omega
      rw [e1, e2, List.getD_eq_getElem?_getD, List.getD_eq_getElem?_getD, List.getElem?_eq_getElem h1, List.getElem?_eq_getElem h2]
      exact List.pairwise_iff_getElem.mp h i (i + 1) h1 h2 (by omega)
    rw [decide_eq_true lt]
    exact rep_next
  · obtain ⟨rfl, rfl⟩ := hI
    repeat contradiction
    refine p_all (asBools_true _) ?_
    rw [all_true]
    repeat contradiction
    exact rfl

end K
set_option Elab.async false
set_option linter.all false
set_option maxRecDepth 100000
set_option maxHeartbeats 4000000
namespace K
open PySem PySem.Spec PyProof.Rows L2 Ev
local macro_rules | `(tactic| contradiction) => `(tactic| (((first
  | refine Stp1.h ?_
  | ((with_reducible refine gi_mk ?_); refine gv_some.mpr ?_)
  | ((with_reducible refine b_name ?_ ?_); · (simp only [List.length_cons, List.length_nil, List.length_set]; decide))
  | ((with_reducible refine gs_val ?_ ?_); · (simp only [List.length_cons, List.length_nil, List.length_set]; decide))
  | with_reducible refine And.intro rfl ?_)) <;> try dsimp only [List.set_cons_zero, List.set_cons_succ, List.length_cons, List.length_nil, Int.reduceToNat]))
theorem is_loose_rule_ok {n : Nat} {r : Int × List (Int × Int)} (h : Rl n 59 r) (hn : 1 ≤ n) (hn8 : n ≤ 8) : Gv (F_is_loose_rule.fn [.int n, ruleD r]) Yes := by
  refine run_gv [some (false, .int n), some (false, ruleD r), none] 0 rfl rfl rfl ?_
  have hlen := h.tm.len (by omega)
  have hu := unordered_ok h
  have up := h.tm.up
  obtain ⟨l, ps⟩ := r
  unfold b_is_loose_rule
  repeat contradiction
  refine hu.mono fun o ho => ?_
  have ho : o = ((false, .bool true), .none) := ho
  subst ho
  unfold ruleD
  repeat contradiction
  refine gv_comp (I := fun i acc ρ => ρ = [some (false, .int n), some (false, .tuple [.int l, .tuple (ps.map Ev.pairD)]), none] ∧ acc = (IntsD (ps.map (·.1))).take i) ?_
  repeat contradiction
  refine ⟨⟨rfl, rfl⟩, fun i d acc ρ1 hd hI => ?_, fun acc ρ1 hI => ?_⟩
  · obtain ⟨rfl, rfl⟩ := hI
    rw [List.getElem?_map, Option.map_eq_some_iff] at hd
    obtain ⟨p, hp, rfl⟩ := hd
    unfold Ev.pairD
    repeat contradiction
    refine take_next ?_
    rw [List.getElem?_map, List.getElem?_map, hp]
    rfl
  · obtain ⟨rfl, rfl⟩ := hI
    rw [List.take_of_length_le (by simp)]
    have hlen : (ps.length : Int) ≤ n := hlen
    repeat contradiction
    refine (ascends_ok up (by rw [List.length_map]; omega)).mono fun o ho => ?_
    have ho : o = ((false, .bool true), .none) := ho
    subst ho
    repeat contradiction
    exact rfl
theorem is_rule_ok {n : Nat} {r : Int × List (Int × Int)} (h : Rl n 59 r) (hn : 1 ≤ n) (hn8 : n ≤ 8) : Gv (F_is_rule.fn [.int n, ruleD r]) Yes := by
  refine run_gv [some (false, .int n), some (false, ruleD r)] 0 rfl rfl rfl ?_
  unfold b_is_rule
  repeat contradiction
  refine (check_size_ok (by omega) (by omega)).mono fun o ho => ?_
  subst ho
  repeat contradiction
  refine (is_loose_rule_ok h hn hn8).mono fun o ho => ?_
  have ho : o = ((false, .bool true), .none) := ho
  subst ho
  repeat contradiction
  refine (has_delays_ok h).mono fun o ho => ?_
  have ho : o = ((false, .bool true), .none) := ho
  subst ho
  repeat contradiction
  exact rfl
/-- the data of a rule set -/
def setD (n : Nat) (rs : List (Int × List (Int × Int))) : D := .tuple [.int n, .tuple (rs.map ruleD)]
theorem is_rule_set_ok {n : Nat} {rs : List (Int × List (Int × Int))} (h : Rls n rs) (hn : 1 ≤ n) (hn8 : n ≤ 8) (hl : rs.length ≤ 24) : Gv (F_is_rule_set.fn [setD n rs]) Yes := by
  refine run_gv [some (false, setD n rs), none, none, none] 0 rfl rfl rfl ?_
  unfold b_is_rule_set setD
  repeat contradiction
  refine (is_tuple_ok rfl).mono fun o ho => ?_
  have ho : o = ((false, .bool true), .none) := ho
  subst ho
  repeat contradiction
  refine ⟨fun z => (by cases z), fun _ => ?_⟩
  repeat contradiction
  refine (is_size_ok (by omega) (by omega)).mono fun o ho => ?_
  have ho : o = ((false, .bool true), .none) := ho
  subst ho
  repeat contradiction
  refine ⟨fun z => (by cases z), fun _ => ?_⟩
  repeat contradiction
  refine ⟨fun z => (by cases z), fun _ => ?_⟩
  repeat contradiction
  refine ⟨fun z => ?_, fun _ => ?_⟩
  · have := of_decide_eq_true z
    rw [List.length_map] at this
    omega
  repeat contradiction
  refine gv_comp (I := fun i acc ρ => ρ = [some (false, .tuple [.int n, .tuple (rs.map ruleD)]), some (false, .int n), some (false, .tuple (rs.map ruleD)), none] ∧ acc = List.replicate i (.bool true)) ?_
  repeat contradiction
  refine ⟨⟨rfl, rfl⟩, fun i d acc ρ1 hd hI => ?_, fun acc ρ1 hI => ?_⟩
  · obtain ⟨rfl, rfl⟩ := hI
    rw [List.getElem?_map, Option.map_eq_some_iff] at hd
    obtain ⟨r, hr, rfl⟩ := hd
    repeat contradiction
    refine (is_rule_ok (h r (List.mem_of_getElem? hr)) hn hn8).mono fun o ho => ?_
    have ho : o = ((false, .bool true), .none) := ho
    subst ho
    repeat contradiction
    exact rep_next
  · obtain ⟨rfl, rfl⟩ := hI
    repeat contradiction
    refine p_all (asBools_true _) ?_
    rw [all_true]
    repeat contradiction
    exact rfl
theorem check_rules_ok {n : Nat} {rs : List (Int × List (Int × Int))} (h : Rls n rs) (hn : 1 ≤ n) (hn8 : n ≤ 8) (hl : rs.length ≤ 24) : Gv (F_check_rules.fn [setD n rs]) fun o => o = ((false, .none), .none) := by
  refine run_gv [some (false, setD n rs)] 0 rfl rfl rfl ?_
  unfold b_check_rules
  repeat contradiction
  refine (is_rule_set_ok h hn hn8 hl).mono fun o ho => ?_
  have ho : o = ((false, .bool true), .none) := ho
  subst ho
  repeat contradiction
  refine ⟨fun z => (by cases z), fun _ => ?_⟩
  repeat contradiction

end K
set_option Elab.async false
set_option linter.all false
set_option maxRecDepth 100000
set_option maxHeartbeats 4000000
namespace K
open PySem PySem.Spec PyProof.Rows L2 Ev
local macro_rules | `(tactic| contradiction) => `(tactic| (((first
  | refine Stp1.h ?_
  | ((with_reducible refine gi_mk ?_); refine gv_some.mpr ?_)
  | ((with_reducible refine b_name ?_ ?_); · (simp only [List.length_cons, List.length_nil, List.length_set]; decide))
  | ((with_reducible refine gs_val ?_ ?_); · (simp only [List.length_cons, List.length_nil, List.length_set]; decide))
  | with_reducible refine And.intro rfl ?_)) <;> try dsimp only [List.set_cons_zero, List.set_cons_succ, List.length_cons, List.length_nil, Int.reduceToNat]))
theorem is_times_ok {n : Nat} {ts : List Int} (h : ts.length = n) (hn : 1 ≤ n) (hn8 : n ≤ 8) : Gv (F_is_times.fn [.int n, .tuple (IntsD ts)]) Yes := by
  refine run_gv [some (false, .int n), some (false, .tuple (IntsD ts)), none] 0 rfl rfl rfl ?_
  unfold b_is_times
  repeat contradiction
  refine (check_size_ok (by omega) (by omega)).mono fun o ho => ?_
  subst ho
  repeat contradiction
  refine (is_tuple_ok (by rw [List.length_map, h])).mono fun o ho => ?_
  have ho : o = ((false, .bool true), .none) := ho
  subst ho
  repeat contradiction
  refine gv_comp (I := fun i acc ρ => ρ = [some (false, .int n), some (false, .tuple (IntsD ts)), none] ∧ acc = List.replicate i (.bool true)) ?_
  repeat contradiction
  refine ⟨⟨rfl, rfl⟩, fun i d acc ρ1 hd hI => ?_, fun acc ρ1 hI => ?_⟩
  · obtain ⟨rfl, rfl⟩ := hI
    obtain ⟨x, hx, rfl⟩ := ints_at hd
    repeat contradiction
    refine (is_integer_ok x).mono fun o ho => ?_
    have ho : o = ((false, .bool true), .none) := ho
    subst ho
    repeat contradiction
    exact rep_next
  · obtain ⟨rfl, rfl⟩ := hI
    repeat contradiction
    refine p_all (asBools_true _) ?_
    rw [all_true]
    repeat contradiction
    exact rfl
/-- the indices of the rules that don't hold -/
def brokenI (rs : List (Int × List (Int × Int))) (ts : List Int) (i : Nat) : List Int := ((List.range i).filter fun j => !(holdsB (rs.getD j (0, [])) ts)).map fun (j : Nat) => (j : Int)
theorem brokenI_next {rs : List (Int × List (Int × Int))} {ts : List Int} {i : Nat} {r : Int × List (Int × Int)} (h : rs[i]? = some r) : brokenI rs ts (i + 1) = if holdsB r ts = true then brokenI rs ts i else brokenI rs ts i ++ [(i : Int)] := by
  unfold brokenI
  have e : rs.getD i (0, []) = r := by rw [List.getD_eq_getElem?_getD, h]; rfl
  rw [List.range_succ, List.filter_append, List.map_append]
  by_cases c : holdsB r ts = true
  · rw [if_pos c]; simp [List.filter_cons, e, c, h]
  · rw [if_neg c]; simp [List.filter_cons, e, c, h]
def fulB (rs : List (Int × List (Int × Int))) (ts : List Int) : Bool := rs.all fun r => holdsB r ts
theorem fulfils_ok {n : Nat} {rs : List (Int × List (Int × Int))} {ts : List Int} (h : Rls n rs) (ht : ts.length = n) : Gv (F_fulfils.fn [setD n rs, .tuple (IntsD ts)]) fun o => o = ((false, .bool (fulB rs ts)), .none) := by
  refine run_gv [some (false, setD n rs), some (false, .tuple (IntsD ts)), none] 0 rfl rfl rfl ?_
  unfold b_fulfils setD
  repeat contradiction
  refine gx_for (I := fun i ρ => ∃ x2, ρ = [some (false, .tuple [.int n, .tuple (rs.map ruleD)]), some (false, .tuple (IntsD ts)), x2] ∧ ∀ r ∈ rs.take i, holdsB r ts = true) ?_
  repeat contradiction
  refine ⟨⟨none, rfl, fun r hr => by simp at hr⟩, fun i d ρ1 hd hI => ?_, fun ρ1 hI => ?_⟩
  · obtain ⟨x2, rfl, hall⟩ := hI
    rw [List.getElem?_map, Option.map_eq_some_iff] at hd
    obtain ⟨r, hr, rfl⟩ := hd
    repeat contradiction
    refine (holds_ok (h r (List.mem_of_getElem? hr)) ht).mono fun o ho => ?_
    subst ho
    repeat contradiction
    refine ⟨fun z => ?_, fun z => ?_⟩
    · have hb : holdsB r ts = false := by simpa using z
      have e : fulB rs ts = false := by
        unfold fulB
        rw [List.all_eq_false]
        exact ⟨r, List.mem_of_getElem? hr, by rw [hb]; simp⟩
      rw [e]
      repeat contradiction
    · have hb : holdsB r ts = true := by simpa using z
      repeat contradiction
      refine ⟨_, rfl, fun r2 h2 => ?_⟩
      rw [← take_next hr] at h2
      rcases List.mem_append.mp h2 with y | y
      · exact hall r2 y
      · rw [List.mem_singleton] at y
        rw [y]; exact hb
  · obtain ⟨x2, rfl, hall⟩ := hI
    rw [List.length_map, List.take_length] at hall
    have e : fulB rs ts = true := by
      unfold fulB
      rw [List.all_eq_true]
      exact hall
    rw [e]
    repeat contradiction
theorem is_solution_ok {n : Nat} {rs : List (Int × List (Int × Int))} {ts : List Int} (h : Rls n rs) (hn : 1 ≤ n) (hn8 : n ≤ 8) (hl : rs.length ≤ 24) (ht : ts.length = n) :
    Gv (F_is_solution.fn [setD n rs, .tuple (IntsD ts)]) fun o => o = ((false, .bool (fulB rs ts)), .none) := by
  refine run_gv [some (false, setD n rs), some (false, .tuple (IntsD ts))] 0 rfl rfl rfl ?_
  unfold b_is_solution
  repeat contradiction
  refine (check_rules_ok h hn hn8 hl).mono fun o ho => ?_
  subst ho
  have hf := fulfils_ok h ht
  unfold setD at hf ⊢
  repeat contradiction
  refine (is_times_ok ht hn hn8).mono fun o ho => ?_
  have ho : o = ((false, .bool true), .none) := ho
  subst ho
  repeat contradiction
  refine hf.mono fun o ho => ?_
  subst ho
  repeat contradiction

end K
set_option Elab.async false
set_option linter.all false
set_option maxRecDepth 100000
set_option maxHeartbeats 4000000
namespace K
open PySem PySem.Spec PyProof.Rows L2 Ev
local macro_rules | `(tactic| contradiction) => `(tactic| (((first
  | refine Stp1.h ?_
  | ((with_reducible refine gi_mk ?_); refine gv_some.mpr ?_)
  | ((with_reducible refine b_name ?_ ?_); · (simp only [List.length_cons, List.length_nil, List.length_set]; decide))
  | ((with_reducible refine gs_val ?_ ?_); · (simp only [List.length_cons, List.length_nil, List.length_set]; decide))
  | with_reducible refine And.intro rfl ?_)) <;> try dsimp only [List.set_cons_zero, List.set_cons_succ, List.length_cons, List.length_nil, Int.reduceToNat]))
abbrev Far (x : Int) : Prop := -(10 : Int) ^ 39 ≤ x ∧ x ≤ (10 : Int) ^ 39
theorem pick6 {v : Int} (h : 0 ≤ v) (h2 : v < 6) : ∃ b : Int, atI [PyData.int 0, .int 0, .int 0, .int (-1000), .int (10 ^ 30), .int (1 - 10 ^ 39)] v = some (.int b) ∧ -(10 : Int) ^ 39 ≤ b ∧ b ≤ (10 : Int) ^ 30 := by
  have : v = 0 ∨ v = 1 ∨ v = 2 ∨ v = 3 ∨ v = 4 ∨ v = 5 := by omega
  rcases this with rfl | rfl | rfl | rfl | rfl | rfl
  · exact ⟨0, rfl, by decide +kernel, by decide +kernel⟩
  · exact ⟨0, rfl, by decide +kernel, by decide +kernel⟩
  · exact ⟨0, rfl, by decide +kernel, by decide +kernel⟩
  · exact ⟨-1000, rfl, by decide +kernel, by decide +kernel⟩
  · exact ⟨10 ^ 30, rfl, by decide +kernel, by decide +kernel⟩
  · exact ⟨1 - 10 ^ 39, rfl, by decide +kernel, by decide +kernel⟩
theorem times_ok {s : List D} {k n : Nat} (hs : Src (k + 2 + n) s) (hn8 : n ≤ 8) :
    Gv (F_law_times.fn [.list s, .int n]) fun o => ∃ (ts : List Int) (s' : List D), o = ((false, .tuple (IntsD ts)), .list s') ∧ ts.length = n ∧ (∀ x ∈ ts, Far x) ∧ Src k s' := by
  refine run_gv [some (true, .list s), some (false, .int n), none, none, none] 1 rfl rfl rfl ?_
  unfold b_law_times
  repeat contradiction
  refine g_pow (by decide +kernel) ?_
  repeat contradiction
  refine g_pow (by decide +kernel) ?_
  repeat contradiction
  refine ⟨Nat.le_of_ble_eq_true rfl, ?_⟩
  repeat contradiction
  refine (draw_ok (hs.mono (show (k + 1 + n) + 1 ≤ k + 2 + n by omega)) (by decide) (by decide)).mono fun o ho => ?_
  obtain ⟨v, s1, rfl, h1, h2, hs1⟩ := ho
  repeat contradiction
  refine ⟨src_froz hs1, ?_⟩
  repeat contradiction
  obtain ⟨b, hb, hb1, hb2⟩ := pick6 h1 h2
  refine gi_of hb ?_
  repeat contradiction
  refine ⟨Nat.le_of_ble_eq_true rfl, ?_⟩
  repeat contradiction
  refine (draw_ok (hs1.mono (show (k + n) + 1 ≤ k + 1 + n by omega)) (by decide) (by decide)).mono fun o ho => ?_
  obtain ⟨u, s2, rfl, h3, h4, hs2⟩ := ho
  repeat contradiction
  refine ⟨src_froz hs2, ?_⟩
  repeat contradiction
  obtain ⟨w, hw, hw2⟩ := pick4 (a := 1) (b := 4) (c := 9) (d := 60) h3 h4
  refine gi_of hw ?_
  repeat contradiction
  refine gv_comp (I := fun i acc ρ => ∃ (s3 : List D) (ts : List Int), ρ = [some (true, .list s3), some (false, .int n), some (false, .int b), some (false, .int w), none] ∧ acc = IntsD ts ∧ ts.length = i ∧ (∀ x ∈ ts, Far x) ∧ i ≤ n ∧ Src (k + n - i) s3) ?_
  repeat contradiction
  refine ⟨⟨by omega, by omega⟩, ?_⟩
  refine ⟨rfl, ⟨s2, [], rfl, rfl, rfl, fun x hx => absurd hx List.not_mem_nil, Nat.zero_le _, hs2⟩, fun i d acc ρ1 hd hI => ?_, fun acc ρ1 hI => ?_⟩
  · obtain ⟨s3, ts, rfl, rfl, ht1, ht2, hi, hs3⟩ := hI
    obtain ⟨hi2, rfl⟩ := upTo_at hd
    have hin : i < n := by omega
    repeat contradiction
    refine (draw_ok (hs3.mono (show (k + n - (i + 1)) + 1 ≤ k + n - i by omega)) (by omega) (by omega)).mono fun o ho => ?_
    obtain ⟨c, s4, rfl, h5, h6, hs4⟩ := ho
    repeat contradiction
    refine ⟨src_froz hs4, ?_⟩
    repeat contradiction
    refine ⟨s4, ts ++ [b + c], rfl, by unfold IntsD; rw [List.map_append]; rfl, by rw [List.length_append, List.length_singleton, ht1], fun x hx => ?_, by omega, hs4⟩
    rcases List.mem_append.mp hx with z | z
    · exact ht2 x z
    · rw [List.mem_singleton] at z
      have e : (10 : Int) ^ 30 + 60 ≤ (10 : Int) ^ 39 := by decide +kernel
      generalize (10 : Int) ^ 30 = p at e hb2
      unfold Far
      generalize (10 : Int) ^ 39 = q at e hb1 ⊢
      omega
  · obtain ⟨s3, ts, rfl, rfl, ht1, ht2, hi, hs3⟩ := hI
    rw [upTo_len] at ht1 hs3
    repeat contradiction
    try refine f_yes (s := .list s3) (r := [some (false, .int n), some (false, .int b), some (false, .int w), none]) ?_
    exact ⟨ts, s3, rfl, by omega, ht2, hs3.mono (by omega)⟩

end K
set_option Elab.async false
set_option linter.all false
set_option maxRecDepth 100000
set_option maxHeartbeats 4000000
namespace K
open PySem PySem.Spec PyProof.Rows L2 Ev
local macro_rules | `(tactic| contradiction) => `(tactic| (((first
  | refine Stp1.h ?_
  | ((with_reducible refine gi_mk ?_); refine gv_some.mpr ?_)
  | ((with_reducible refine b_name ?_ ?_); · (simp only [List.length_cons, List.length_nil, List.length_set]; decide))
  | ((with_reducible refine gs_val ?_ ?_); · (simp only [List.length_cons, List.length_nil, List.length_set]; decide))
  | with_reducible refine And.intro rfl ?_)) <;> try dsimp only [List.set_cons_zero, List.set_cons_succ, List.length_cons, List.length_nil, Int.reduceToNat]))
/-! ### what may be shown -/
def nodB : Bool → D → Bool
  | true, d => noList d
  | false, d => !d.hasDict
/-- no list in it (b), or no dict -/
structure Shw (b : Bool) (k n : Nat) (d : D) : Prop where
  ok : d.showable = true
  dp : d.depth ≤ k
  ln : d.shown.length ≤ n
  nd : nodB b d = true
section
variable {b : Bool}
theorem Shw.wider {k n k' n' : Nat} {d : D} (h : Shw b k n d) (a : k ≤ k') (c : n ≤ n') : Shw b k' n' d := ⟨h.ok, Nat.le_trans h.dp a, Nat.le_trans h.ln c, h.nd⟩
theorem shw_int {i : Int} (h : i.natAbs < 10 ^ 48) : Shw b 0 50 (.int i) := by
  refine ⟨?_, Nat.zero_le _, ?_, by cases b <;> rfl⟩
  · show decide (i.natAbs.log2 < 1920) = true
    rw [decide_eq_true_eq]
    by_cases h0 : i.natAbs = 0
    · rw [h0]; decide +kernel
    · refine (Nat.log2_lt h0).mpr (Nat.lt_of_lt_of_le h (Nat.le_of_ble_eq_true rfl))
  · show (Str.ofString (toString i)).length ≤ 50
    rw [PySem.ofString_length]
    exact Nat.le_trans (int_text_length_le10 (k := 48) (by decide) h) (by decide)
theorem shw_non : Shw b 0 50 .none := ⟨rfl, Nat.zero_le _, by show 4 ≤ 50; omega, by cases b <;> rfl⟩
theorem shw_bool (c : Bool) : Shw b 0 50 (.bool c) := ⟨rfl, Nat.zero_le _, by cases c <;> decide +kernel, by cases b <;> rfl⟩
theorem shw_all {k n : Nat} : ∀ xs : List D, (∀ x ∈ xs, Shw b k n x) → PyData.showableAll xs = true ∧ PyData.depthAll xs ≤ k ∧ ((PyData.shownAll xs).map (·.length)).sum ≤ n * xs.length ∧ (PyData.shownAll xs).length = xs.length ∧ nodB b (.tuple xs) = true
  | [], _ => ⟨rfl, Nat.zero_le _, Nat.zero_le _, rfl, by cases b <;> rfl⟩
  | x :: r, h => by
    have h1 := h x List.mem_cons_self
    obtain ⟨a, b2, c, d, e⟩ := shw_all r fun y hy => h y (List.mem_cons_of_mem _ hy)
    refine ⟨?_, ?_, ?_, ?_, ?_⟩
    · simp only [PyData.showableAll, h1.ok, a, Bool.and_self]
    · simp only [PyData.depthAll]
      have := h1.dp
      omega
    · simp only [PyData.shownAll, List.map_cons, List.sum_cons, List.length_cons]
      have := h1.ln
      rw [Nat.mul_add, Nat.mul_one]
      omega
    · simp only [PyData.shownAll, List.length_cons, d]
    · have q := h1.nd
      cases b with
      | true =>
        have e : noList.noLists r = true := e
        have q : noList x = true := q
        show (noList x && noList.noLists r) = true
        rw [q, e]; rfl
      | false =>
        have e : (!PyData.hasDictAll r) = true := e
        have q : (!PyData.hasDict x) = true := q
        show (!(PyData.hasDict x || PyData.hasDictAll r)) = true
        rw [Bool.not_or, q, e]; rfl
theorem shw_tup {k n m : Nat} {xs : List D} (h : ∀ x ∈ xs, Shw b k n x) (hm : xs.length ≤ m) : Shw b (k + 1) ((n + 2) * m + 3) (.tuple xs) := by
  obtain ⟨a, b, c, d, e⟩ := shw_all xs h
  refine ⟨a, ?_, ?_, e⟩
  · show PyData.depthAll xs + 1 ≤ k + 1
    omega
  · have h1 : (PyData.shown (.tuple xs)).length ≤ _ := tupleText_len_le (PyData.shownAll xs)
    have h2 : (n + 2) * xs.length ≤ (n + 2) * m := Nat.mul_le_mul_left _ hm
    have h3 : (n + 2) * xs.length = n * xs.length + 2 * xs.length := Nat.add_mul ..
    omega
theorem shw_lst {k n m : Nat} {xs : List D} (h : ∀ x ∈ xs, Shw false k n x) (hm : xs.length ≤ m) : Shw false (k + 1) ((n + 2) * m + 3) (.list xs) := by
  obtain ⟨a, b, c, d, e⟩ := shw_all xs h
  refine ⟨a, ?_, ?_, e⟩
  · show PyData.depthAll xs + 1 ≤ k + 1
    omega
  · have h1 : (PyData.shown (.list xs)).length ≤ _ := listText_len_le (PyData.shownAll xs)
    have h2 : (n + 2) * xs.length ≤ (n + 2) * m := Nat.mul_le_mul_left _ hm
    have h3 : (n + 2) * xs.length = n * xs.length + 2 * xs.length := Nat.add_mul ..
    omega
theorem Shw.okay {k n : Nat} {d : D} (h : Shw b k n d) (hk : k < 64) (hn : n ≤ 2 ^ 24) : showOk d = true := by
  unfold showOk fits
  have h1 : d.depth < 64 := Nat.lt_of_le_of_lt h.dp hk
  have h2 : d.shown.length ≤ sizeLine := Nat.le_trans h.ln hn
  have h3 : (!d.hasDict || noList d) = true := by
    have q := h.nd
    cases b with
    | true =>
      have q : noList d = true := q
      rw [q, Bool.or_true]
    | false =>
      have q : (!PyData.hasDict d) = true := q
      rw [q, Bool.true_or]
  simp only [h.ok, h1, h2, h3, decide_true, Bool.and_self]
theorem mem2 {P : D → Prop} {a b : D} (ha : P a) (hb : P b) : ∀ x ∈ [a, b], P x := fun x hx => by
  rcases List.mem_cons.mp hx with z | z
  · rw [z]; exact ha
  · rw [List.mem_singleton] at z
    rw [z]; exact hb
theorem small {i b : Int} (h : -b ≤ i ∧ i ≤ b) (hb : b ≤ 10 ^ 47) : i.natAbs < 10 ^ 48 := by
  have e : (10 : Int) ^ 47 < ((10 ^ 48 : Nat) : Int) := by decide +kernel
  generalize (10 : Int) ^ 47 = p at *
  generalize (10 : Nat) ^ 48 = q at *
  omega
theorem shw_rule {n : Nat} {r : Int × List (Int × Int)} (h : Rl n 59 r) (hn8 : n ≤ 8) : Shw b 3 1759 (ruleD r) := by
  have hl := h.tm.len (by omega)
  have hb0 : (100 : Int) ≤ 10 ^ 47 := by decide +kernel
  have ht : Shw b 2 875 (.tuple (r.2.map Ev.pairD)) := by
    refine shw_tup (k := 1) (n := 107) (m := 8) (fun x hx => ?_) (by rw [List.length_map]; omega)
    obtain ⟨p, hp, rfl⟩ := List.mem_map.mp hx
    have hr := h.tm.rg p hp
    exact shw_tup (k := 0) (n := 50) (m := 2) (mem2 (shw_int (small (b := 100) (by omega) hb0)) (shw_int (small (b := 100) (by omega) hb0))) (Nat.le_refl _)
  have h1 := h.lo
  have h2 := h.hi
  exact (shw_tup (k := 2) (n := 875) (m := 2) (mem2 ((shw_int (small (b := 100) (by omega) hb0)).wider (by decide) (by decide)) ht) (Nat.le_refl _)).wider (by decide) (by decide)
theorem shw_set {n : Nat} {rs : List (Int × List (Int × Int))} (h : Rls n rs) (hn8 : n ≤ 8) (hl : rs.length ≤ 24) : Shw b 5 90000 (setD n rs) := by
  have hb0 : (100 : Int) ≤ 10 ^ 47 := by decide +kernel
  have ht : Shw b 4 42267 (.tuple (rs.map ruleD)) := by
    refine shw_tup (k := 3) (n := 1759) (m := 24) (fun x hx => ?_) (by rw [List.length_map]; omega)
    obtain ⟨r, hr, rfl⟩ := List.mem_map.mp hx
    exact shw_rule (h r hr) hn8
  exact (shw_tup (k := 4) (n := 42267) (m := 2) (mem2 ((shw_int (small (b := 100) (by omega) hb0)).wider (by decide) (by decide)) ht) (Nat.le_refl _)).wider (by decide) (by decide)
theorem far_small {x : Int} (h : Far x) : x.natAbs < 10 ^ 48 := small h (by decide +kernel)
theorem shw_times {ts : List Int} {n : Nat} (hf : ∀ x ∈ ts, x.natAbs < 10 ^ 48) (ht : ts.length = n) (hn8 : n ≤ 8) : Shw b 1 500 (.tuple (IntsD ts)) := by
  refine (shw_tup (k := 0) (n := 50) (m := 8) (fun x hx => ?_) (by rw [List.length_map]; omega)).wider (by decide) (by decide)
  obtain ⟨z, hz, rfl⟩ := List.mem_map.mp hx
  exact shw_int (hf z hz)
theorem maxI_mem : ∀ (r : List Int) (x : Int), maxI x r ∈ x :: r
  | [], x => List.mem_cons_self
  | y :: r, x => by
    unfold maxI
    have := maxI_mem r (if x < y then y else x)
    split at this
    · rename_i h
      rw [if_pos h]
      exact List.mem_cons_of_mem _ this
    · rename_i h
      rw [if_neg h]
      rcases List.mem_cons.mp this with z | z
      · rw [z]; exact List.mem_cons_self
      · exact List.mem_cons_of_mem _ (List.mem_cons_of_mem _ z)
theorem shw_side {n : Nat} {r : Int × List (Int × Int)} {ts : List Int} (h : Rl n 59 r) (hf : ∀ x ∈ ts, Far x) (ht : ts.length = n) : Shw b 0 50 (sideD (sumsOf r.2 ts)) := by
  cases e : sumsOf r.2 ts with
  | nil => exact shw_non
  | cons x l =>
    have hm := maxI_mem l x
    rw [← e] at hm
    unfold sumsOf at hm
    obtain ⟨p, hp, q⟩ := List.mem_map.mp hm
    have hr := h.tm.rg p hp
    have hlt : p.1.toNat < ts.length := by omega
    have hfar : Far (ts.getD p.1.toNat 0) := hf _ (getD_mem hlt)
    show Shw b 0 50 (.int (maxI x l))
    rw [← q]
    refine shw_int (small (b := 10 ^ 40) ?_ (by decide +kernel))
    have e2 : (10 : Int) ^ 39 + 100 ≤ 10 ^ 40 := by decide +kernel
    unfold Far at hfar
    generalize (10 : Int) ^ 39 = a at *
    generalize (10 : Int) ^ 40 = b at *
    omega
end

end K
set_option Elab.async false
set_option linter.all false
set_option maxRecDepth 100000
set_option maxHeartbeats 4000000
namespace K
open PySem PySem.Spec PyProof.Rows L2 Ev
local macro_rules | `(tactic| contradiction) => `(tactic| (((first
  | with_reducible (first
    | refine gx_cons.mpr ?_ | refine gx_nil.mpr ?_ | refine gx_asg.mpr ?_ | refine gx_asgT.mpr ?_ | refine gx_par.mpr ?_ | refine gx_parT.mpr ?_ | refine gx_expr.mpr ?_ | refine gx_ret.mpr ?_ | refine gx_retN.mpr ?_ | refine gx_pass.mpr ?_ | refine gx_ifs.mpr ?_ | refine gx_set ?_ | refine g_setL ?_ | refine g_own ?_ | refine gv_callm ?_ | refine gv_meth ?_
    | refine gv_op ?_ | refine gv_neg ?_ | refine gv_not ?_ | refine gv_and ?_ | refine gv_or ?_ | refine gv_cmp ?_ | refine gv_chain ?_ | refine gv_isC ?_ | refine gv_iteE ?_ | refine gv_tup ?_ | refine gv_lst ?_ | refine gv_ix ?_ | refine gv_sl ?_ | refine gv_prim ?_ | refine gv_isi ?_ | refine gv_maxd ?_ | refine gv_call ?_
    | refine gv_var ?_ | refine gv_int ?_ | refine gv_bl ?_ | refine gv_non ?_ | refine gv_cst ?_ | refine gv_dnew ?_
    | refine gv_nil ?_ | refine gv_cons ?_ | refine gt_val ?_ | refine gt_not ?_ | refine gt_and ?_ | refine gt_or ?_ | refine gc_nil ?_ | refine gc_one ?_
    | refine gl_0 ?_ | refine gl_S ?_ | refine gr_val ?_ | refine gr_loc ?_ | refine ge_val ?_ | refine ge_loc ?_ | refine grs_nil ?_ | refine grs_cons ?_ | refine ges_nil ?_ | refine ges_cons ?_ | refine gp_nil ?_ | refine gp_one ?_ | refine g_slL ?_ | refine g_slT ?_
    | refine g_add ?_ | refine g_sub ?_ | refine g_lt ?_ | refine g_le ?_ | refine g_gt ?_ | refine g_ge ?_ | refine t_bl ?_ | refine t_int ?_ | refine t_non ?_ | refine t_lst ?_ | refine t_tup ?_ | refine x_lst ?_ | refine x_tup ?_
    | refine p_lenL ?_ | refine p_lenT ?_ | refine p_abs ?_ | refine p_int ?_ | refine p_intB ?_ | refine p_tupL ?_ | refine p_tupT ?_ | refine p_max2 ?_ | refine p_min2 ?_ | refine g_intOf ?_ | refine g_seqL ?_ | refine g_seqT ?_ | refine gi_seq ?_ | refine gi_rng ?_ | refine gi_enum ?_ | refine gv_lrng ?_ | refine b_pair ?_ | refine pick_t ?_ | refine pick_f ?_ | refine f_val ?_ | refine f_no ?_ | refine f_yes ?_
    | refine gv_some.mpr ?_)
  | ((with_reducible refine gi_mk ?_); refine gv_some.mpr ?_)
  | ((with_reducible refine b_name ?_ ?_); · (simp only [List.length_cons, List.length_nil, List.length_set]; decide))
  | ((with_reducible refine gs_val ?_ ?_); · (simp only [List.length_cons, List.length_nil, List.length_set]; decide))
  | with_reducible refine And.intro rfl ?_)) <;> try dsimp only [List.set_cons_zero, List.set_cons_succ, List.length_cons, List.length_nil, Int.reduceToNat, Ev.backR, Ev.wipeR, List.getD_cons_zero, List.getD_cons_succ]))
/-! ### what any value is taken for -/
def wholeB : D → Bool
  | .int _ => true
  | _ => false
theorem is_integer_gen (d : D) : Gv (F_is_integer.fn [d]) fun o => o = ((false, .bool (wholeB d)), .none) := by
  cases d <;> exact ⟨_, rfl, rfl⟩
theorem law_whole_gen (d : D) : Gv (F_law_whole.fn [d]) fun o => o = ((false, .bool (wholeB d)), .none) := by
  cases d <;> exact ⟨_, rfl, rfl⟩
theorem asBools_map {α : Type} (f : α → Bool) : ∀ l : List α, asBools (l.map fun x => PyData.bool (f x)) = some (l.map f)
  | [] => rfl
  | x :: r => by simp only [List.map_cons, asBools, asBools_map f r, Option.map_some]
theorem all_map {α : Type} (f : α → Bool) (l : List α) : (l.map f).all id = l.all f := by
  rw [List.all_map]; rfl
/-- times of n variables -/
def timesB (n : Nat) : D → Bool
  | .tuple xs => decide (xs.length = n) && xs.all wholeB
  | _ => false
theorem timesB_tup (n : Nat) (xs : List D) : timesB n (.tuple xs) = (decide (xs.length = n) && xs.all wholeB) := rfl
theorem timesB_ints {n : Nat} {d : D} (h : timesB n d = true) : ∃ ts : List Int, d = .tuple (IntsD ts) ∧ ts.length = n := by
  cases d with
  | tuple xs =>
    have h : (decide (xs.length = n) && xs.all wholeB) = true := h
    rw [Bool.and_eq_true, decide_eq_true_eq, List.all_eq_true] at h
    obtain ⟨h1, h2⟩ := h
    have : ∀ l : List D, (∀ x ∈ l, wholeB x = true) → ∃ ts : List Int, l = IntsD ts := by
      intro l
      induction l with
      | nil => exact fun _ => ⟨[], rfl⟩
      | cons x r ih =>
        intro hl
        obtain ⟨ts, e⟩ := ih fun y hy => hl y (List.mem_cons_of_mem _ hy)
        have hx := hl x List.mem_cons_self
        cases x with
        | int i => exact ⟨i :: ts, by rw [e]; rfl⟩
        | _ => cases hx
    obtain ⟨ts, e⟩ := this xs h2
    subst e
    exact ⟨ts, rfl, by rw [List.length_map] at h1; exact h1⟩
  | _ => cases h
theorem is_tuple_gen (d : D) (n : Nat) : Gv (F_is_tuple_of.fn [d, .int n]) fun o => o = ((false, .bool (match d with | .tuple xs => decide (xs.length = n) | _ => false)), .none) := by
  refine run_gv [some (false, d), some (false, .int n)] 0 rfl rfl rfl ?_
  unfold b_is_tuple_of
  repeat contradiction
  cases d with
  | tuple xs =>
    refine ⟨fun _ => ?_, fun z => (by cases z)⟩
    repeat contradiction
    refine g_eq rfl rfl ?_
    repeat contradiction
    show _ = _
    have : PyData.eqv (.int xs.length) (.int n) = decide (xs.length = n) := by
      show ((xs.length : Int) == (n : Int)) = _
      rw [Bool.eq_iff_iff, beq_iff_eq, decide_eq_true_eq]
      omega
    rw [this]
  | _ =>
    refine ⟨fun z => (by cases z), fun _ => ?_⟩
    repeat contradiction
    exact rfl
theorem is_times_gen {n : Nat} (d : D) (hn : 1 ≤ n) (hn8 : n ≤ 8) : Gv (F_is_times.fn [.int n, d]) fun o => o = ((false, .bool (timesB n d)), .none) := by
  refine run_gv [some (false, .int n), some (false, d), none] 0 rfl rfl rfl ?_
  unfold b_is_times
  repeat contradiction
  refine (check_size_ok (by omega) (by omega)).mono fun o ho => ?_
  subst ho
  repeat contradiction
  refine (is_tuple_gen d n).mono fun o ho => ?_
  subst ho
  repeat contradiction
  cases d with
  | tuple xs =>
    refine ⟨fun z => ?_, fun z => ?_⟩
    · repeat contradiction
      refine gv_comp (I := fun i acc ρ => ρ = [some (false, .int n), some (false, .tuple xs), none] ∧ acc = (xs.take i).map fun x => .bool (wholeB x)) ?_
      repeat contradiction
      refine ⟨⟨rfl, rfl⟩, fun i x acc ρ1 hd hI => ?_, fun acc ρ1 hI => ?_⟩
      · obtain ⟨rfl, rfl⟩ := hI
        repeat contradiction
        refine (is_integer_gen x).mono fun o ho => ?_
        subst ho
        repeat contradiction
        rw [← take_next hd, List.map_append]
        rfl
      · obtain ⟨rfl, rfl⟩ := hI
        rw [List.take_length]
        repeat contradiction
        refine p_all (asBools_map wholeB xs) ?_
        rw [all_map]
        repeat contradiction
        have z : decide (xs.length = n) = true := z
        show _ = _
        rw [timesB_tup, z, Bool.true_and]
    · repeat contradiction
      have z : decide (xs.length = n) = false := z
      show _ = _
      rw [timesB_tup, z, Bool.false_and]
  | _ =>
    refine ⟨fun z => (by cases z), fun _ => ?_⟩
    repeat contradiction
    exact rfl
theorem law_is_times_gen {n : Nat} (d : D) : Gv (F_law_is_times.fn [.int n, d]) fun o => o = ((false, .bool (timesB n d)), .none) := by
  refine run_gv [some (false, .int n), some (false, d), none] 0 rfl rfl rfl ?_
  unfold b_law_is_times
  repeat contradiction
  cases d with
  | tuple xs =>
    refine ⟨fun _ => ?_, fun z => (by cases z)⟩
    repeat contradiction
    refine g_eq rfl rfl ?_
    have : PyData.eqv (.int xs.length) (.int n) = decide (xs.length = n) := by
      show ((xs.length : Int) == (n : Int)) = _
      rw [Bool.eq_iff_iff, beq_iff_eq, decide_eq_true_eq]
      omega
    rw [this]
    repeat contradiction
    refine ⟨fun z => ?_, fun z => ?_⟩
    · repeat contradiction
      refine gv_comp (I := fun i acc ρ => ρ = [some (false, .int n), some (false, .tuple xs), none] ∧ acc = (xs.take i).map fun x => .bool (wholeB x)) ?_
      repeat contradiction
      refine ⟨⟨rfl, rfl⟩, fun i x acc ρ1 hd hI => ?_, fun acc ρ1 hI => ?_⟩
      · obtain ⟨rfl, rfl⟩ := hI
        repeat contradiction
        refine (law_whole_gen x).mono fun o ho => ?_
        subst ho
        repeat contradiction
        rw [← take_next hd, List.map_append]
        rfl
      · obtain ⟨rfl, rfl⟩ := hI
        rw [List.take_length]
        repeat contradiction
        refine p_all (asBools_map wholeB xs) ?_
        rw [all_map]
        repeat contradiction
        have z : decide (xs.length = n) = true := z
        show _ = _
        rw [timesB_tup, z, Bool.true_and]
    · repeat contradiction
      have z : decide (xs.length = n) = false := z
      show _ = _
      rw [timesB_tup, z, Bool.false_and]
  | _ =>
    refine ⟨fun z => (by cases z), fun _ => ?_⟩
    repeat contradiction
    exact rfl
theorem solution_gen {n : Nat} {rs : List (Int × List (Int × Int))} {d : D} (h : Rls n rs) (hn : 1 ≤ n) (hn8 : n ≤ 8) (hl : rs.length ≤ 24) :
    Gv (F_is_solution.fn [setD n rs, d]) fun o => ∃ b, o = ((false, .bool b), .none) ∧ (timesB n d = false → b = false) ∧ ∀ ts, d = .tuple (IntsD ts) → ts.length = n → b = fulB rs ts := by
  by_cases ht : timesB n d = true
  · obtain ⟨ts, rfl, hts⟩ := timesB_ints ht
    refine (is_solution_ok h hn hn8 hl hts).mono fun o ho => ⟨_, ho, fun z => (by rw [ht] at z; cases z), fun us e _ => ?_⟩
    have e2 : us = ts := by
      have e3 := PyData.tuple.inj e
      exact ((List.map_inj_right (f := PyData.int) (fun a b h => PyData.int.inj h)).mp e3).symm
    rw [e2]
  · have ht : timesB n d = false := by simpa using ht
    refine run_gv [some (false, setD n rs), some (false, d)] 0 rfl rfl rfl ?_
    unfold b_is_solution
    repeat contradiction
    refine (check_rules_ok h hn hn8 hl).mono fun o ho => ?_
    subst ho
    unfold setD
    repeat contradiction
    refine (is_times_gen d hn hn8).mono fun o ho => ?_
    subst ho
    rw [ht]
    repeat contradiction
    refine ⟨false, rfl, fun _ => rfl, fun ts e hts => ?_⟩
    subst e
    have : timesB n (.tuple (IntsD ts)) = true := by
      show (decide ((IntsD ts).length = n) && (IntsD ts).all wholeB) = true
      rw [List.length_map, hts, Bool.and_eq_true, decide_eq_true_eq, List.all_eq_true]
      refine ⟨rfl, fun x hx => ?_⟩
      obtain ⟨i, _, rfl⟩ := List.mem_map.mp hx
      rfl
    rw [this] at ht
    cases ht

end K
set_option Elab.async false
set_option linter.all false
set_option maxRecDepth 100000
set_option maxHeartbeats 4000000
namespace K
open PySem PySem.Spec PyProof.Rows L2 Ev
local macro_rules | `(tactic| contradiction) => `(tactic| (((first
  | with_reducible (first
    | refine gx_cons.mpr ?_ | refine gx_nil.mpr ?_ | refine gx_asg.mpr ?_ | refine gx_asgT.mpr ?_ | refine gx_par.mpr ?_ | refine gx_parT.mpr ?_ | refine gx_expr.mpr ?_ | refine gx_ret.mpr ?_ | refine gx_retN.mpr ?_ | refine gx_pass.mpr ?_ | refine gx_ifs.mpr ?_ | refine gx_set ?_ | refine g_setL ?_ | refine g_own ?_ | refine gv_callm ?_ | refine gv_meth ?_
    | refine gv_op ?_ | refine gv_neg ?_ | refine gv_not ?_ | refine gv_and ?_ | refine gv_or ?_ | refine gv_cmp ?_ | refine gv_chain ?_ | refine gv_isC ?_ | refine gv_iteE ?_ | refine gv_tup ?_ | refine gv_lst ?_ | refine gv_ix ?_ | refine gv_sl ?_ | refine gv_prim ?_ | refine gv_isi ?_ | refine gv_maxd ?_ | refine gv_call ?_
    | refine gv_var ?_ | refine gv_int ?_ | refine gv_bl ?_ | refine gv_non ?_ | refine gv_cst ?_ | refine gv_dnew ?_
    | refine gv_nil ?_ | refine gv_cons ?_ | refine gt_val ?_ | refine gt_not ?_ | refine gt_and ?_ | refine gt_or ?_ | refine gc_nil ?_ | refine gc_one ?_
    | refine gl_0 ?_ | refine gl_S ?_ | refine gr_val ?_ | refine gr_loc ?_ | refine ge_val ?_ | refine ge_loc ?_ | refine grs_nil ?_ | refine grs_cons ?_ | refine ges_nil ?_ | refine ges_cons ?_ | refine gp_nil ?_ | refine gp_one ?_ | refine g_slL ?_ | refine g_slT ?_
    | refine g_add ?_ | refine g_sub ?_ | refine g_lt ?_ | refine g_le ?_ | refine g_gt ?_ | refine g_ge ?_ | refine t_bl ?_ | refine t_int ?_ | refine t_non ?_ | refine t_lst ?_ | refine t_tup ?_ | refine x_lst ?_ | refine x_tup ?_
    | refine p_lenL ?_ | refine p_lenT ?_ | refine p_abs ?_ | refine p_int ?_ | refine p_intB ?_ | refine p_tupL ?_ | refine p_tupT ?_ | refine p_max2 ?_ | refine p_min2 ?_ | refine g_intOf ?_ | refine g_seqL ?_ | refine g_seqT ?_ | refine gi_seq ?_ | refine gi_rng ?_ | refine gi_enum ?_ | refine gv_lrng ?_ | refine b_pair ?_ | refine pick_t ?_ | refine pick_f ?_ | refine f_val ?_ | refine f_no ?_ | refine f_yes ?_
    | refine gv_some.mpr ?_)
  | ((with_reducible refine gi_mk ?_); refine gv_some.mpr ?_)
  | ((with_reducible refine b_name ?_ ?_); · (simp only [List.length_cons, List.length_nil, List.length_set]; decide))
  | ((with_reducible refine gs_val ?_ ?_); · (simp only [List.length_cons, List.length_nil, List.length_set]; decide))
  | with_reducible refine And.intro rfl ?_)) <;> try dsimp only [List.set_cons_zero, List.set_cons_succ, List.length_cons, List.length_nil, Int.reduceToNat, Ev.backR, Ev.wipeR, List.getD_cons_zero, List.getD_cons_succ]))
/-! ### times that may be None -/
def optD : Option Int → D
  | none => .none
  | some v => .int v
abbrev OptsD (l : List (Option Int)) : List D := l.map optD
theorem opts_getD {xs : List (Option Int)} {z : Int} {Ψ : D → Prop} (h0 : 0 ≤ z) (h : z < xs.length) (q : Ψ (optD (xs.getD z.toNat none))) : Gi (atI (OptsD xs) z) Ψ := by
  have hz : z.toNat < xs.length := by omega
  refine gi_ix h0 (by rw [List.length_map]; exact h) ?_ q
  rw [List.getElem?_map, List.getElem?_eq_getElem hz, List.getD_eq_getElem?_getD, List.getElem?_eq_getElem hz]
  rfl
def sumsP (ps : List (Int × Int)) (xs : List (Option Int)) : List Int := ps.filterMap fun p => (xs.getD p.1.toNat none).map (· + p.2)
theorem side_part {n : Nat} {r : Int × List (Int × Int)} {xs : List (Option Int)} (hr : Rl n 59 r) (ht : xs.length = n) : Gv (F_law_side.fn [ruleD r, .list (OptsD xs)]) fun o => o = ((false, sideD (sumsP r.2 xs)), .none) := by
  obtain ⟨l, ps⟩ := r
  refine run_gv [some (false, ruleD (l, ps)), some (false, .list (OptsD xs)), none, none, none] 0 rfl rfl rfl ?_
  unfold b_law_side ruleD
  repeat contradiction
  refine gv_comp (I := fun i acc ρ => ρ = [some (false, .tuple [.int l, .tuple (ps.map Ev.pairD)]), some (false, .list (OptsD xs)), none, none, none] ∧ acc = IntsD (sumsP (ps.take i) xs)) ?_
  repeat contradiction
  refine ⟨⟨rfl, rfl⟩, fun i d acc ρ1 hd hI => ?_, fun acc ρ1 hI => ?_⟩
  · obtain ⟨rfl, rfl⟩ := hI
    rw [List.getElem?_map, Option.map_eq_some_iff] at hd
    obtain ⟨p, hp, rfl⟩ := hd
    have hrg := hr.tm.rg p (List.mem_of_getElem? hp)
    have nx : sumsP (ps.take (i + 1)) xs = sumsP (ps.take i) xs ++ ((xs.getD p.1.toNat none).map (· + p.2)).toList := by
      unfold sumsP
      rw [← take_next hp, List.filterMap_append]
      congr 1
    unfold Ev.pairD
    repeat contradiction
    refine opts_getD hrg.1 (by omega) ?_
    cases e : xs.getD p.1.toNat none with
    | none =>
      rw [e] at nx
      dsimp only [optD]
      repeat contradiction
      refine pick_f ⟨rfl, ?_⟩
      rw [nx]
      simp
    | some v =>
      rw [e] at nx
      dsimp only [optD]
      repeat contradiction
      refine opts_getD hrg.1 (by omega) ?_
      rw [e]
      dsimp only [optD]
      repeat contradiction
      rw [nx]
      unfold IntsD
      rw [List.map_append]
      rfl
  · obtain ⟨rfl, rfl⟩ := hI
    rw [List.length_map, List.take_length]
    repeat contradiction
    have e : maxdD (.list (IntsD (sumsP ps xs))) = some (sideD (sumsP ps xs)) := by
      cases sumsP ps xs with
      | nil => rfl
      | cons x r =>
        show (asInts (r.map .int)).map (fun ns => PyData.int (maxI x ns)) = _
        rw [asInts_map]
        rfl
    refine gv_eq e ?_
    repeat contradiction
def holdsP (r : Int × List (Int × Int)) (xs : List (Option Int)) : Bool := match xs.getD r.1.toNat none with
  | none => true
  | some v => match sumsP r.2 xs with
    | [] => false
    | x :: l => decide (v ≤ maxI x l)
theorem holds_part {n : Nat} {r : Int × List (Int × Int)} {xs : List (Option Int)} (hr : Rl n 59 r) (ht : xs.length = n) : Gv (F_law_holds.fn [ruleD r, .list (OptsD xs)]) fun o => o = ((false, .bool (holdsP r xs)), .none) := by
  refine run_gv [some (false, ruleD r), some (false, .list (OptsD xs)), none] 0 rfl rfl rfl ?_
  have h1 := hr.lo
  have h2 := hr.hi
  have hs := side_part hr ht
  obtain ⟨l, ps⟩ := r
  unfold b_law_holds ruleD
  repeat contradiction
  refine opts_getD h1 (by omega) ?_
  have e : holdsP (l, ps) xs = match xs.getD l.toNat none with
    | none => true
    | some v => match sumsP ps xs with
      | [] => false
      | x :: r => decide (v ≤ maxI x r) := rfl
  rw [e]
  clear e
  cases q : xs.getD l.toNat none with
  | none =>
    dsimp only [optD]
    repeat contradiction
    refine pick_t ?_
    repeat contradiction
  | some v =>
    dsimp only [optD]
    repeat contradiction
    refine hs.mono fun o ho => ?_
    subst ho
    repeat contradiction
    cases q2 : sumsP ps xs with
    | nil =>
      refine ⟨fun h => (by cases h), fun _ => ?_⟩
      repeat contradiction
      exact rfl
    | cons x r =>
      refine ⟨fun _ => ?_, fun h => (by cases h)⟩
      dsimp only [sideD]
      repeat contradiction
      refine opts_getD h1 (by omega) ?_
      rw [q]
      dsimp only [optD]
      repeat contradiction
theorem limits_ok {s : List D} {k n : Nat} (hs : Src (k + 2 + n) s) (hn8 : n ≤ 8) :
    Gv (F_law_limits.fn [.list s, .int n]) fun o => ∃ (ts : List Int) (s' : List D), o = ((false, .tuple (IntsD ts)), .list s') ∧ ts.length = n ∧ (∀ x ∈ ts, -200 ≤ x ∧ x ≤ 200) ∧ Src k s' := by
  refine run_gv [some (true, .list s), some (false, .int n), none, none, none] 1 rfl rfl rfl ?_
  unfold b_law_limits
  repeat contradiction
  refine ⟨Nat.le_of_ble_eq_true rfl, ?_⟩
  repeat contradiction
  refine (draw_ok (hs.mono (show (k + 1 + n) + 1 ≤ k + 2 + n by omega)) (by decide) (by decide)).mono fun o ho => ?_
  obtain ⟨v, s1, rfl, h1, h2, hs1⟩ := ho
  repeat contradiction
  refine ⟨src_froz hs1, ?_⟩
  repeat contradiction
  obtain ⟨w, hw, hw2⟩ := pick4 (a := 1) (b := 3) (c := 12) (d := 401) h1 h2
  refine gi_of hw ?_
  repeat contradiction
  refine (draw_ok (hs1.mono (show (k + n) + 1 ≤ k + 1 + n by omega)) (by omega) (by omega)).mono fun o ho => ?_
  obtain ⟨b, s2, rfl, h3, h4, hs2⟩ := ho
  repeat contradiction
  refine ⟨src_froz hs2, ?_⟩
  repeat contradiction
  refine gv_comp (I := fun i acc ρ => ∃ (s3 : List D) (ts : List Int), ρ = [some (true, .list s3), some (false, .int n), some (false, .int w), some (false, .int (b - 200)), none] ∧ acc = IntsD ts ∧ ts.length = i ∧ (∀ x ∈ ts, -200 ≤ x ∧ x ≤ 200) ∧ i ≤ n ∧ Src (k + n - i) s3) ?_
  repeat contradiction
  refine ⟨⟨by omega, by omega⟩, ?_⟩
  refine ⟨rfl, ⟨s2, [], rfl, rfl, rfl, fun x hx => absurd hx List.not_mem_nil, Nat.zero_le _, hs2⟩, fun i d acc ρ1 hd hI => ?_, fun acc ρ1 hI => ?_⟩
  · obtain ⟨s3, ts, rfl, rfl, ht1, ht2, hi, hs3⟩ := hI
    obtain ⟨hi2, rfl⟩ := upTo_at hd
    have hin : i < n := by omega
    repeat contradiction
    refine (draw_ok (hs3.mono (show (k + n - (i + 1)) + 1 ≤ k + n - i by omega)) (by omega) (by omega)).mono fun o ho => ?_
    obtain ⟨c, s4, rfl, h5, h6, hs4⟩ := ho
    repeat contradiction
    refine ⟨src_froz hs4, ?_⟩
    repeat contradiction
    refine ⟨s4, ts ++ [b - 200 + c], rfl, by unfold IntsD; rw [List.map_append]; rfl, by rw [List.length_append, List.length_singleton, ht1], fun x hx => ?_, by omega, hs4⟩
    rcases List.mem_append.mp hx with z | z
    · exact ht2 x z
    · rw [List.mem_singleton] at z
      omega
  · obtain ⟨s3, ts, rfl, rfl, ht1, ht2, hi, hs3⟩ := hI
    rw [upTo_len] at ht1 hs3
    repeat contradiction
    exact ⟨ts, s3, rfl, by omega, ht2, hs3.mono (by omega)⟩
theorem maxI_le : ∀ (r : List Int) (x b : Int), x ≤ b → (∀ y ∈ r, y ≤ b) → maxI x r ≤ b
  | [], x, b, h, _ => h
  | y :: r, x, b, h, hr => by
    unfold maxI
    refine maxI_le r _ b ?_ fun z hz => hr z (List.mem_cons_of_mem _ hz)
    split
    · exact hr y List.mem_cons_self
    · exact h
theorem maxI_ge0 : ∀ (r : List Int) (x : Int), x ≤ maxI x r
  | [], x => Int.le_refl _
  | y :: r, x => by
    unfold maxI
    have := maxI_ge0 r (if x < y then y else x)
    split at this <;> rename_i h
    · rw [if_pos h]; omega
    · rw [if_neg h]; exact this
theorem span_ok {n : Nat} {rs : List (Int × List (Int × Int))} (h : Rls n rs) (hn8 : n ≤ 8) : Gv (F_law_span.fn [setD n rs]) fun o => ∃ v : Int, o = ((false, .int v), .none) ∧ 1 ≤ v ∧ v ≤ 61 := by
  refine run_gv [some (false, setD n rs), none, none, none, none, none] 0 rfl rfl rfl ?_
  unfold b_law_span setD
  repeat contradiction
  refine gx_for (I := fun i ρ => ∃ (v : Int) (x2 x3 : Option (Bool × D)), ρ = [some (false, .tuple [.int n, .tuple (rs.map ruleD)]), some (false, .int v), x2, x3, none, none] ∧ 1 ≤ v ∧ v ≤ 61) ?_
  repeat contradiction
  refine ⟨⟨1, none, none, rfl, by decide, by decide⟩, fun i d ρ1 hd hI => ?_, fun ρ1 hI => ?_⟩
  · obtain ⟨v, x2, x3, rfl, h1, h2⟩ := hI
    rw [List.getElem?_map, Option.map_eq_some_iff] at hd
    obtain ⟨r, hr, rfl⟩ := hd
    have hR := h r (List.mem_of_getElem? hr)
    obtain ⟨l, ps⟩ := r
    have hl := hR.tm.len (by omega)
    unfold ruleD
    repeat contradiction
    refine ⟨Nat.le_of_ble_eq_true rfl, ?_⟩
    repeat contradiction
    refine gv_comp (I := fun i acc ρ => ρ = [some (false, .tuple [.int n, .tuple (rs.map ruleD)]), some (false, .int v), some (false, .int l), some (false, .tuple (ps.map Ev.pairD)), none, none] ∧ ∃ es : List Int, acc = IntsD es ∧ es.length = i ∧ ∀ x ∈ es, x ≤ 61) ?_
    repeat contradiction
    refine ⟨⟨rfl, [], rfl, rfl, fun x hx => absurd hx List.not_mem_nil⟩, fun i d acc ρ1 hd hI => ?_, fun acc ρ1 hI => ?_⟩
    · obtain ⟨rfl, es, rfl, he1, he2⟩ := hI
      rw [List.getElem?_map, Option.map_eq_some_iff] at hd
      obtain ⟨p, hp, rfl⟩ := hd
      have hrg := hR.tm.rg p (List.mem_of_getElem? hp)
      unfold Ev.pairD
      repeat contradiction
      refine ⟨es ++ [(if p.2 < 0 then -p.2 else p.2) + 1], by unfold IntsD; rw [List.map_append]; rfl, by rw [List.length_append, List.length_singleton, he1], fun x hx => ?_⟩
      rcases List.mem_append.mp hx with z | z
      · exact he2 x z
      · rw [List.mem_singleton] at z
        rw [z]
        split <;> omega
    · obtain ⟨rfl, es, rfl, he1, he2⟩ := hI
      have he1 : es.length = ps.length := by simpa using he1
      repeat contradiction
      refine g_catL (Nat.le_trans (show _ ≤ 100 by simp only [List.length_cons, List.length_nil, List.length_map]; have hl : (ps.length : Int) ≤ n := hl; omega) (Nat.le_of_ble_eq_true rfl)) ?_
      repeat contradiction
      refine p_maxL (asInts_map es) ?_
      repeat contradiction
      exact ⟨_, _, _, rfl, Int.le_trans h1 (maxI_ge0 es v), maxI_le es v 61 h2 he2⟩
  · obtain ⟨v, x2, x3, rfl, h1, h2⟩ := hI
    repeat contradiction
    exact ⟨v, rfl, h1, h2⟩

end K
set_option Elab.async false
set_option linter.all false
set_option maxRecDepth 100000
set_option maxHeartbeats 4000000
namespace K
open PySem PySem.Spec PyProof.Rows L2 Ev
local macro_rules | `(tactic| contradiction) => `(tactic| (((first
  | with_reducible (first
    | refine gx_cons.mpr ?_ | refine gx_nil.mpr ?_ | refine gx_asg.mpr ?_ | refine gx_asgT.mpr ?_ | refine gx_par.mpr ?_ | refine gx_parT.mpr ?_ | refine gx_expr.mpr ?_ | refine gx_ret.mpr ?_ | refine gx_retN.mpr ?_ | refine gx_pass.mpr ?_ | refine gx_ifs.mpr ?_ | refine gx_set ?_ | refine g_setL ?_ | refine g_own ?_ | refine gv_callm ?_ | refine gv_meth ?_
    | refine gv_op ?_ | refine gv_neg ?_ | refine gv_not ?_ | refine gv_and ?_ | refine gv_or ?_ | refine gv_cmp ?_ | refine gv_chain ?_ | refine gv_isC ?_ | refine gv_iteE ?_ | refine gv_tup ?_ | refine gv_lst ?_ | refine gv_ix ?_ | refine gv_sl ?_ | refine gv_prim ?_ | refine gv_isi ?_ | refine gv_maxd ?_ | refine gv_call ?_
    | refine gv_var ?_ | refine gv_int ?_ | refine gv_bl ?_ | refine gv_non ?_ | refine gv_cst ?_ | refine gv_dnew ?_
    | refine gv_nil ?_ | refine gv_cons ?_ | refine gt_val ?_ | refine gt_not ?_ | refine gt_and ?_ | refine gt_or ?_ | refine gc_nil ?_ | refine gc_one ?_
    | refine gl_0 ?_ | refine gl_S ?_ | refine gr_val ?_ | refine gr_loc ?_ | refine ge_val ?_ | refine ge_loc ?_ | refine grs_nil ?_ | refine grs_cons ?_ | refine ges_nil ?_ | refine ges_cons ?_ | refine gp_nil ?_ | refine gp_one ?_ | refine g_slL ?_ | refine g_slT ?_
    | refine g_add ?_ | refine g_sub ?_ | refine g_lt ?_ | refine g_le ?_ | refine g_gt ?_ | refine g_ge ?_ | refine t_bl ?_ | refine t_int ?_ | refine t_non ?_ | refine t_lst ?_ | refine t_tup ?_ | refine x_lst ?_ | refine x_tup ?_
    | refine p_lenL ?_ | refine p_lenT ?_ | refine p_abs ?_ | refine p_int ?_ | refine p_intB ?_ | refine p_tupL ?_ | refine p_tupT ?_ | refine p_max2 ?_ | refine p_min2 ?_ | refine g_intOf ?_ | refine g_seqL ?_ | refine g_seqT ?_ | refine gi_seq ?_ | refine gi_rng ?_ | refine gi_enum ?_ | refine gv_lrng ?_ | refine b_pair ?_ | refine pick_t ?_ | refine pick_f ?_ | refine f_val ?_ | refine f_no ?_ | refine f_yes ?_
    | refine gv_some.mpr ?_)
  | ((with_reducible refine gi_mk ?_); refine gv_some.mpr ?_)
  | ((with_reducible refine b_name ?_ ?_); · (simp only [List.length_cons, List.length_nil, List.length_set]; decide))
  | ((with_reducible refine gs_val ?_ ?_); · (simp only [List.length_cons, List.length_nil, List.length_set]; decide))
  | with_reducible refine And.intro rfl ?_)) <;> try dsimp only [List.set_cons_zero, List.set_cons_succ, List.length_cons, List.length_nil, Int.reduceToNat, Ev.backR, Ev.wipeR, List.getD_cons_zero, List.getD_cons_succ]))
/-! ### lowering -/
theorem p_list_tuple {xs : List D} {Φ : Bool × D → Prop} (h : Φ (true, .list xs)) : Gv (prim .list [.tuple xs]) Φ := ⟨_, rfl, h⟩
def wgt (f : Int) : Option Int → Nat
  | none => 0
  | some v => (v - f).toNat + 1
def mu (f : Int) (xs : List (Option Int)) : Nat := (xs.map (wgt f)).sum
theorem sum_set_lt : ∀ (l : List Nat) (i a : Nat) (h : i < l.length), a < l[i] → (l.set i a).sum < l.sum
  | [], _, _, h, _ => absurd h (Nat.not_lt_zero _)
  | x :: r, 0, a, h, q => by
    have q : a < x := q
    show a + r.sum < x + r.sum
    omega
  | x :: r, i + 1, a, h, q => by
    have := sum_set_lt r i a (Nat.lt_of_succ_lt_succ h) q
    show x + (r.set i a).sum < x + r.sum
    omega
theorem mu_set {f : Int} {xs : List (Option Int)} {i : Nat} {o : Option Int} (h : i < xs.length) (q : wgt f o < wgt f (xs.getD i none)) : mu f (xs.set i o) < mu f xs := by
  unfold mu
  rw [List.map_set]
  refine sum_set_lt _ i _ (by rw [List.length_map]; exact h) ?_
  rw [List.getElem_map]
  rw [List.getD_eq_getElem?_getD, List.getElem?_eq_getElem h] at q
  exact q
theorem mu_le {f : Int} {b : Nat} : ∀ xs : List (Option Int), (∀ o ∈ xs, wgt f o ≤ b) → mu f xs ≤ b * xs.length
  | [], _ => Nat.le_refl _
  | o :: r, h => by
    have h1 := h o List.mem_cons_self
    have h2 := mu_le r fun p hp => h p (List.mem_cons_of_mem _ hp)
    show wgt f o + (r.map (wgt f)).sum ≤ b * (r.length + 1)
    have h2 : (r.map (wgt f)).sum ≤ b * r.length := h2
    rw [Nat.mul_add, Nat.mul_one]
    omega
/-- none, or from f to 200 -/
def Low (f : Int) (xs : List (Option Int)) : Prop := ∀ o ∈ xs, ∀ v, o = some v → f ≤ v ∧ v ≤ 200
theorem minI_low : ∀ (r : List Int) (x b : Int), b ≤ x → (∀ y ∈ r, b ≤ y) → b ≤ minI x r
  | [], x, b, h, _ => h
  | y :: r, x, b, h, hr => by
    unfold minI
    refine minI_low r _ b ?_ fun z hz => hr z (List.mem_cons_of_mem _ hz)
    split
    · exact hr y List.mem_cons_self
    · exact h
theorem minI_le0 : ∀ (r : List Int) (x : Int), minI x r ≤ x ∧ ∀ y ∈ r, minI x r ≤ y
  | [], x => ⟨Int.le_refl _, fun y hy => absurd hy List.not_mem_nil⟩
  | y :: r, x => by
    unfold minI
    have := minI_le0 r (if y < x then y else x)
    refine ⟨?_, fun z hz => ?_⟩
    · have h := this.1
      split at h <;> rename_i c
      · rw [if_pos c]; omega
      · rw [if_neg c]; exact h
    · rcases List.mem_cons.mp hz with e | e
      · rw [e]
        have h := this.1
        split at h <;> rename_i c
        · rw [if_pos c]; exact h
        · rw [if_neg c]; omega
      · exact this.2 z e
theorem opts_set (xs : List (Option Int)) (i : Nat) (o : Option Int) : (OptsD xs).set i (optD o) = OptsD (xs.set i o) := by
  unfold OptsD
  rw [List.map_set]
theorem lower_step {f : Int} {r : Int × List (Int × Int)} {xs : List (Option Int)} {v : Int} (hL : Low f xs) (hv : xs.getD r.1.toNat none = some v) (hi : r.1.toNat < xs.length) (hh : holdsP r xs = false) :
    (sumsP r.2 xs = [] ∧ Low f (xs.set r.1.toNat none) ∧ mu f (xs.set r.1.toNat none) < mu f xs) ∨
    ∃ x l, sumsP r.2 xs = x :: l ∧ (f ≤ maxI x l → Low f (xs.set r.1.toNat (some (maxI x l))) ∧ mu f (xs.set r.1.toNat (some (maxI x l))) < mu f xs) ∧
      (¬ f ≤ maxI x l → Low f (xs.set r.1.toNat none) ∧ mu f (xs.set r.1.toNat none) < mu f xs) := by
  have hvm : some v ∈ xs := by
    rw [← hv, List.getD_eq_getElem?_getD, List.getElem?_eq_getElem hi]
    exact List.getElem_mem hi
  have hb := hL _ hvm v rfl
  have low : ∀ o : Option Int, (∀ w, o = some w → f ≤ w ∧ w ≤ 200) → Low f (xs.set r.1.toNat o) := fun o ho p hp w e => by
    rcases List.mem_or_eq_of_mem_set hp with z | z
    · exact hL p z w e
    · exact ho w (by rw [← z]; exact e)
  have non : Low f (xs.set r.1.toNat none) ∧ mu f (xs.set r.1.toNat none) < mu f xs := by
    refine ⟨low none fun w e => (by cases e), mu_set hi ?_⟩
    rw [hv]
    show 0 < (v - f).toNat + 1
    omega
  unfold holdsP at hh
  rw [hv] at hh
  cases e : sumsP r.2 xs with
  | nil => exact .inl ⟨rfl, non⟩
  | cons x l =>
    rw [e] at hh
    have hlt : maxI x l < v := by
      have := of_decide_eq_false hh
      omega
    refine .inr ⟨x, l, rfl, fun hf => ⟨low _ fun w e2 => ?_, mu_set hi ?_⟩, fun _ => non⟩
    · cases e2
      omega
    · rw [hv]
      show (maxI x l - f).toNat + 1 < (v - f).toNat + 1
      omega
theorem latest_ok {n : Nat} {rs : List (Int × List (Int × Int))} {ts : List Int} (h : Rls n rs) (hn : 1 ≤ n) (hn8 : n ≤ 8) (ht : ts.length = n) (hb : ∀ x ∈ ts, -200 ≤ x ∧ x ≤ 200) :
    Gv (F_law_latest.fn [setD n rs, .tuple (IntsD ts)]) fun o => ∃ xs : List (Option Int), o = ((false, .tuple (OptsD xs)), .none) ∧ xs.length = n ∧ Low (-1000) xs := by
  refine run_gv [some (false, setD n rs), some (false, .tuple (IntsD ts)), none, none, none, none, none, none, none] 0 rfl rfl rfl ?_
  have hs := span_ok h hn8
  unfold b_law_latest setD
  unfold setD at hs
  repeat contradiction
  obtain ⟨t0, tr, rfl⟩ : ∃ t0 tr, ts = t0 :: tr := by
    cases ts with
    | nil => simp at ht; omega
    | cons a b => exact ⟨a, b, rfl⟩
  have hm1 := minI_low tr t0 (-200) (hb t0 List.mem_cons_self).1 fun y hy => (hb y (List.mem_cons_of_mem _ hy)).1
  have hm2 := minI_le0 tr t0
  show Gv (prim .min [.tuple (.int t0 :: IntsD tr)]) _
  refine p_minT (asInts_map tr) ?_
  repeat contradiction
  refine hs.mono fun o ho => ?_
  obtain ⟨sp, rfl, hs1, hs2⟩ := ho
  repeat contradiction
  refine g_mulS (by omega) (by omega) ?_
  repeat contradiction
  have hbound : 0 ≤ ((n : Int) - 1) * sp ∧ ((n : Int) - 1) * sp ≤ 7 * 61 := by
    refine ⟨Int.mul_nonneg (by omega) (by omega), ?_⟩
    have a1 : ((n : Int) - 1) * sp ≤ 7 * sp := Int.mul_le_mul_of_nonneg_right (by omega) (by omega)
    omega
  generalize hf : minI t0 tr - ((n : Int) - 1) * sp = f
  have hf1 : -1000 ≤ f := by omega
  have hf2 : f ≤ t0 := by omega
  have hf3 : ∀ y ∈ tr, f ≤ y := fun y hy => by have := hm2.2 y hy; omega
  have hL0 : Low f ((t0 :: tr).map some) := fun o ho v e => by
    obtain ⟨y, hy, rfl⟩ := List.mem_map.mp ho
    cases e
    have := hb v hy
    rcases List.mem_cons.mp hy with z | z
    · omega
    · have := hf3 v z; omega
  have e0 : IntsD (t0 :: tr) = OptsD ((t0 :: tr).map some) := by
    unfold IntsD OptsD
    rw [List.map_map]
    rfl
  have hmu : mu f ((t0 :: tr).map some) ≤ 1300 * 8 := by
    refine Nat.le_trans (mu_le (b := 1300) _ fun o ho => ?_) (Nat.mul_le_mul_left _ (by rw [List.length_map, ht]; exact hn8))
    obtain ⟨y, hy, rfl⟩ := List.mem_map.mp ho
    have := hb y hy
    show (y - f).toNat + 1 ≤ 1300
    omega
  refine p_list_tuple ?_
  repeat contradiction
  rw [e0]
  have hlen0 : ((t0 :: tr).map some).length = n := by rw [List.length_map]; exact ht
  generalize (t0 :: tr).map some = xs0 at e0 hL0 hmu hlen0
  refine gx_while (I := fun m ρ => ∃ (xs : List (Option Int)) (b : Bool) (x6 x7 x8 : Option (Bool × D)), ρ = [some (false, .tuple [.int n, .tuple (rs.map ruleD)]), some (false, .tuple (IntsD (t0 :: tr))), some (false, .int n), some (false, .int f), some (true, .list (OptsD xs)), some (false, .bool b), x6, x7, x8] ∧ xs.length = n ∧ Low f xs ∧ m = if b then 0 else mu f xs + 1) (mu f xs0 + 1) (Nat.lt_of_le_of_lt (Nat.succ_le_succ hmu) (by decide)) ⟨xs0, false, none, none, none, (by rw [e0]), hlen0, hL0, rfl⟩ fun m ρ1 hI => ?_
  obtain ⟨xs, b, x6, x7, x8, rfl, hxl, hL, hm⟩ := hI
  repeat contradiction
  cases b with
  | true =>
    refine ⟨fun z => (by cases z), fun _ => ?_⟩
    repeat contradiction
    exact ⟨xs, rfl, hxl, fun o ho v e => ⟨Int.le_trans hf1 (hL o ho v e).1, (hL o ho v e).2⟩⟩
  | false =>
    refine ⟨fun _ => ?_, fun z => (by cases z)⟩
    have hm : m = mu f xs + 1 := hm
    repeat contradiction
    refine gx_for (I := fun i ρ => ∃ (ys : List (Option Int)) (b : Bool) (x6 x7 x8 : Option (Bool × D)), ρ = [some (false, .tuple [.int n, .tuple (rs.map ruleD)]), some (false, .tuple (IntsD (t0 :: tr))), some (false, .int n), some (false, .int f), some (true, .list (OptsD ys)), some (false, .bool b), x6, x7, x8] ∧ ys.length = n ∧ Low f ys ∧ (b = false → mu f ys < mu f xs) ∧ mu f ys ≤ mu f xs) ?_
    repeat contradiction
    refine ⟨⟨xs, true, x6, x7, x8, rfl, hxl, hL, fun z => (by cases z), Nat.le_refl _⟩, fun i d ρ1 hd hI => ?_, fun ρ1 hI => ?_⟩
    · obtain ⟨ys, b, y6, y7, y8, rfl, hyl, hLy, hy1, hy2⟩ := hI
      rw [List.getElem?_map, Option.map_eq_some_iff] at hd
      obtain ⟨r, hr, rfl⟩ := hd
      have hR := h r (List.mem_of_getElem? hr)
      have h1 := hR.lo
      have h2 := hR.hi
      have hh := holds_part hR hyl
      have hside := side_part hR hyl
      have step := fun v hv hh => lower_step (f := f) (r := r) (v := v) hLy hv (by omega) hh
      obtain ⟨l, ps⟩ := r
      unfold ruleD
      unfold ruleD at hh hside
      dsimp only at h1 h2 step
      repeat contradiction
      refine opts_getD h1 (by omega) ?_
      cases e : ys.getD l.toNat none with
      | none =>
        dsimp only [optD]
        repeat contradiction
        refine pick_f ?_
        repeat contradiction
        exact ⟨ys, b, _, _, _, rfl, hyl, hLy, hy1, hy2⟩
      | some v =>
        dsimp only [optD]
        repeat contradiction
        refine hh.mono fun o ho => ?_
        subst ho
        repeat contradiction
        refine ⟨fun z => ?_, fun z => ?_⟩
        · have hf0 : holdsP (l, ps) ys = false := by simpa using z
          repeat contradiction
          refine hside.mono fun o ho => ?_
          subst ho
          repeat contradiction
          have fin : ∀ (w : Option Int) (y8 : D), Low f (ys.set l.toNat w) → mu f (ys.set l.toNat w) < mu f ys → ∃ (zs : List (Option Int)) (b : Bool) (x6 x7 x8 : Option (Bool × D)), [some (false, PyData.tuple [.int n, .tuple (rs.map ruleD)]), some (false, .tuple (IntsD (t0 :: tr))), some (false, .int n), some (false, .int f), some (true, .list ((OptsD ys).set l.toNat (optD w))), some (false, .bool false), some (false, .tuple [.int l, .tuple (ps.map Ev.pairD)]), some (false, .int v), some (false, y8)] = [some (false, .tuple [.int n, .tuple (rs.map ruleD)]), some (false, .tuple (IntsD (t0 :: tr))), some (false, .int n), some (false, .int f), some (true, .list (OptsD zs)), some (false, .bool b), x6, x7, x8] ∧ zs.length = n ∧ Low f zs ∧ (b = false → mu f zs < mu f xs) ∧ mu f zs ≤ mu f xs := fun w y8 a1 a2 => by
            rw [opts_set]
            exact ⟨_, _, _, _, _, rfl, by rw [List.length_set]; exact hyl, a1, fun _ => by omega, by omega⟩
          have hset : ∀ (Ψ : Nat → Prop), Ψ l.toNat → Gi (ixN (OptsD ys).length l) Ψ := fun Ψ q => gi_of (ixN_int h1 (by rw [List.length_map]; omega)) q
          rcases step v e hf0 with ⟨es, a1, a2⟩ | ⟨x, t, es, a1, a2⟩
          · rw [es]
            dsimp only [sideD]
            repeat contradiction
            refine pick_f ?_
            repeat contradiction
            refine hset _ ?_
            repeat contradiction
            exact fin none .none a1 a2
          · rw [es]
            dsimp only [sideD]
            repeat contradiction
            refine ⟨fun z => ?_, fun z => ?_⟩
            · have := a1 (of_decide_eq_true z)
              repeat contradiction
              refine hset _ ?_
              repeat contradiction
              exact fin (some (maxI x t)) _ this.1 this.2
            · have := a2 (of_decide_eq_false z)
              repeat contradiction
              refine hset _ ?_
              repeat contradiction
              exact fin none _ this.1 this.2
        · repeat contradiction
          exact ⟨ys, b, _, _, _, rfl, hyl, hLy, hy1, hy2⟩
    · obtain ⟨ys, b, y6, y7, y8, rfl, hyl, hLy, hy1, hy2⟩ := hI
      repeat contradiction
      cases b with
      | true => exact ⟨0, by omega, ys, true, _, _, _, rfl, hyl, hLy, rfl⟩
      | false => exact ⟨mu f ys + 1, by have := hy1 rfl; omega, ys, false, _, _, _, rfl, hyl, hLy, rfl⟩

end K
set_option Elab.async false
set_option linter.all false
set_option maxRecDepth 100000
set_option maxHeartbeats 4000000
namespace K
open PySem PySem.Spec PyProof.Rows L2 Ev
local macro_rules | `(tactic| contradiction) => `(tactic| (((first
  | with_reducible (first
    | refine gx_cons.mpr ?_ | refine gx_nil.mpr ?_ | refine gx_asg.mpr ?_ | refine gx_asgT.mpr ?_ | refine gx_par.mpr ?_ | refine gx_parT.mpr ?_ | refine gx_expr.mpr ?_ | refine gx_ret.mpr ?_ | refine gx_retN.mpr ?_ | refine gx_pass.mpr ?_ | refine gx_ifs.mpr ?_ | refine gx_set ?_ | refine g_setL ?_ | refine g_own ?_ | refine gv_callm ?_ | refine gv_meth ?_
    | refine gv_op ?_ | refine gv_neg ?_ | refine gv_not ?_ | refine gv_and ?_ | refine gv_or ?_ | refine gv_cmp ?_ | refine gv_chain ?_ | refine gv_isC ?_ | refine gv_iteE ?_ | refine gv_tup ?_ | refine gv_lst ?_ | refine gv_ix ?_ | refine gv_sl ?_ | refine gv_prim ?_ | refine gv_isi ?_ | refine gv_maxd ?_ | refine gv_call ?_
    | refine gv_var ?_ | refine gv_int ?_ | refine gv_bl ?_ | refine gv_non ?_ | refine gv_cst ?_ | refine gv_dnew ?_ | refine gv_dic1 ?_ | refine gv_rev ?_ | refine g_tupOf ?_ | refine gv_lrep ?_ | refine g_ownR ?_ | refine p_list_tuple ?_
    | refine gv_nil ?_ | refine gv_cons ?_ | refine gt_val ?_ | refine gt_not ?_ | refine gt_and ?_ | refine gt_or ?_ | refine gc_nil ?_ | refine gc_one ?_
    | refine gl_0 ?_ | refine gl_S ?_ | refine gr_val ?_ | refine gr_loc ?_ | refine ge_val ?_ | refine ge_loc ?_ | refine grs_nil ?_ | refine grs_cons ?_ | refine ges_nil ?_ | refine ges_cons ?_ | refine gp_nil ?_ | refine gp_one ?_ | refine g_slL ?_ | refine g_slT ?_
    | refine g_add ?_ | refine g_sub ?_ | refine g_lt ?_ | refine g_le ?_ | refine g_gt ?_ | refine g_ge ?_ | refine t_bl ?_ | refine t_int ?_ | refine t_non ?_ | refine t_lst ?_ | refine t_tup ?_ | refine x_lst ?_ | refine x_tup ?_
    | refine p_lenL ?_ | refine p_lenT ?_ | refine p_abs ?_ | refine p_int ?_ | refine p_intB ?_ | refine p_tupL ?_ | refine p_tupT ?_ | refine p_max2 ?_ | refine p_min2 ?_ | refine g_intOf ?_ | refine g_seqL ?_ | refine g_seqT ?_ | refine gi_seq ?_ | refine gi_rng ?_ | refine gi_enum ?_ | refine gv_lrng ?_ | refine b_pair ?_ | refine pick_t ?_ | refine pick_f ?_ | refine f_val ?_ | refine f_no ?_ | refine f_yes ?_
    | refine gv_some.mpr ?_)
  | ((with_reducible refine gi_mk ?_); refine gv_some.mpr ?_)
  | ((with_reducible refine b_name ?_ ?_); · (simp only [List.length_cons, List.length_nil, List.length_set]; decide))
  | ((with_reducible refine gs_val ?_ ?_); · (simp only [List.length_cons, List.length_nil, List.length_set]; decide))
  | with_reducible refine And.intro rfl ?_
  | (with_reducible refine @And.intro (_ ≤ sizeLine) _ ?_ ?_; · exact Nat.le_of_ble_eq_true rfl))) <;> try dsimp only [List.set_cons_zero, List.set_cons_succ, List.length_cons, List.length_nil, Int.reduceToNat, Ev.backR, Ev.wipeR, List.getD_cons_zero, List.getD_cons_succ]))
theorem gv_strE {G : Sig} {ρ : Rho} {x : Str} {Φ : R × Rho → Prop} (h : Φ (.val false (.str x), ρ)) : Gv (ev G (.str x) ρ) Φ := by
  simp only [ev]
  exact gv_some.mpr h
/-- may stand in what is shown, beside a rule set -/
def OkV (d : D) : Prop := ∃ b, Shw b 8 20000 d
def okB (d : D) : Bool := d.showable && decide (d.depth ≤ 5) && decide (d.shown.length ≤ 2000) && (noList d || !d.hasDict)
theorem ok_of {d : D} (h : okB d = true) : ∃ b, Shw b 5 2000 d := by
  unfold okB at h
  simp only [Bool.and_eq_true, Bool.or_eq_true, decide_eq_true_eq] at h
  obtain ⟨⟨⟨h1, h2⟩, h3⟩, h4⟩ := h
  rcases h4 with h4 | h4
  · exact ⟨true, h1, h2, h3, h4⟩
  · exact ⟨false, h1, h2, h3, h4⟩
theorem at_all {xs : List D} {P : D → Prop} {z : Int} {Ψ : D → Prop} (h : ∀ x ∈ xs, P x) (h0 : 0 ≤ z) (hz : z < xs.length) (q : ∀ d, P d → Ψ d) : Gi (atI xs z) Ψ := by
  have hl : z.toNat < xs.length := by omega
  exact gi_ix (y := xs[z.toNat]) h0 hz (List.getElem?_eq_getElem hl) (q _ (h _ (List.getElem_mem hl)))
theorem okB_all {xs : List D} (h : xs.all okB = true) : ∀ x ∈ xs, okB x = true := fun x hx => List.all_eq_true.mp h x hx
theorem odd_ok {s : List D} {k : Nat} (hs : Src (k + 1) s) : Gv (F_law_odd.fn [.list s]) fun o => ∃ (d : D) (s' : List D), o = ((false, d), .list s') ∧ okB d = true ∧ Src k s' := by
  refine run_gv [some (true, .list s), none] 1 rfl rfl rfl ?_
  unfold b_law_odd
  repeat (first | contradiction | refine g_pow (by decide +kernel) ?_ | refine gv_strE ?_)
  refine g_catL (Nat.le_of_ble_eq_true rfl) ?_
  repeat contradiction
  refine (draw_ok hs (by decide) (by decide)).mono fun o ho => ?_
  obtain ⟨v, s1, rfl, h1, h2, hs1⟩ := ho
  repeat contradiction
  refine ⟨src_froz hs1, ?_⟩
  repeat contradiction
  refine at_all (P := fun d => okB d = true) (okB_all (by decide +kernel)) h1 h2 fun d hd => ?_
  repeat contradiction
  exact ⟨d, s1, rfl, hd, hs1⟩

end K
set_option Elab.async false
set_option linter.all false
set_option maxRecDepth 100000
set_option maxHeartbeats 4000000
namespace K
open PySem PySem.Spec PyProof.Rows L2 Ev
local macro_rules | `(tactic| contradiction) => `(tactic| (((first
  | with_reducible (first
    | refine gx_cons.mpr ?_ | refine gx_nil.mpr ?_ | refine gx_asg.mpr ?_ | refine gx_asgT.mpr ?_ | refine gx_par.mpr ?_ | refine gx_parT.mpr ?_ | refine gx_expr.mpr ?_ | refine gx_ret.mpr ?_ | refine gx_retN.mpr ?_ | refine gx_pass.mpr ?_ | refine gx_ifs.mpr ?_ | refine gx_set ?_ | refine g_setL ?_ | refine g_own ?_ | refine gv_callm ?_ | refine gv_meth ?_
    | refine gv_op ?_ | refine gv_neg ?_ | refine gv_not ?_ | refine gv_and ?_ | refine gv_or ?_ | refine gv_cmp ?_ | refine gv_chain ?_ | refine gv_isC ?_ | refine gv_iteE ?_ | refine gv_tup ?_ | refine gv_lst ?_ | refine gv_ix ?_ | refine gv_sl ?_ | refine gv_prim ?_ | refine gv_isi ?_ | refine gv_maxd ?_ | refine gv_call ?_
    | refine gv_var ?_ | refine gv_int ?_ | refine gv_bl ?_ | refine gv_non ?_ | refine gv_cst ?_ | refine gv_dnew ?_ | refine gv_dic1 ?_ | refine gv_rev ?_ | refine g_tupOf ?_ | refine gv_lrep ?_ | refine g_ownR ?_ | refine p_list_tuple ?_
    | refine gv_nil ?_ | refine gv_cons ?_ | refine gt_val ?_ | refine gt_not ?_ | refine gt_and ?_ | refine gt_or ?_ | refine gc_nil ?_ | refine gc_one ?_
    | refine gl_0 ?_ | refine gl_S ?_ | refine gr_val ?_ | refine gr_loc ?_ | refine ge_val ?_ | refine ge_loc ?_ | refine grs_nil ?_ | refine grs_cons ?_ | refine ges_nil ?_ | refine ges_cons ?_ | refine gp_nil ?_ | refine gp_one ?_ | refine g_slL ?_ | refine g_slT ?_
    | refine g_add ?_ | refine g_sub ?_ | refine g_lt ?_ | refine g_le ?_ | refine g_gt ?_ | refine g_ge ?_ | refine t_bl ?_ | refine t_int ?_ | refine t_non ?_ | refine t_lst ?_ | refine t_tup ?_ | refine x_lst ?_ | refine x_tup ?_
    | refine p_lenL ?_ | refine p_lenT ?_ | refine p_abs ?_ | refine p_int ?_ | refine p_intB ?_ | refine p_tupL ?_ | refine p_tupT ?_ | refine p_max2 ?_ | refine p_min2 ?_ | refine g_intOf ?_ | refine g_seqL ?_ | refine g_seqT ?_ | refine gi_seq ?_ | refine gi_rng ?_ | refine gi_enum ?_ | refine gv_lrng ?_ | refine b_pair ?_ | refine pick_t ?_ | refine pick_f ?_ | refine f_val ?_ | refine f_no ?_ | refine f_yes ?_
    | refine gv_some.mpr ?_)
  | ((with_reducible refine gi_mk ?_); refine gv_some.mpr ?_)
  | ((with_reducible refine b_name ?_ ?_); · (simp only [List.length_cons, List.length_nil, List.length_set]; decide))
  | ((with_reducible refine gs_val ?_ ?_); · (simp only [List.length_cons, List.length_nil, List.length_set]; decide))
  | with_reducible refine And.intro rfl ?_
  | (with_reducible refine @And.intro (_ ≤ sizeLine) _ ?_ ?_; · exact Nat.le_of_ble_eq_true rfl))) <;> try dsimp only [List.set_cons_zero, List.set_cons_succ, List.length_cons, List.length_nil, Int.reduceToNat, Ev.backR, Ev.wipeR, List.getD_cons_zero, List.getD_cons_succ]))
/-- an entry of times that may be None -/
def Atom (x : D) : Prop := ∃ o : Option Int, x = optD o ∧ ∀ v, o = some v → v.natAbs < 10 ^ 47
theorem Atom.shw {b : Bool} {x : D} (h : Atom x) : Shw b 0 50 x := by
  obtain ⟨o, rfl, h⟩ := h
  cases o with
  | none => exact shw_non
  | some v => exact shw_int (Nat.lt_of_lt_of_le (h v rfl) (Nat.le_of_ble_eq_true rfl))
theorem mem_cut {xs : List D} {lo hi : Option Int} {x : D} (h : x ∈ Ev.cutD xs lo hi) : x ∈ xs := List.mem_of_mem_drop (List.mem_of_mem_take h)
theorem len_cut (xs : List D) (lo hi : Option Int) : (Ev.cutD xs lo hi).length ≤ xs.length := by
  unfold Ev.cutD
  rw [List.length_take, List.length_drop]
  omega
/-- entries, at most so many -/
def Ats (m : Nat) (xs : List D) : Prop := (∀ x ∈ xs, Atom x) ∧ xs.length ≤ m
theorem Ats.cut {m : Nat} {xs : List D} {lo hi : Option Int} (h : Ats m xs) : Ats m (Ev.cutD xs lo hi) := ⟨fun x hx => h.1 x (mem_cut hx), Nat.le_trans (len_cut xs lo hi) h.2⟩
theorem Ats.app {m n : Nat} {xs ys : List D} (h : Ats m xs) (g : Ats n ys) : Ats (m + n) (xs ++ ys) := ⟨fun x hx => (List.mem_append.mp hx).elim (h.1 x) (g.1 x), by rw [List.length_append]; have := h.2; have := g.2; omega⟩
theorem Ats.rev {m : Nat} {xs : List D} (h : Ats m xs) : Ats m xs.reverse := ⟨fun x hx => h.1 x (List.mem_reverse.mp hx), by rw [List.length_reverse]; exact h.2⟩
theorem ats_nil : Ats 0 [] := ⟨fun x hx => absurd hx List.not_mem_nil, Nat.le_refl _⟩
theorem ats_one {x : D} (h : Atom x) : Ats 1 [x] := ⟨fun y hy => by rw [List.mem_singleton] at hy; rw [hy]; exact h, Nat.le_refl _⟩
theorem Ats.tup {b : Bool} {m : Nat} {xs : List D} (h : Ats m xs) : Shw b 1 (52 * m + 3) (.tuple xs) := shw_tup (k := 0) (n := 50) (fun x hx => (h.1 x hx).shw) h.2
theorem Ats.lst {m : Nat} {xs : List D} (h : Ats m xs) : Shw false 1 (52 * m + 3) (.list xs) := shw_lst (k := 0) (n := 50) (fun x hx => (h.1 x hx).shw) h.2
theorem atom_int {v : Int} (h : v.natAbs < 10 ^ 47) : Atom (.int v) := ⟨some v, rfl, fun w e => by cases e; exact h⟩
/-- what a value bent comes to -/
def Bt (d : D) : Prop := ∃ b, Shw b 5 3000 d
theorem shw_strInt {b : Bool} {v : Int} (h : v.natAbs < 10 ^ 47) : Shw b 0 600 (.str (toString v : String)) := by
  have hl : (Str.ofString (toString v)).length ≤ 50 := by
    rw [PySem.ofString_length]
    exact Nat.le_trans (int_text_length_le10 (k := 47) (by decide) h) (by decide)
  refine ⟨rfl, Nat.zero_le _, ?_, by cases b <;> rfl⟩
  have hs : PyData.leavesShort 8 (.str (Str.ofString (toString v))) = true := by
    simp only [PyData.leavesShort, List.all_eq_true, decide_eq_true_eq]
    intro c hc
    have e : (16 : Nat) ^ 8 = 4294967296 := by decide
    rw [e]
    by_cases z : c < 4294967296
    · exact z
    · exact absurd hc (shown_int_free' ⟨by omega, .inr (by omega)⟩ v)
  have := PyData.shown_le 8 (by decide) _ hs
  have e : (PyData.str (Str.ofString (toString v))).weight = (Str.ofString (toString v)).length := rfl
  rw [e] at this
  omega
theorem bent_atom {s : List D} {k m : Nat} {x : D} {deep : Int} (hs : Src (k + 1) s) (hx : Atom x) : Gv ((F_law_bent (m + 1)).fn [.list s, x, .int deep]) fun o => ∃ (d : D) (s' : List D), o = ((false, d), .list s') ∧ Bt d ∧ Src k s' := by
  show Gv ((runF (G_law_bent m) fuel N_law_bent P_law_bent true b_law_bent).fn [.list s, x, .int deep]) _
  refine run_gv [some (true, .list s), some (false, x), some (false, .int deep), none, none] 1 rfl rfl rfl ?_
  unfold b_law_bent
  obtain ⟨o, rfl, hv⟩ := hx
  cases o with
  | none =>
    dsimp only [optD]
    repeat contradiction
    refine ⟨fun z => (by cases z), fun _ => ?_⟩
    repeat contradiction
    refine ⟨fun z => (by cases z), fun _ => ?_⟩
    repeat contradiction
    refine (law_whole_gen _).mono fun o ho => ?_
    subst ho
    repeat contradiction
    refine ⟨fun z => (by cases z), fun _ => ?_⟩
    repeat contradiction
    refine (odd_ok hs).mono fun o ho => ?_
    obtain ⟨d, s1, rfl, hd, hs1⟩ := ho
    repeat contradiction
    refine ⟨src_froz hs1, ?_⟩
    repeat contradiction
    obtain ⟨b, hb⟩ := ok_of hd
    exact ⟨d, s1, rfl, ⟨b, hb.wider (by decide) (by decide)⟩, hs1⟩
  | some v =>
    have hv := hv v rfl
    have h48 : v.natAbs < 10 ^ 48 := Nat.lt_of_lt_of_le hv (Nat.le_of_ble_eq_true rfl)
    have e47 : (10 : Nat) ^ 47 + 1 ≤ 10 ^ 48 := Nat.le_of_ble_eq_true rfl
    dsimp only [optD]
    repeat contradiction
    refine ⟨fun z => (by cases z), fun _ => ?_⟩
    repeat contradiction
    refine ⟨fun z => (by cases z), fun _ => ?_⟩
    repeat contradiction
    refine (law_whole_gen _).mono fun o ho => ?_
    subst ho
    repeat contradiction
    refine ⟨fun _ => ?_, fun z => (by cases z)⟩
    repeat contradiction
    refine p_str ?_ ?_
    · by_cases h0 : v.natAbs = 0
      · rw [h0]; decide +kernel
      · exact (Nat.log2_lt h0).mpr (Nat.lt_of_lt_of_le hv (Nat.le_of_ble_eq_true rfl))
    repeat contradiction
    refine g_eq rfl rfl ?_
    repeat contradiction
    refine (draw_ok hs (by decide) (by decide)).mono fun o ho => ?_
    obtain ⟨u, s1, rfl, h1, h2, hs1⟩ := ho
    repeat contradiction
    refine ⟨src_froz hs1, ?_⟩
    repeat contradiction
    have i1 : (v + 1).natAbs < 10 ^ 48 := by
      generalize (10 : Nat) ^ 47 = p at *
      generalize (10 : Nat) ^ 48 = q at *
      omega
    have i2 : (v - 1).natAbs < 10 ^ 48 := by
      generalize (10 : Nat) ^ 47 = p at *
      generalize (10 : Nat) ^ 48 = q at *
      omega
    have i3 : (0 - v).natAbs < 10 ^ 48 := by
      generalize (10 : Nat) ^ 47 = p at *
      generalize (10 : Nat) ^ 48 = q at *
      omega
    refine at_all (P := Bt) ?_ h1 h2 fun d hd => ?_
    · refine List.forall_mem_cons.mpr ⟨⟨true, (shw_int i1).wider (by decide) (by decide)⟩, List.forall_mem_cons.mpr ⟨⟨true, (shw_int i2).wider (by decide) (by decide)⟩, List.forall_mem_cons.mpr ⟨⟨true, (shw_int i3).wider (by decide) (by decide)⟩, List.forall_mem_cons.mpr ⟨⟨true, (shw_strInt hv).wider (by decide) (by decide)⟩, List.forall_mem_cons.mpr ⟨⟨true, (shw_bool _).wider (by decide) (by decide)⟩, List.forall_mem_cons.mpr ⟨⟨true, ((ats_one (atom_int hv)).tup).wider (by decide) (by decide)⟩, List.forall_mem_cons.mpr ⟨⟨true, shw_non.wider (by decide) (by decide)⟩, fun x hx => absurd hx List.not_mem_nil⟩⟩⟩⟩⟩⟩⟩
    repeat contradiction
    exact ⟨d, s1, rfl, hd, hs1⟩
def tl_bent : Ss := match b_law_bent with
  | .cons _ t => t
  | _ => .nil
theorem okEq_ats {m : Nat} {xs : List D} (h : Ats m xs) : okEq (.tuple xs) = true := by
  have h2 : ∀ l : List D, (∀ x ∈ l, Atom x) → PyData.canLayAll0 l = true ∧ PyData.depthAll l = 0 := fun l => by
    induction l with
    | nil => exact fun _ => ⟨rfl, rfl⟩
    | cons x r ih =>
      intro hl
      have h3 := ih fun y hy => hl y (List.mem_cons_of_mem _ hy)
      obtain ⟨o, rfl, _⟩ := hl x List.mem_cons_self
      cases o with
      | none => exact ⟨by simp [optD, PyData.canLayAll0, PyData.canLay0, h3.1], by simp [optD, PyData.depthAll, PyData.depth, h3.2]⟩
      | some v => exact ⟨by simp [optD, PyData.canLayAll0, PyData.canLay0, h3.1], by simp [optD, PyData.depthAll, PyData.depth, h3.2]⟩
  unfold okEq SeqAt.shaped
  rw [Bool.and_eq_true, decide_eq_true_eq]
  refine ⟨by simp [PyData.canLay0, (h2 xs h.1).1], ?_⟩
  simp only [PyData.depth, (h2 xs h.1).2]
  omega
theorem eqv_emp (xs : List D) : PyData.eqv (.tuple xs) (.tuple []) = xs.isEmpty := by
  cases xs <;> simp [PyData.eqv, PyData.eqvAll]
theorem small_sum {a b : Nat} (h : a ≤ b) (hb : b ≤ 1000) : a ≤ sizeLine := Nat.le_trans h (Nat.le_trans hb (Nat.le_of_ble_eq_true rfl))
theorem bent_tail {s : List D} {k m : Nat} {xs : List D} {deep : Int} (hs : Src (k + 2) s) (hx : Ats 8 xs) : Gx (Ev.execs (G_law_bent m) 1 fuel tl_bent [some (true, .list s), some (false, .tuple xs), some (false, .int deep), none, none])
    (fun ρ => Gv (Ev.finish true ρ (false, PyData.none)) fun o => ∃ (d : D) (s' : List D), o = ((false, d), .list s') ∧ Bt d ∧ Src k s') (fun _ => False) (fun _ => False) fun r ρ => Gv (finR true ρ r) fun o => ∃ (d : D) (s' : List D), o = ((false, d), .list s') ∧ Bt d ∧ Src k s' := by
  have hl := hx.2
  unfold tl_bent b_law_bent
  dsimp only
  repeat contradiction
  refine ⟨fun _ => ?_, fun z => (by cases z)⟩
  repeat contradiction
  refine (draw_ok hs (by omega) (by omega)).mono fun o ho => ?_
  obtain ⟨a, s1, rfl, h1, h2, hs1⟩ := ho
  repeat contradiction
  refine ⟨src_froz hs1, ?_⟩
  repeat contradiction
  refine g_catT (small_sum (b := 16) (by have := len_cut xs none (some a); have := len_cut xs (some (a + 1)) none; omega) (by decide)) ?_
  repeat contradiction
  refine g_catT (small_sum (b := 16) (by have := len_cut xs none (some a); simp only [List.length_cons, List.length_nil]; omega) (by decide)) ?_
  repeat contradiction
  refine g_catT (small_sum (b := 30) (by have := len_cut xs none (some a); have := len_cut xs (some a) none; simp only [List.length_append, List.length_cons, List.length_nil]; omega) (by decide)) ?_
  repeat contradiction
  refine g_catT (small_sum (b := 16) (by have := len_cut xs (some (-1)) none; omega) (by decide)) ?_
  repeat contradiction
  refine g_catL (Nat.le_of_ble_eq_true rfl) ?_
  repeat contradiction
  refine (draw_ok hs1 (by decide) (by decide)).mono fun o ho => ?_
  obtain ⟨u, s2, rfl, h3, h4, hs2⟩ := ho
  repeat contradiction
  refine ⟨src_froz hs2, ?_⟩
  repeat contradiction
  refine at_all (P := Bt) ?_ h3 h4 fun d hd => ?_
  · refine List.forall_mem_cons.mpr ⟨⟨false, hx.lst.wider (by decide) (by decide)⟩, List.forall_mem_cons.mpr ⟨⟨true, (hx.cut.app hx.cut).tup.wider (by decide) (by decide)⟩, List.forall_mem_cons.mpr ⟨⟨true, ((hx.cut.app (ats_one (atom_int (by decide +kernel)))).app hx.cut).tup.wider (by decide) (by decide)⟩, List.forall_mem_cons.mpr ⟨⟨true, hx.rev.tup.wider (by decide) (by decide)⟩, List.forall_mem_cons.mpr ⟨⟨true, (hx.app hx.cut).tup.wider (by decide) (by decide)⟩, List.forall_mem_cons.mpr ⟨⟨true, (shw_tup (m := 1) (fun x hx2 => by rw [List.mem_singleton] at hx2; rw [hx2]; exact hx.tup) (Nat.le_refl _)).wider (by decide) (by decide)⟩, List.forall_mem_cons.mpr ⟨⟨true, ats_nil.tup.wider (by decide) (by decide)⟩, fun x hx => absurd hx List.not_mem_nil⟩⟩⟩⟩⟩⟩⟩
  repeat contradiction
  exact ⟨d, s2, rfl, hd, hs2⟩
theorem bent_ok {s : List D} {k m : Nat} {xs : List D} {deep : Int} (hs : Src (k + 3) s) (hx : Ats 8 xs) : Gv ((F_law_bent (m + 2)).fn [.list s, .tuple xs, .int deep]) fun o => ∃ (d : D) (s' : List D), o = ((false, d), .list s') ∧ (∃ b, Shw b 6 40000 d) ∧ Src k s' := by
  show Gv ((runF (G_law_bent (m + 1)) fuel N_law_bent P_law_bent true b_law_bent).fn [.list s, .tuple xs, .int deep]) _
  refine run_gv [some (true, .list s), some (false, .tuple xs), some (false, .int deep), none, none] 1 rfl rfl rfl ?_
  have tail : ∀ s1, Src (k + 2) s1 → Gx (Ev.execs (G_law_bent (m + 1)) 1 fuel tl_bent [some (true, .list s1), some (false, .tuple xs), some (false, .int deep), none, none])
    (fun ρ => Gv (Ev.finish true ρ (false, PyData.none)) fun o => ∃ (d : D) (s' : List D), o = ((false, d), .list s') ∧ (∃ b, Shw b 6 40000 d) ∧ Src k s') (fun _ => False) (fun _ => False) fun r ρ => Gv (finR true ρ r) fun o => ∃ (d : D) (s' : List D), o = ((false, d), .list s') ∧ (∃ b, Shw b 6 40000 d) ∧ Src k s' := fun s1 hs1 => by
    have w : ∀ o : (Bool × D) × D, (∃ (d : D) (s' : List D), o = ((false, d), .list s') ∧ Bt d ∧ Src k s') → ∃ (d : D) (s' : List D), o = ((false, d), .list s') ∧ (∃ b, Shw b 6 40000 d) ∧ Src k s' := fun o ⟨d, s', e, ⟨b, hb⟩, h⟩ => ⟨d, s', e, ⟨b, hb.wider (by decide) (by decide)⟩, h⟩
    exact (bent_tail hs1 hx).mono (fun ρ h => h.mono w) (fun _ z => z) (fun _ z => z) fun r ρ h => h.mono w
  have hl := hx.2
  unfold b_law_bent
  repeat contradiction
  refine ⟨fun _ => ?_, fun z => (by cases z)⟩
  repeat contradiction
  refine g_ne (okEq_ats hx) rfl ?_
  rw [eqv_emp]
  repeat contradiction
  refine ⟨fun hne => ?_, fun _ => ?_⟩
  · have hpos : 0 < xs.length := by
      cases xs with
      | nil => simp at hne
      | cons a b => simp
    repeat contradiction
    refine ⟨fun _ => ?_, fun _ => ?_⟩
    · repeat contradiction
      refine (draw_ok hs (by decide) (by decide)).mono fun o ho => ?_
      obtain ⟨u, s1, rfl, h1, h2, hs1⟩ := ho
      repeat contradiction
      refine ⟨src_froz hs1, ?_⟩
      repeat contradiction
      refine ⟨fun _ => ?_, fun _ => ?_⟩
      · repeat contradiction
        refine (draw_ok hs1 (by omega) (by omega)).mono fun o ho => ?_
        obtain ⟨a, s2, rfl, h3, h4, hs2⟩ := ho
        repeat contradiction
        refine ⟨src_froz hs2, ?_⟩
        repeat contradiction
        refine at_all (P := Atom) hx.1 h3 h4 fun x hxa => ?_
        repeat contradiction
        refine (bent_atom hs2 hxa).mono fun o ho => ?_
        obtain ⟨d, s3, rfl, ⟨b, hb⟩, hs3⟩ := ho
        repeat contradiction
        refine ⟨src_froz hs3, ?_⟩
        repeat contradiction
        refine g_catT (small_sum (b := 16) (by have := len_cut xs none (some a); simp only [List.length_cons, List.length_nil]; omega) (by decide)) ?_
        repeat contradiction
        refine g_catT (small_sum (b := 30) (by have := len_cut xs none (some a); have := len_cut xs (some (a + 1)) none; simp only [List.length_append, List.length_cons, List.length_nil]; omega) (by decide)) ?_
        repeat contradiction
        refine ⟨_, s3, rfl, ⟨b, (shw_tup (k := 5) (n := 3000) (m := 9) (fun y hy => ?_) ?_).wider (by decide) (by decide)⟩, hs3⟩
        · rcases List.mem_append.mp hy with z | z
          · rcases List.mem_append.mp z with z | z
            · exact ((hx.1 y (mem_cut z)).shw).wider (by decide) (by decide)
            · rw [List.mem_singleton] at z
              rw [z]; exact hb
          · exact ((hx.1 y (mem_cut z)).shw).wider (by decide) (by decide)
        · have q1 := len_cut xs none (some a)
          have e1 : (Ev.cutD xs none (some a)).length + (Ev.cutD xs (some (a + 1)) none).length ≤ 8 := by
            obtain ⟨j, rfl⟩ : ∃ j : Nat, a = j := ⟨a.toNat, by omega⟩
            rw [cut_to, show ((j : Int) + 1) = ((j + 1 : Nat) : Int) by omega, cut_from, List.length_take, List.length_drop]
            omega
          simp only [List.length_append, List.length_cons, List.length_nil]
          omega
      · refine gx_nil.mpr ?_
        exact tail s1 hs1
    · refine pick_f ?_
      refine gx_nil.mpr ?_
      exact tail s (hs.mono (by omega))
  · refine pick_f ?_
    refine gx_nil.mpr ?_
    exact tail s (hs.mono (by omega))

end K
set_option Elab.async false
set_option linter.all false
set_option maxRecDepth 100000
set_option maxHeartbeats 4000000
namespace K
open PySem PySem.Spec PyProof.Rows L2 Ev
local macro_rules | `(tactic| contradiction) => `(tactic| (((first
  | with_reducible (first
    | refine gx_cons.mpr ?_ | refine gx_nil.mpr ?_ | refine gx_asg.mpr ?_ | refine gx_asgT.mpr ?_ | refine gx_par.mpr ?_ | refine gx_parT.mpr ?_ | refine gx_expr.mpr ?_ | refine gx_ret.mpr ?_ | refine gx_retN.mpr ?_ | refine gx_pass.mpr ?_ | refine gx_ifs.mpr ?_ | refine gx_set ?_ | refine g_setL ?_ | refine g_own ?_ | refine gv_callm ?_ | refine gv_meth ?_
    | refine gv_op ?_ | refine gv_neg ?_ | refine gv_not ?_ | refine gv_and ?_ | refine gv_or ?_ | refine gv_cmp ?_ | refine gv_chain ?_ | refine gv_isC ?_ | refine gv_iteE ?_ | refine gv_tup ?_ | refine gv_lst ?_ | refine gv_ix ?_ | refine gv_sl ?_ | refine gv_prim ?_ | refine gv_isi ?_ | refine gv_maxd ?_ | refine gv_call ?_
    | refine gv_var ?_ | refine gv_int ?_ | refine gv_bl ?_ | refine gv_non ?_ | refine gv_cst ?_ | refine gv_dnew ?_ | refine gv_dic1 ?_ | refine gv_rev ?_ | refine g_tupOf ?_ | refine gv_lrep ?_ | refine g_ownR ?_ | refine p_list_tuple ?_
    | refine gv_nil ?_ | refine gv_cons ?_ | refine gt_val ?_ | refine gt_not ?_ | refine gt_and ?_ | refine gt_or ?_ | refine gc_nil ?_ | refine gc_one ?_
    | refine gl_0 ?_ | refine gl_S ?_ | refine gr_val ?_ | refine gr_loc ?_ | refine ge_val ?_ | refine ge_loc ?_ | refine grs_nil ?_ | refine grs_cons ?_ | refine ges_nil ?_ | refine ges_cons ?_ | refine gp_nil ?_ | refine gp_one ?_ | refine g_slL ?_ | refine g_slT ?_
    | refine g_add ?_ | refine g_sub ?_ | refine g_lt ?_ | refine g_le ?_ | refine g_gt ?_ | refine g_ge ?_ | refine t_bl ?_ | refine t_int ?_ | refine t_non ?_ | refine t_lst ?_ | refine t_tup ?_ | refine x_lst ?_ | refine x_tup ?_
    | refine p_lenL ?_ | refine p_lenT ?_ | refine p_abs ?_ | refine p_int ?_ | refine p_intB ?_ | refine p_tupL ?_ | refine p_tupT ?_ | refine p_max2 ?_ | refine p_min2 ?_ | refine g_intOf ?_ | refine g_seqL ?_ | refine g_seqT ?_ | refine gi_seq ?_ | refine gi_rng ?_ | refine gi_enum ?_ | refine gv_lrng ?_ | refine b_pair ?_ | refine pick_t ?_ | refine pick_f ?_ | refine f_val ?_ | refine f_no ?_ | refine f_yes ?_
    | refine gv_some.mpr ?_)
  | ((with_reducible refine gi_mk ?_); refine gv_some.mpr ?_)
  | ((with_reducible refine b_name ?_ ?_); · (simp only [List.length_cons, List.length_nil, List.length_set]; decide))
  | ((with_reducible refine gs_val ?_ ?_); · (simp only [List.length_cons, List.length_nil, List.length_set]; decide))
  | with_reducible refine And.intro rfl ?_
  | (with_reducible refine @And.intro (_ ≤ sizeLine) _ ?_ ?_; · exact Nat.le_of_ble_eq_true rfl))) <;> try dsimp only [List.set_cons_zero, List.set_cons_succ, List.length_cons, List.length_nil, Int.reduceToNat, Ev.backR, Ev.wipeR, List.getD_cons_zero, List.getD_cons_succ]))
theorem no_times_ok {s : List D} {k n : Nat} (hs : Src (k + 1) s) (hn : 1 ≤ n) (hn8 : n ≤ 8) : Gv (F_law_no_times.fn [.list s, .int n]) fun o => ∃ (d : D) (s' : List D), o = ((false, d), .list s') ∧ okB d = true ∧ Src k s' := by
  refine run_gv [some (true, .list s), some (false, .int n), none] 1 rfl rfl rfl ?_
  unfold b_law_no_times
  repeat (first | contradiction | refine gv_strE ?_ | refine g_repT ⟨by decide, by omega, by omega⟩ ?_ | refine And.intro (And.intro (by decide) (And.intro (by omega) (by omega))) ?_)
  refine g_catT (small_sum (b := 16) (by simp only [List.length_flatten, List.map_replicate, List.length_cons, List.length_nil, List.sum_replicate_nat]; omega) (by decide)) ?_
  repeat (first | contradiction | refine gv_strE ?_ | refine g_repT ⟨by decide, by omega, by omega⟩ ?_ | refine And.intro (And.intro (by decide) (And.intro (by omega) (by omega))) ?_)
  refine g_catL (Nat.le_of_ble_eq_true rfl) ?_
  repeat contradiction
  refine (draw_ok hs (by decide) (by decide)).mono fun o ho => ?_
  obtain ⟨v, s1, rfl, h1, h2, hs1⟩ := ho
  repeat contradiction
  refine ⟨src_froz hs1, ?_⟩
  repeat contradiction
  refine at_all (P := fun d => okB d = true) (okB_all ?_) h1 h2 fun d hd => ?_
  · have : n = 1 ∨ n = 2 ∨ n = 3 ∨ n = 4 ∨ n = 5 ∨ n = 6 ∨ n = 7 ∨ n = 8 := by omega
    rcases this with rfl | rfl | rfl | rfl | rfl | rfl | rfl | rfl <;> decide +kernel
  repeat contradiction
  exact ⟨d, s1, rfl, hd, hs1⟩
theorem solves_ok {n : Nat} {rs : List (Int × List (Int × Int))} {ts : List Int} (h : Rls n rs) (ht : ts.length = n) : Gv (F_law_solves.fn [setD n rs, .tuple (IntsD ts)]) fun o => o = ((false, .bool (fulB rs ts)), .none) := by
  refine run_gv [some (false, setD n rs), some (false, .tuple (IntsD ts)), none] 0 rfl rfl rfl ?_
  unfold b_law_solves setD
  repeat contradiction
  refine gv_comp (I := fun i acc ρ => ρ = [some (false, .tuple [.int n, .tuple (rs.map ruleD)]), some (false, .tuple (IntsD ts)), none] ∧ acc = ((rs.take i).filter fun r => !holdsB r ts).map ruleD) ?_
  repeat contradiction
  refine ⟨⟨rfl, rfl⟩, fun i d acc ρ1 hd hI => ?_, fun acc ρ1 hI => ?_⟩
  · obtain ⟨rfl, rfl⟩ := hI
    rw [List.getElem?_map, Option.map_eq_some_iff] at hd
    obtain ⟨r, hr, rfl⟩ := hd
    repeat contradiction
    refine (law_holds_ok (h r (List.mem_of_getElem? hr)) ht).mono fun o ho => ?_
    subst ho
    repeat contradiction
    refine ⟨fun z => ?_, fun z => ?_⟩
    · have hb : holdsB r ts = false := by simpa using z
      repeat contradiction
      rw [← take_next hr, List.filter_append, List.map_append]
      simp [hb]
    · have hb : holdsB r ts = true := by simpa using z
      refine ⟨rfl, ?_⟩
      rw [← take_next hr, List.filter_append]
      simp [hb]
  · obtain ⟨rfl, rfl⟩ := hI
    rw [List.length_map, List.take_length]
    repeat contradiction
    refine g_eq (okEq_rules _) rfl ?_
    rw [eqv_nil]
    repeat contradiction
    have e : (rs.filter fun r => !holdsB r ts).isEmpty = fulB rs ts := by
      rw [Bool.eq_iff_iff, List.isEmpty_iff, List.filter_eq_nil_iff]
      unfold fulB
      rw [List.all_eq_true]
      simp
    show _ = _
    rw [e]
theorem judged_ok {n : Nat} {rs : List (Int × List (Int × Int))} {d : D} (h : Rls n rs) (hn : 1 ≤ n) (hn8 : n ≤ 8) (hl : rs.length ≤ 24) (hd : ∃ b, Shw b 6 40000 d) : Gv (F_law_judged.fn [setD n rs, d]) Yes := by
  refine run_gv [some (false, setD n rs), some (false, d), none, none] 0 rfl rfl rfl ?_
  have sh : showOk (.tuple [setD n rs, d]) = true := by
    obtain ⟨b, hb⟩ := hd
    exact (shw_tup (k := 6) (n := 90000) (m := 2) (mem2 ((shw_set h hn8 hl).wider (by decide) (by decide)) (hb.wider (by decide) (by decide))) (Nat.le_refl _)).okay (by decide) (by decide +kernel)
  have shBool : ∀ b : Bool, showOk (.bool b) = true := fun b => (shw_bool (b := true) b).okay (by decide) (by decide +kernel)
  have hso := solution_gen (d := d) h hn hn8 hl
  have hsv := fun ts ht => solves_ok (ts := ts) h ht
  unfold b_law_judged
  unfold setD at hso hsv sh ⊢
  repeat contradiction
  refine p_repr sh ?_
  generalize hk : PyData.shown (.tuple [.tuple [.int n, .tuple (rs.map ruleD)], d]) = kept
  repeat contradiction
  refine (law_is_times_gen (n := n) d).mono fun o ho => ?_
  subst ho
  repeat contradiction
  refine (is_times_gen (n := n) d hn hn8).mono fun o ho => ?_
  subst ho
  repeat contradiction
  refine p_repr (shBool _) ?_
  repeat contradiction
  refine p_repr (shBool _) ?_
  repeat contradiction
  refine g_neS ?_
  rw [bne_self_eq_false]
  repeat contradiction
  refine ⟨fun ht => ?_, fun ht => ?_⟩
  · obtain ⟨ts, rfl, hts⟩ := timesB_ints ht
    repeat contradiction
    refine (hsv ts hts).mono fun o ho => ?_
    subst ho
    repeat contradiction
    refine hso.mono fun o ho => ?_
    obtain ⟨b2, rfl, h1, h2⟩ := ho
    have e : b2 = fulB rs ts := h2 ts rfl hts
    subst e
    repeat contradiction
    refine p_repr (shBool _) ?_
    repeat contradiction
    refine p_repr (shBool _) ?_
    repeat contradiction
    refine g_eqS ?_
    rw [beq_self_eq_true]
    repeat contradiction
    refine p_repr sh ?_
    rw [hk]
    repeat contradiction
    refine g_eqS ?_
    rw [beq_self_eq_true]
    repeat contradiction
    exact rfl
  · repeat contradiction
    refine hso.mono fun o ho => ?_
    obtain ⟨b2, rfl, h1, h2⟩ := ho
    have e : b2 = timesB n d := by rw [h1 ht, ht]
    subst e
    repeat contradiction
    refine p_repr (shBool _) ?_
    repeat contradiction
    refine p_repr (shBool _) ?_
    repeat contradiction
    refine g_eqS ?_
    rw [beq_self_eq_true]
    repeat contradiction
    refine p_repr sh ?_
    rw [hk]
    repeat contradiction
    refine g_eqS ?_
    rw [beq_self_eq_true]
    repeat contradiction
    exact rfl

end K
set_option Elab.async false
set_option linter.all false
set_option maxRecDepth 100000
set_option maxHeartbeats 4000000
namespace K
open PySem PySem.Spec PyProof.Rows L2 Ev
local macro_rules | `(tactic| contradiction) => `(tactic| (((first
  | with_reducible (first
    | refine gx_cons.mpr ?_ | refine gx_nil.mpr ?_ | refine gx_asg.mpr ?_ | refine gx_asgT.mpr ?_ | refine gx_par.mpr ?_ | refine gx_parT.mpr ?_ | refine gx_expr.mpr ?_ | refine gx_ret.mpr ?_ | refine gx_retN.mpr ?_ | refine gx_pass.mpr ?_ | refine gx_ifs.mpr ?_ | refine gx_set ?_ | refine g_setL ?_ | refine g_own ?_ | refine gv_callm ?_ | refine gv_meth ?_
    | refine gv_op ?_ | refine gv_neg ?_ | refine gv_not ?_ | refine gv_and ?_ | refine gv_or ?_ | refine gv_cmp ?_ | refine gv_chain ?_ | refine gv_isC ?_ | refine gv_iteE ?_ | refine gv_tup ?_ | refine gv_lst ?_ | refine gv_ix ?_ | refine gv_sl ?_ | refine gv_prim ?_ | refine gv_isi ?_ | refine gv_maxd ?_ | refine gv_call ?_
    | refine gv_var ?_ | refine gv_int ?_ | refine gv_bl ?_ | refine gv_non ?_ | refine gv_cst ?_ | refine gv_dnew ?_ | refine gv_dic1 ?_ | refine gv_rev ?_ | refine g_tupOf ?_ | refine gv_lrep ?_ | refine g_ownR ?_ | refine p_list_tuple ?_
    | refine gv_nil ?_ | refine gv_cons ?_ | refine gt_val ?_ | refine gt_not ?_ | refine gt_and ?_ | refine gt_or ?_ | refine gc_nil ?_ | refine gc_one ?_
    | refine gl_0 ?_ | refine gl_S ?_ | refine gr_val ?_ | refine gr_loc ?_ | refine ge_val ?_ | refine ge_loc ?_ | refine grs_nil ?_ | refine grs_cons ?_ | refine ges_nil ?_ | refine ges_cons ?_ | refine gp_nil ?_ | refine gp_one ?_ | refine g_slL ?_ | refine g_slT ?_
    | refine g_add ?_ | refine g_sub ?_ | refine g_lt ?_ | refine g_le ?_ | refine g_gt ?_ | refine g_ge ?_ | refine t_bl ?_ | refine t_int ?_ | refine t_non ?_ | refine t_lst ?_ | refine t_tup ?_ | refine x_lst ?_ | refine x_tup ?_
    | refine p_lenL ?_ | refine p_lenT ?_ | refine p_abs ?_ | refine p_int ?_ | refine p_intB ?_ | refine p_tupL ?_ | refine p_tupT ?_ | refine p_max2 ?_ | refine p_min2 ?_ | refine g_intOf ?_ | refine g_seqL ?_ | refine g_seqT ?_ | refine gi_seq ?_ | refine gi_rng ?_ | refine gi_enum ?_ | refine gv_lrng ?_ | refine b_pair ?_ | refine pick_t ?_ | refine pick_f ?_ | refine f_val ?_ | refine f_no ?_ | refine f_yes ?_
    | refine gv_some.mpr ?_)
  | ((with_reducible refine gi_mk ?_); refine gv_some.mpr ?_)
  | ((with_reducible refine b_name ?_ ?_); · (simp only [List.length_cons, List.length_nil, List.length_set]; decide))
  | ((with_reducible refine gs_val ?_ ?_); · (simp only [List.length_cons, List.length_nil, List.length_set]; decide))
  | with_reducible refine And.intro rfl ?_
  | (with_reducible refine @And.intro (_ ≤ sizeLine) _ ?_ ?_; · exact Nat.le_of_ble_eq_true rfl))) <;> try dsimp only [List.set_cons_zero, List.set_cons_succ, List.length_cons, List.length_nil, Int.reduceToNat, Ev.backR, Ev.wipeR, List.getD_cons_zero, List.getD_cons_succ]))
abbrev Ok6 (d : D) : Prop := ∃ b, Shw b 6 40000 d
theorem ats_far {n : Nat} {ts : List Int} (h : ∀ x ∈ ts, Far x) (hl : ts.length = n) (hn8 : n ≤ 8) : Ats 8 (IntsD ts) := by
  refine ⟨fun x hx => ?_, by rw [List.length_map]; omega⟩
  obtain ⟨v, hv, rfl⟩ := List.mem_map.mp hx
  have hf := h v hv
  refine atom_int ?_
  have e : (10 : Int) ^ 39 < ((10 ^ 47 : Nat) : Int) := by decide +kernel
  unfold Far at hf
  generalize (10 : Int) ^ 39 = p at *
  generalize (10 : Nat) ^ 47 = q at *
  omega
theorem ats_low {n : Nat} {xs : List (Option Int)} (h : Low (-1000) xs) (hl : xs.length = n) (hn8 : n ≤ 8) : Ats 8 (OptsD xs) := by
  refine ⟨fun x hx => ?_, by rw [List.length_map]; omega⟩
  obtain ⟨o, ho, rfl⟩ := List.mem_map.mp hx
  refine ⟨o, rfl, fun v e => ?_⟩
  have := h o ho v e
  have e2 : 2000 ≤ (10 : Nat) ^ 47 := Nat.le_of_ble_eq_true rfl
  generalize (10 : Nat) ^ 47 = q at *
  omega
theorem ok6_ats {xs : List D} (h : Ats 8 xs) : Ok6 (.tuple xs) := ⟨true, h.tup.wider (by decide) (by decide)⟩
theorem ok6_okB {d : D} (h : okB d = true) : Ok6 d := by
  obtain ⟨b, hb⟩ := ok_of h
  exact ⟨b, hb.wider (by decide) (by decide)⟩
theorem law_yes (ns : List Int) (hns : ns.length ≤ 63) : ∃ e, (runF G_law fuel N_law P_law false b_law).fn [.list (ns.map PyData.int)] = some ((false, .bool true), e) := by
  suffices h : Gv ((runF G_law fuel N_law P_law false b_law).fn [.list (ns.map PyData.int)]) fun o => o.1 = (false, .bool true) by
    obtain ⟨o, e, h⟩ := h
    obtain ⟨a, b⟩ := o
    dsimp only at h
    subst h
    exact ⟨b, e⟩
  refine run_gv [some (false, .list (ns.map PyData.int)), none, none, none, none, none, none, none] 0 rfl rfl rfl ?_
  unfold b_law
  repeat contradiction
  refine gx_for (I := fun i ρ => ∃ x1 x2 x3 x4 x5 x6 x7 : Option (Bool × D), ρ = [some (false, .list (ns.map PyData.int)), x1, x2, x3, x4, x5, x6, x7] ∧ Pl x6) ?_
  repeat contradiction
  have b1 : (if (ns.map PyData.int).length < (10 : Int) then ((ns.map PyData.int).length : Int) else 10) ≤ 10 := by split <;> omega
  have b2 : 0 ≤ (if (ns.map PyData.int).length < (10 : Int) then ((ns.map PyData.int).length : Int) else 10) := by split <;> omega
  generalize (if (ns.map PyData.int).length < (10 : Int) then ((ns.map PyData.int).length : Int) else 10) = q at b1 b2
  have b3 : (if q > 1 then q else 1) ≤ 10 := by split <;> omega
  have b4 : 0 ≤ (if q > 1 then q else 1) := by split <;> omega
  generalize (if q > 1 then q else 1) = m at b3 b4
  refine ⟨⟨by omega, by omega⟩, rfl, ⟨none, none, none, none, none, none, none, rfl, .inl rfl⟩, fun i d ρ1 hd hI => ?_, fun ρ1 hI => ?_⟩
  · obtain ⟨x1, x2, x3, x4, x5, x6, x7, rfl, hp6⟩ := hI
    obtain ⟨hi2, rfl⟩ := upTo_at hd
    repeat contradiction
    refine (source_ok (ns := ns) (i := i) (k := 2000) (by omega) (by decide)).mono fun o ho => ?_
    obtain ⟨s0, rfl, hs0⟩ := ho
    repeat contradiction
    refine (draw_ok (hs0.mono (show 1999 + 1 ≤ 2000 by decide)) (by decide) (by decide)).mono fun o ho => ?_
    obtain ⟨v, s1, rfl, h1, h2, hs1⟩ := ho
    repeat contradiction
    refine ⟨src_froz hs1, ?_⟩
    repeat contradiction
    obtain ⟨n, hn⟩ : ∃ n : Nat, (1 : Int) + v = n := ⟨(1 + v).toNat, by omega⟩
    rw [hn]
    refine (rules_ok (k := 1299) hs1 (by omega) (by omega) (by decide) (by decide)).mono fun o ho => ?_
    obtain ⟨rs, s2, rfl, hR, hl, hs2⟩ := ho
    have hn1 : 1 ≤ n := by omega
    have hn8 : n ≤ 8 := by omega
    repeat contradiction
    refine ⟨src_froz hs2, ?_⟩
    repeat contradiction
    refine (times_ok (k := 1200) (n := n) (hs2.mono (by omega)) hn8).mono fun o ho => ?_
    obtain ⟨ts, s3, rfl, ht, hf, hs3⟩ := ho
    repeat contradiction
    refine ⟨src_froz hs3, ?_⟩
    repeat contradiction
    refine (limits_ok (k := 1100) (n := n) (hs3.mono (by omega)) hn8).mono fun o ho => ?_
    obtain ⟨bs, s4, rfl, hb1, hb2, hs4⟩ := ho
    repeat contradiction
    refine ⟨src_froz hs4, ?_⟩
    repeat contradiction
    refine (latest_ok hR hn1 hn8 hb1 hb2).mono fun o ho => ?_
    obtain ⟨xs, rfl, hx1, hx2⟩ := ho
    repeat contradiction
    refine (no_times_ok (k := 1000) (hs4.mono (by omega)) hn1 hn8).mono fun o ho => ?_
    obtain ⟨d3, s5, rfl, hd3, hs5⟩ := ho
    repeat contradiction
    refine ⟨src_froz hs5, ?_⟩
    repeat contradiction
    have at0 := ats_far hf ht hn8
    have at1 := ats_low hx2 hx1 hn8
    refine gx_for (I := fun j ρ => ∃ (s : List D) (rest : List D) (x6 : Option (Bool × D)), ρ = [some (false, .list (ns.map PyData.int)), some (false, .int i), some (true, .list s), some (false, .tuple [.int n, .tuple (rs.map ruleD)]), some (false, .tuple (IntsD ts)), some (true, .list (.tuple (IntsD ts) :: .tuple (OptsD xs) :: rest)), x6, x7] ∧ Src (1000 - 10 * j) s ∧ j ≤ 6 ∧ rest.length ≤ 1 + j ∧ (∀ d ∈ rest, Ok6 d) ∧ Pl x6) ?_
    repeat contradiction
    refine ⟨⟨by decide, by decide⟩, rfl, ⟨s5, [d3], x6, rfl, hs5, by decide, Nat.le_refl _, fun d hd => by rw [List.mem_singleton] at hd; rw [hd]; exact ok6_okB hd3, hp6⟩, fun j d ρ1 hd hI => ?_, fun ρ1 hI => ?_⟩
    · obtain ⟨s, rest, y6, rfl, hs, hj, hrl, hro, hpy⟩ := hI
      obtain ⟨hj2, rfl⟩ := upTo_at hd
      have hj2 : j < 6 := hj2
      repeat contradiction
      refine (draw_ok (k := 1000 - 10 * j - 1) (hs.mono (by omega)) (by decide) (by decide)).mono fun o ho => ?_
      obtain ⟨u, s6, rfl, h3, h4, hs6⟩ := ho
      repeat contradiction
      refine ⟨src_froz hs6, ?_⟩
      repeat contradiction
      have fin : ∀ (us : List D), Ats 8 us → Gv ((F_law_bent 6).fn [.list s6, .tuple us, .int 2]) fun o => ∃ (d : D) (s' : List D), o = ((false, d), .list s') ∧ Ok6 d ∧ Src (1000 - 10 * (j + 1)) s' := fun us hu => bent_ok (m := 4) (hs6.mono (by omega)) hu
      have app : ∀ (d : D) (s' : List D), Ok6 d → Src (1000 - 10 * (j + 1)) s' → ∃ (s : List D) (rest2 : List D) (x6 : Option (Bool × D)), [some (false, PyData.list (ns.map PyData.int)), some (false, .int i), some (true, .list s'), some (false, .tuple [.int n, .tuple (rs.map ruleD)]), some (false, .tuple (IntsD ts)), some (true, .list (.tuple (IntsD ts) :: .tuple (OptsD xs) :: rest ++ [d])), some (false, .int j), x7] = [some (false, .list (ns.map PyData.int)), some (false, .int i), some (true, .list s), some (false, .tuple [.int n, .tuple (rs.map ruleD)]), some (false, .tuple (IntsD ts)), some (true, .list (.tuple (IntsD ts) :: .tuple (OptsD xs) :: rest2)), x6, x7] ∧ Src (1000 - 10 * (j + 1)) s ∧ j + 1 ≤ 6 ∧ rest2.length ≤ 1 + (j + 1) ∧ (∀ d ∈ rest2, Ok6 d) ∧ Pl x6 := fun d s' hd2 hs' =>
        ⟨s', rest ++ [d], _, rfl, hs', by omega, by rw [List.length_append, List.length_singleton]; omega, fun e he => (List.mem_append.mp he).elim (hro e) fun z => by rw [List.mem_singleton] at z; rw [z]; exact hd2, .inr ⟨_, rfl⟩⟩
      have lenok : (PyData.tuple (IntsD ts) :: PyData.tuple (OptsD xs) :: rest).length < sizeLine := Nat.lt_of_le_of_lt (show _ ≤ 20 by simp only [List.length_cons]; omega) (Nat.lt_of_lt_of_le (by decide) (Nat.le_of_ble_eq_true (show Nat.ble 21 sizeLine = true from rfl)))
      have : u = 0 ∨ u = 1 := by omega
      rcases this with rfl | rfl
      · refine gi_ix (y := .tuple (IntsD ts)) (by decide) (by simp only [List.length_cons]; omega) rfl ?_
        repeat contradiction
        refine (fin _ at0).mono fun o ho => ?_
        obtain ⟨d, s7, rfl, hd2, hs7⟩ := ho
        repeat contradiction
        refine ⟨src_froz hs7, ?_⟩
        repeat contradiction
        refine g_append lenok ?_
        repeat contradiction
        exact app d s7 hd2 hs7
      · refine gi_ix (y := .tuple (OptsD xs)) (by decide) (by simp only [List.length_cons]; omega) rfl ?_
        repeat contradiction
        refine (fin _ at1).mono fun o ho => ?_
        obtain ⟨d, s7, rfl, hd2, hs7⟩ := ho
        repeat contradiction
        refine ⟨src_froz hs7, ?_⟩
        repeat contradiction
        refine g_append lenok ?_
        repeat contradiction
        exact app d s7 hd2 hs7
    · obtain ⟨s, rest, y6, rfl, hs, hj, hrl, hro, hpy⟩ := hI
      have hs : Src 900 s := hs.mono (by omega)
      have hj : (Ev.upTo (6 : Int).toNat).length = 6 := rfl
      have hrl : rest.length ≤ 7 := hrl
      have fin : ∀ (y6 : Option (Bool × D)), Pl y6 → Gv (evI G_law (.seq (.op .add (.var 5) (.comp [6] (.name 6) (.rng (.int 4)) .nil (.callm "_law_odd" 2 .nil)))) [some (false, .list (ns.map PyData.int)), some (false, .int i), some (true, .list s), some (false, .tuple [.int n, .tuple (rs.map ruleD)]), some (false, .tuple (IntsD ts)), some (true, .list (.tuple (IntsD ts) :: .tuple (OptsD xs) :: rest)), y6, x7]) fun p => (∀ d ∈ p.1, Ok6 d) ∧ ∃ s', p.2 = [some (false, .list (ns.map PyData.int)), some (false, .int i), some (true, .list s'), some (false, .tuple [.int n, .tuple (rs.map ruleD)]), some (false, .tuple (IntsD ts)), some (true, .list (.tuple (IntsD ts) :: .tuple (OptsD xs) :: rest)), y6, x7] := fun y6 hy => by
        repeat contradiction
        refine gv_comp (I := fun i2 acc ρ => ∃ (s3 : List D), ρ = [some (false, .list (ns.map PyData.int)), some (false, .int i), some (true, .list s3), some (false, .tuple [.int n, .tuple (rs.map ruleD)]), some (false, .tuple (IntsD ts)), some (true, .list (.tuple (IntsD ts) :: .tuple (OptsD xs) :: rest)), none, x7] ∧ (∀ d ∈ acc, Ok6 d) ∧ acc.length = i2 ∧ i2 ≤ 4 ∧ Src (900 - 2 * i2) s3) ?_
        repeat contradiction
        refine ⟨⟨by decide, by decide⟩, ?_⟩
        refine ⟨?_, ⟨s, rfl, fun d hd => absurd hd List.not_mem_nil, rfl, by decide, hs⟩, fun i2 d acc ρ1 hd hI => ?_, fun acc ρ1 hI => ?_⟩
        · rcases hy with rfl | ⟨e, rfl⟩ <;> rfl
        · obtain ⟨s3, rfl, ha1, ha2, ha3, hs3⟩ := hI
          obtain ⟨hi3, rfl⟩ := upTo_at hd
          have hi3 : i2 < 4 := hi3
          repeat contradiction
          refine (odd_ok (k := 900 - 2 * (i2 + 1)) (hs3.mono (by omega))).mono fun o ho => ?_
          obtain ⟨d, s4, rfl, hd4, hs4⟩ := ho
          repeat contradiction
          refine ⟨src_froz hs4, ?_⟩
          repeat contradiction
          refine ⟨s4, rfl, fun e he => (List.mem_append.mp he).elim (ha1 e) fun z => by rw [List.mem_singleton] at z; rw [z]; exact ok6_okB hd4, by rw [List.length_append, List.length_singleton, ha2], by omega, hs4⟩
        · obtain ⟨s3, rfl, ha1, ha2, ha3, hs3⟩ := hI
          have ha2 : acc.length = 4 := ha2
          repeat contradiction
          refine g_catL (small_sum (b := 30) (by simp only [List.length_cons]; omega) (by decide)) ?_
          repeat contradiction
          refine ⟨fun d hd => ?_, s3, rfl⟩
          rcases List.mem_append.mp hd with z | z
          · rcases List.mem_cons.mp z with z | z
            · rw [z]; exact ok6_ats at0
            · rcases List.mem_cons.mp z with z | z
              · rw [z]; exact ok6_ats at1
              · exact hro d z
          · exact ha1 d z
      refine gx_cons.mpr ?_
      refine gx_for (I := fun j ρ => ∃ (s : List D) (rest : List D) (x6 x7 : Option (Bool × D)), ρ = [some (false, .list (ns.map PyData.int)), some (false, .int i), some (true, .list s), some (false, .tuple [.int n, .tuple (rs.map ruleD)]), some (false, .tuple (IntsD ts)), some (true, .list rest), x6, x7] ∧ Pl x6) ?_
      refine (fin y6 hpy).mono fun p hp => ?_
      obtain ⟨hok, s', e⟩ := hp
      obtain ⟨ds, ρ3⟩ := p
      dsimp only at e hok
      subst e
      refine ⟨rfl, ⟨s', _, y6, x7, rfl, hpy⟩, fun j d ρ1 hd hI => ?_, fun ρ1 hI => ?_⟩
      · obtain ⟨s, rest, y6, y7, rfl, hpy⟩ := hI
        have hd2 : Ok6 d := hok d (List.mem_of_getElem? hd)
        repeat contradiction
        refine (judged_ok hR hn1 hn8 hl hd2).mono fun o ho => ?_
        have ho : o = ((false, .bool true), .none) := ho
        subst ho
        repeat contradiction
        refine ⟨fun z => (by cases z), fun _ => ?_⟩
        repeat contradiction
        exact ⟨s, rest, y6, _, rfl, hpy⟩
      · obtain ⟨s, rest, y6, y7, rfl, hpy⟩ := hI
        repeat contradiction
        exact ⟨_, _, _, _, _, _, _, rfl, hpy⟩
  · obtain ⟨x1, x2, x3, x4, x5, x6, x7, rfl, hp6⟩ := hI
    repeat contradiction

end K
open PySem PySem.W PyProof.Rows
set_option maxRecDepth 100000 in
set_option maxHeartbeats 0 in
theorem PySem.Challenge.cw_latestof_k07_times_and_solutions_recogni_holds : PySem.Challenge.rw_latestof_k07_times_and_solutions_recogni.Holds := by
  w_on; o_law; k_head; (case hw => w_witness2)
  k_fill
  refine Ev.walk_end (l := PySem.Challenge.rw_latestof_k07_times_and_solutions_recogni) (n := 63) (k := 13) (x := "script") (z := "law") (st := K.stm 52) rfl (by decide) rfl rfl ⟨rfl, by decide, by decide⟩
    K.s_law K.n_law K.c_law K.law_yes (fun w h Y => PySem.W.kIn_of Y) ?F
  intro w mg h KX Gh
  have h_is_integer : Ev.Has (L2.KOf KX) mg "is_integer" (K.stm 1) := by
    refine' Ev.has_mk KX Gh ?a ?l ?c ?k
    (case a => dsimp only [L2.KOf]; k_is); (case l => dsimp only [L2.KOf]; k_is); (case c => dsimp only [L2.KOf]; k_is); (case k => dsimp only [L2.KOf]; k_is)
  have h_is_within : Ev.Has (L2.KOf KX) mg "is_within" (K.stm 2) := by
    refine' Ev.has_mk KX Gh ?a ?l ?c ?k
    (case a => dsimp only [L2.KOf]; k_is); (case l => dsimp only [L2.KOf]; k_is); (case c => dsimp only [L2.KOf]; k_is); (case k => dsimp only [L2.KOf]; k_is)
  have h_is_index : Ev.Has (L2.KOf KX) mg "is_index" (K.stm 3) := by
    refine' Ev.has_mk KX Gh ?a ?l ?c ?k
    (case a => dsimp only [L2.KOf]; k_is); (case l => dsimp only [L2.KOf]; k_is); (case c => dsimp only [L2.KOf]; k_is); (case k => dsimp only [L2.KOf]; k_is)
  have h_is_tuple_of : Ev.Has (L2.KOf KX) mg "is_tuple_of" (K.stm 4) := by
    refine' Ev.has_mk KX Gh ?a ?l ?c ?k
    (case a => dsimp only [L2.KOf]; k_is); (case l => dsimp only [L2.KOf]; k_is); (case c => dsimp only [L2.KOf]; k_is); (case k => dsimp only [L2.KOf]; k_is)
  have h_ascends : Ev.Has (L2.KOf KX) mg "ascends" (K.stm 5) := by
    refine' Ev.has_mk KX Gh ?a ?l ?c ?k
    (case a => dsimp only [L2.KOf]; k_is); (case l => dsimp only [L2.KOf]; k_is); (case c => dsimp only [L2.KOf]; k_is); (case k => dsimp only [L2.KOf]; k_is)
  have h_greatest_sum : Ev.Has (L2.KOf KX) mg "greatest_sum" (K.stm 11) := by
    refine' Ev.has_mk KX Gh ?a ?l ?c ?k
    (case a => dsimp only [L2.KOf]; k_is); (case l => dsimp only [L2.KOf]; k_is); (case c => dsimp only [L2.KOf]; k_is); (case k => dsimp only [L2.KOf]; k_is)
  have h_holds : Ev.Has (L2.KOf KX) mg "holds" (K.stm 12) := by
    refine' Ev.has_mk KX Gh ?a ?l ?c ?k
    (case a => dsimp only [L2.KOf]; k_is); (case l => dsimp only [L2.KOf]; k_is); (case c => dsimp only [L2.KOf]; k_is); (case k => dsimp only [L2.KOf]; k_is)
  have h_fulfils : Ev.Has (L2.KOf KX) mg "fulfils" (K.stm 13) := by
    refine' Ev.has_mk KX Gh ?a ?l ?c ?k
    (case a => dsimp only [L2.KOf]; k_is); (case l => dsimp only [L2.KOf]; k_is); (case c => dsimp only [L2.KOf]; k_is); (case k => dsimp only [L2.KOf]; k_is)
  have h_is_size : Ev.Has (L2.KOf KX) mg "is_size" (K.stm 18) := by
    refine' Ev.has_mk KX Gh ?a ?l ?c ?k
    (case a => dsimp only [L2.KOf]; k_is); (case l => dsimp only [L2.KOf]; k_is); (case c => dsimp only [L2.KOf]; k_is); (case k => dsimp only [L2.KOf]; k_is)
  have h_is_delay : Ev.Has (L2.KOf KX) mg "is_delay" (K.stm 19) := by
    refine' Ev.has_mk KX Gh ?a ?l ?c ?k
    (case a => dsimp only [L2.KOf]; k_is); (case l => dsimp only [L2.KOf]; k_is); (case c => dsimp only [L2.KOf]; k_is); (case k => dsimp only [L2.KOf]; k_is)
  have h_check_size : Ev.Has (L2.KOf KX) mg "check_size" (K.stm 20) := by
    refine' Ev.has_mk KX Gh ?a ?l ?c ?k
    (case a => dsimp only [L2.KOf]; k_is); (case l => dsimp only [L2.KOf]; k_is); (case c => dsimp only [L2.KOf]; k_is); (case k => dsimp only [L2.KOf]; k_is)
  have h_has_delays : Ev.Has (L2.KOf KX) mg "_has_delays" (K.stm 27) := by
    refine' Ev.has_mk KX Gh ?a ?l ?c ?k
    (case a => dsimp only [L2.KOf]; k_is); (case l => dsimp only [L2.KOf]; k_is); (case c => dsimp only [L2.KOf]; k_is); (case k => dsimp only [L2.KOf]; k_is)
  have h_is_loose_term : Ev.Has (L2.KOf KX) mg "_is_loose_term" (K.stm 26) := by
    refine' Ev.has_mk KX Gh ?a ?l ?c ?k
    (case a => dsimp only [L2.KOf]; k_is); (case l => dsimp only [L2.KOf]; k_is); (case c => dsimp only [L2.KOf]; k_is); (case k => dsimp only [L2.KOf]; k_is)
  have h_is_unordered_rule : Ev.Has (L2.KOf KX) mg "_is_unordered_rule" (K.stm 25) := by
    refine' Ev.has_mk KX Gh ?a ?l ?c ?k
    (case a => dsimp only [L2.KOf]; k_is); (case l => dsimp only [L2.KOf]; k_is); (case c => dsimp only [L2.KOf]; k_is); (case k => dsimp only [L2.KOf]; k_is)
  have h_is_loose_rule : Ev.Has (L2.KOf KX) mg "is_loose_rule" (K.stm 23) := by
    refine' Ev.has_mk KX Gh ?a ?l ?c ?k
    (case a => dsimp only [L2.KOf]; k_is); (case l => dsimp only [L2.KOf]; k_is); (case c => dsimp only [L2.KOf]; k_is); (case k => dsimp only [L2.KOf]; k_is)
  have h_is_rule : Ev.Has (L2.KOf KX) mg "is_rule" (K.stm 22) := by
    refine' Ev.has_mk KX Gh ?a ?l ?c ?k
    (case a => dsimp only [L2.KOf]; k_is); (case l => dsimp only [L2.KOf]; k_is); (case c => dsimp only [L2.KOf]; k_is); (case k => dsimp only [L2.KOf]; k_is)
  have h_is_rule_set : Ev.Has (L2.KOf KX) mg "is_rule_set" (K.stm 24) := by
    refine' Ev.has_mk KX Gh ?a ?l ?c ?k
    (case a => dsimp only [L2.KOf]; k_is); (case l => dsimp only [L2.KOf]; k_is); (case c => dsimp only [L2.KOf]; k_is); (case k => dsimp only [L2.KOf]; k_is)
  have h_check_rules : Ev.Has (L2.KOf KX) mg "check_rules" (K.stm 21) := by
    refine' Ev.has_mk KX Gh ?a ?l ?c ?k
    (case a => dsimp only [L2.KOf]; k_is); (case l => dsimp only [L2.KOf]; k_is); (case c => dsimp only [L2.KOf]; k_is); (case k => dsimp only [L2.KOf]; k_is)
  have h_is_times : Ev.Has (L2.KOf KX) mg "is_times" (K.stm 29) := by
    refine' Ev.has_mk KX Gh ?a ?l ?c ?k
    (case a => dsimp only [L2.KOf]; k_is); (case l => dsimp only [L2.KOf]; k_is); (case c => dsimp only [L2.KOf]; k_is); (case k => dsimp only [L2.KOf]; k_is)
  have h_is_solution : Ev.Has (L2.KOf KX) mg "is_solution" (K.stm 30) := by
    refine' Ev.has_mk KX Gh ?a ?l ?c ?k
    (case a => dsimp only [L2.KOf]; k_is); (case l => dsimp only [L2.KOf]; k_is); (case c => dsimp only [L2.KOf]; k_is); (case k => dsimp only [L2.KOf]; k_is)
  have h_law_source : Ev.Has (L2.KOf KX) mg "_law_source" (K.stm 32) := by
    refine' Ev.has_mk KX Gh ?a ?l ?c ?k
    (case a => dsimp only [L2.KOf]; k_is); (case l => dsimp only [L2.KOf]; k_is); (case c => dsimp only [L2.KOf]; k_is); (case k => dsimp only [L2.KOf]; k_is)
  have h_law_draw : Ev.Has (L2.KOf KX) mg "_law_draw" (K.stm 33) := by
    refine' Ev.has_mk KX Gh ?a ?l ?c ?k
    (case a => dsimp only [L2.KOf]; k_is); (case l => dsimp only [L2.KOf]; k_is); (case c => dsimp only [L2.KOf]; k_is); (case k => dsimp only [L2.KOf]; k_is)
  have h_law_delay : Ev.Has (L2.KOf KX) mg "_law_delay" (K.stm 34) := by
    refine' Ev.has_mk KX Gh ?a ?l ?c ?k
    (case a => dsimp only [L2.KOf]; k_is); (case l => dsimp only [L2.KOf]; k_is); (case c => dsimp only [L2.KOf]; k_is); (case k => dsimp only [L2.KOf]; k_is)
  have h_law_terms : Ev.Has (L2.KOf KX) mg "_law_terms" (K.stm 35) := by
    refine' Ev.has_mk KX Gh ?a ?l ?c ?k
    (case a => dsimp only [L2.KOf]; k_is); (case l => dsimp only [L2.KOf]; k_is); (case c => dsimp only [L2.KOf]; k_is); (case k => dsimp only [L2.KOf]; k_is)
  have h_law_ring : Ev.Has (L2.KOf KX) mg "_law_ring" (K.stm 36) := by
    refine' Ev.has_mk KX Gh ?a ?l ?c ?k
    (case a => dsimp only [L2.KOf]; k_is); (case l => dsimp only [L2.KOf]; k_is); (case c => dsimp only [L2.KOf]; k_is); (case k => dsimp only [L2.KOf]; k_is)
  have h_law_widened : Ev.Has (L2.KOf KX) mg "_law_widened" (K.stm 37) := by
    refine' Ev.has_mk KX Gh ?a ?l ?c ?k
    (case a => dsimp only [L2.KOf]; k_is); (case l => dsimp only [L2.KOf]; k_is); (case c => dsimp only [L2.KOf]; k_is); (case k => dsimp only [L2.KOf]; k_is)
  have h_law_rules : Ev.Has (L2.KOf KX) mg "_law_rules" (K.stm 38) := by
    refine' Ev.has_mk KX Gh ?a ?l ?c ?k
    (case a => dsimp only [L2.KOf]; k_is); (case l => dsimp only [L2.KOf]; k_is); (case c => dsimp only [L2.KOf]; k_is); (case k => dsimp only [L2.KOf]; k_is)
  have h_law_times : Ev.Has (L2.KOf KX) mg "_law_times" (K.stm 39) := by
    refine' Ev.has_mk KX Gh ?a ?l ?c ?k
    (case a => dsimp only [L2.KOf]; k_is); (case l => dsimp only [L2.KOf]; k_is); (case c => dsimp only [L2.KOf]; k_is); (case k => dsimp only [L2.KOf]; k_is)
  have h_law_limits : Ev.Has (L2.KOf KX) mg "_law_limits" (K.stm 40) := by
    refine' Ev.has_mk KX Gh ?a ?l ?c ?k
    (case a => dsimp only [L2.KOf]; k_is); (case l => dsimp only [L2.KOf]; k_is); (case c => dsimp only [L2.KOf]; k_is); (case k => dsimp only [L2.KOf]; k_is)
  have h_law_side : Ev.Has (L2.KOf KX) mg "_law_side" (K.stm 41) := by
    refine' Ev.has_mk KX Gh ?a ?l ?c ?k
    (case a => dsimp only [L2.KOf]; k_is); (case l => dsimp only [L2.KOf]; k_is); (case c => dsimp only [L2.KOf]; k_is); (case k => dsimp only [L2.KOf]; k_is)
  have h_law_holds : Ev.Has (L2.KOf KX) mg "_law_holds" (K.stm 42) := by
    refine' Ev.has_mk KX Gh ?a ?l ?c ?k
    (case a => dsimp only [L2.KOf]; k_is); (case l => dsimp only [L2.KOf]; k_is); (case c => dsimp only [L2.KOf]; k_is); (case k => dsimp only [L2.KOf]; k_is)
  have h_law_solves : Ev.Has (L2.KOf KX) mg "_law_solves" (K.stm 43) := by
    refine' Ev.has_mk KX Gh ?a ?l ?c ?k
    (case a => dsimp only [L2.KOf]; k_is); (case l => dsimp only [L2.KOf]; k_is); (case c => dsimp only [L2.KOf]; k_is); (case k => dsimp only [L2.KOf]; k_is)
  have h_law_span : Ev.Has (L2.KOf KX) mg "_law_span" (K.stm 44) := by
    refine' Ev.has_mk KX Gh ?a ?l ?c ?k
    (case a => dsimp only [L2.KOf]; k_is); (case l => dsimp only [L2.KOf]; k_is); (case c => dsimp only [L2.KOf]; k_is); (case k => dsimp only [L2.KOf]; k_is)
  have h_law_latest : Ev.Has (L2.KOf KX) mg "_law_latest" (K.stm 45) := by
    refine' Ev.has_mk KX Gh ?a ?l ?c ?k
    (case a => dsimp only [L2.KOf]; k_is); (case l => dsimp only [L2.KOf]; k_is); (case c => dsimp only [L2.KOf]; k_is); (case k => dsimp only [L2.KOf]; k_is)
  have h_law_whole : Ev.Has (L2.KOf KX) mg "_law_whole" (K.stm 46) := by
    refine' Ev.has_mk KX Gh ?a ?l ?c ?k
    (case a => dsimp only [L2.KOf]; k_is); (case l => dsimp only [L2.KOf]; k_is); (case c => dsimp only [L2.KOf]; k_is); (case k => dsimp only [L2.KOf]; k_is)
  have h_law_odd : Ev.Has (L2.KOf KX) mg "_law_odd" (K.stm 47) := by
    refine' Ev.has_mk KX Gh ?a ?l ?c ?k
    (case a => dsimp only [L2.KOf]; k_is); (case l => dsimp only [L2.KOf]; k_is); (case c => dsimp only [L2.KOf]; k_is); (case k => dsimp only [L2.KOf]; k_is)
  have h_law_bent : Ev.Has (L2.KOf KX) mg "_law_bent" (K.stm 48) := by
    refine' Ev.has_mk KX Gh ?a ?l ?c ?k
    (case a => dsimp only [L2.KOf]; k_is); (case l => dsimp only [L2.KOf]; k_is); (case c => dsimp only [L2.KOf]; k_is); (case k => dsimp only [L2.KOf]; k_is)
  have h_law_no_times : Ev.Has (L2.KOf KX) mg "_law_no_times" (K.stm 49) := by
    refine' Ev.has_mk KX Gh ?a ?l ?c ?k
    (case a => dsimp only [L2.KOf]; k_is); (case l => dsimp only [L2.KOf]; k_is); (case c => dsimp only [L2.KOf]; k_is); (case k => dsimp only [L2.KOf]; k_is)
  have h_law_is_times : Ev.Has (L2.KOf KX) mg "_law_is_times" (K.stm 50) := by
    refine' Ev.has_mk KX Gh ?a ?l ?c ?k
    (case a => dsimp only [L2.KOf]; k_is); (case l => dsimp only [L2.KOf]; k_is); (case c => dsimp only [L2.KOf]; k_is); (case k => dsimp only [L2.KOf]; k_is)
  have h_law_judged : Ev.Has (L2.KOf KX) mg "_law_judged" (K.stm 51) := by
    refine' Ev.has_mk KX Gh ?a ?l ?c ?k
    (case a => dsimp only [L2.KOf]; k_is); (case l => dsimp only [L2.KOf]; k_is); (case c => dsimp only [L2.KOf]; k_is); (case k => dsimp only [L2.KOf]; k_is)
  have h_law : Ev.Has (L2.KOf KX) mg "law" (K.stm 52) := by
    refine' Ev.has_mk KX Gh ?a ?l ?c ?k
    (case a => dsimp only [L2.KOf]; k_is); (case l => dsimp only [L2.KOf]; k_is); (case c => dsimp only [L2.KOf]; k_is); (case k => dsimp only [L2.KOf]; k_is)
  have cs : ∀ p ∈ K.csts, ∃ t, mg p.1 = some (.int p.2 t) := by
    refine' (Ev.c1 KX Gh ?a0 (Ev.c1 KX Gh ?a1 (Ev.c1 KX Gh ?a2 Ev.c0)))
    (case a0 => k_is)
    (case a1 => k_is)
    (case a2 => k_is)
  have bs : ∀ x ∈ K.blts, mg x = none := by
    refine' (Ev.z1 KX Gh ?a0 (Ev.z1 KX Gh ?a1 (Ev.z1 KX Gh ?a2 (Ev.z1 KX Gh ?a3 (Ev.z1 KX Gh ?a4 (Ev.z1 KX Gh ?a5 (Ev.z1 KX Gh ?a6 (Ev.z1 KX Gh ?a7 (Ev.z1 KX Gh ?a8 (Ev.z1 KX Gh ?a9 (Ev.z1 KX Gh ?a10 (Ev.z1 KX Gh ?a11 (Ev.z1 KX Gh ?a12 (Ev.z1 KX Gh ?a13 (Ev.z1 KX Gh ?a14 (Ev.z1 KX Gh ?a15 (Ev.z1 KX Gh ?a16 Ev.z0)))))))))))))))))
    (case a0 => k_is)
    (case a1 => k_is)
    (case a2 => k_is)
    (case a3 => k_is)
    (case a4 => k_is)
    (case a5 => k_is)
    (case a6 => k_is)
    (case a7 => k_is)
    (case a8 => k_is)
    (case a9 => k_is)
    (case a10 => k_is)
    (case a11 => k_is)
    (case a12 => k_is)
    (case a13 => k_is)
    (case a14 => k_is)
    (case a15 => k_is)
    (case a16 => k_is)
  have d_is_integer : ∀ (base : PySem.Heap) (K2 : PySem.W.Frag), Ev.Cuts (L2.KOf KX) K2 → Ev.Dcl PySem.Challenge.rw_latestof_k07_times_and_solutions_recogni.prog w K2 mg base 1 "is_integer" K.F_is_integer :=
    fun base => Ev.dcl_of h_is_integer K.s_is_integer K.n_is_integer K.c_is_integer fun K2 c => Ev.good_of Ev.all0 cs bs
  have d_is_within : ∀ (base : PySem.Heap) (K2 : PySem.W.Frag), Ev.Cuts (L2.KOf KX) K2 → Ev.Dcl PySem.Challenge.rw_latestof_k07_times_and_solutions_recogni.prog w K2 mg base 2 "is_within" K.F_is_within :=
    fun base => Ev.dcl_of h_is_within K.s_is_within K.n_is_within K.c_is_within fun K2 c => Ev.good_of (Ev.all1 (d_is_integer base K2 c) (by decide) Ev.all0) cs bs
  have d_is_index : ∀ (base : PySem.Heap) (K2 : PySem.W.Frag), Ev.Cuts (L2.KOf KX) K2 → Ev.Dcl PySem.Challenge.rw_latestof_k07_times_and_solutions_recogni.prog w K2 mg base 3 "is_index" K.F_is_index :=
    fun base => Ev.dcl_of h_is_index K.s_is_index K.n_is_index K.c_is_index fun K2 c => Ev.good_of (Ev.all1 (d_is_within base K2 c) (by decide) Ev.all0) cs bs
  have d_is_tuple_of : ∀ (base : PySem.Heap) (K2 : PySem.W.Frag), Ev.Cuts (L2.KOf KX) K2 → Ev.Dcl PySem.Challenge.rw_latestof_k07_times_and_solutions_recogni.prog w K2 mg base 1 "is_tuple_of" K.F_is_tuple_of :=
    fun base => Ev.dcl_of h_is_tuple_of K.s_is_tuple_of K.n_is_tuple_of K.c_is_tuple_of fun K2 c => Ev.good_of Ev.all0 cs bs
  have d_ascends : ∀ (base : PySem.Heap) (K2 : PySem.W.Frag), Ev.Cuts (L2.KOf KX) K2 → Ev.Dcl PySem.Challenge.rw_latestof_k07_times_and_solutions_recogni.prog w K2 mg base 1 "ascends" K.F_ascends :=
    fun base => Ev.dcl_of h_ascends K.s_ascends K.n_ascends K.c_ascends fun K2 c => Ev.good_of Ev.all0 cs bs
  have d_greatest_sum : ∀ (base : PySem.Heap) (K2 : PySem.W.Frag), Ev.Cuts (L2.KOf KX) K2 → Ev.Dcl PySem.Challenge.rw_latestof_k07_times_and_solutions_recogni.prog w K2 mg base 1 "greatest_sum" K.F_greatest_sum :=
    fun base => Ev.dcl_of h_greatest_sum K.s_greatest_sum K.n_greatest_sum K.c_greatest_sum fun K2 c => Ev.good_of Ev.all0 cs bs
  have d_holds : ∀ (base : PySem.Heap) (K2 : PySem.W.Frag), Ev.Cuts (L2.KOf KX) K2 → Ev.Dcl PySem.Challenge.rw_latestof_k07_times_and_solutions_recogni.prog w K2 mg base 2 "holds" K.F_holds :=
    fun base => Ev.dcl_of h_holds K.s_holds K.n_holds K.c_holds fun K2 c => Ev.good_of (Ev.all1 (d_greatest_sum base K2 c) (by decide) Ev.all0) cs bs
  have d_fulfils : ∀ (base : PySem.Heap) (K2 : PySem.W.Frag), Ev.Cuts (L2.KOf KX) K2 → Ev.Dcl PySem.Challenge.rw_latestof_k07_times_and_solutions_recogni.prog w K2 mg base 3 "fulfils" K.F_fulfils :=
    fun base => Ev.dcl_of h_fulfils K.s_fulfils K.n_fulfils K.c_fulfils fun K2 c => Ev.good_of (Ev.all1 (d_holds base K2 c) (by decide) Ev.all0) cs bs
  have d_is_size : ∀ (base : PySem.Heap) (K2 : PySem.W.Frag), Ev.Cuts (L2.KOf KX) K2 → Ev.Dcl PySem.Challenge.rw_latestof_k07_times_and_solutions_recogni.prog w K2 mg base 3 "is_size" K.F_is_size :=
    fun base => Ev.dcl_of h_is_size K.s_is_size K.n_is_size K.c_is_size fun K2 c => Ev.good_of (Ev.all1 (d_is_within base K2 c) (by decide) Ev.all0) cs bs
  have d_is_delay : ∀ (base : PySem.Heap) (K2 : PySem.W.Frag), Ev.Cuts (L2.KOf KX) K2 → Ev.Dcl PySem.Challenge.rw_latestof_k07_times_and_solutions_recogni.prog w K2 mg base 3 "is_delay" K.F_is_delay :=
    fun base => Ev.dcl_of h_is_delay K.s_is_delay K.n_is_delay K.c_is_delay fun K2 c => Ev.good_of (Ev.all1 (d_is_within base K2 c) (by decide) Ev.all0) cs bs
  have d_check_size : ∀ (base : PySem.Heap) (K2 : PySem.W.Frag), Ev.Cuts (L2.KOf KX) K2 → Ev.Dcl PySem.Challenge.rw_latestof_k07_times_and_solutions_recogni.prog w K2 mg base 4 "check_size" K.F_check_size :=
    fun base => Ev.dcl_of h_check_size K.s_check_size K.n_check_size K.c_check_size fun K2 c => Ev.good_of (Ev.all1 (d_is_size base K2 c) (by decide) Ev.all0) cs bs
  have d_has_delays : ∀ (base : PySem.Heap) (K2 : PySem.W.Frag), Ev.Cuts (L2.KOf KX) K2 → Ev.Dcl PySem.Challenge.rw_latestof_k07_times_and_solutions_recogni.prog w K2 mg base 4 "_has_delays" K.F_has_delays :=
    fun base => Ev.dcl_of h_has_delays K.s_has_delays K.n_has_delays K.c_has_delays fun K2 c => Ev.good_of (Ev.all1 (d_is_delay base K2 c) (by decide) Ev.all0) cs bs
  have d_is_loose_term : ∀ (base : PySem.Heap) (K2 : PySem.W.Frag), Ev.Cuts (L2.KOf KX) K2 → Ev.Dcl PySem.Challenge.rw_latestof_k07_times_and_solutions_recogni.prog w K2 mg base 4 "_is_loose_term" K.F_is_loose_term :=
    fun base => Ev.dcl_of h_is_loose_term K.s_is_loose_term K.n_is_loose_term K.c_is_loose_term fun K2 c => Ev.good_of (Ev.all1 (d_is_integer base K2 c) (by decide) (Ev.all1 (d_is_index base K2 c) (by decide) (Ev.all1 (d_is_tuple_of base K2 c) (by decide) Ev.all0))) cs bs
  have d_is_unordered_rule : ∀ (base : PySem.Heap) (K2 : PySem.W.Frag), Ev.Cuts (L2.KOf KX) K2 → Ev.Dcl PySem.Challenge.rw_latestof_k07_times_and_solutions_recogni.prog w K2 mg base 5 "_is_unordered_rule" K.F_is_unordered_rule :=
    fun base => Ev.dcl_of h_is_unordered_rule K.s_is_unordered_rule K.n_is_unordered_rule K.c_is_unordered_rule fun K2 c => Ev.good_of (Ev.all1 (d_is_loose_term base K2 c) (by decide) (Ev.all1 (d_is_index base K2 c) (by decide) (Ev.all1 (d_is_tuple_of base K2 c) (by decide) Ev.all0))) cs bs
  have d_is_loose_rule : ∀ (base : PySem.Heap) (K2 : PySem.W.Frag), Ev.Cuts (L2.KOf KX) K2 → Ev.Dcl PySem.Challenge.rw_latestof_k07_times_and_solutions_recogni.prog w K2 mg base 6 "is_loose_rule" K.F_is_loose_rule :=
    fun base => Ev.dcl_of h_is_loose_rule K.s_is_loose_rule K.n_is_loose_rule K.c_is_loose_rule fun K2 c => Ev.good_of (Ev.all1 (d_ascends base K2 c) (by decide) (Ev.all1 (d_is_unordered_rule base K2 c) (by decide) Ev.all0)) cs bs
  have d_is_rule : ∀ (base : PySem.Heap) (K2 : PySem.W.Frag), Ev.Cuts (L2.KOf KX) K2 → Ev.Dcl PySem.Challenge.rw_latestof_k07_times_and_solutions_recogni.prog w K2 mg base 7 "is_rule" K.F_is_rule :=
    fun base => Ev.dcl_of h_is_rule K.s_is_rule K.n_is_rule K.c_is_rule fun K2 c => Ev.good_of (Ev.all1 (d_has_delays base K2 c) (by decide) (Ev.all1 (d_is_loose_rule base K2 c) (by decide) (Ev.all1 (d_check_size base K2 c) (by decide) Ev.all0))) cs bs
  have d_is_rule_set : ∀ (base : PySem.Heap) (K2 : PySem.W.Frag), Ev.Cuts (L2.KOf KX) K2 → Ev.Dcl PySem.Challenge.rw_latestof_k07_times_and_solutions_recogni.prog w K2 mg base 8 "is_rule_set" K.F_is_rule_set :=
    fun base => Ev.dcl_of h_is_rule_set K.s_is_rule_set K.n_is_rule_set K.c_is_rule_set fun K2 c => Ev.good_of (Ev.all1 (d_is_rule base K2 c) (by decide) (Ev.all1 (d_is_size base K2 c) (by decide) (Ev.all1 (d_is_tuple_of base K2 c) (by decide) Ev.all0))) cs bs
  have d_check_rules : ∀ (base : PySem.Heap) (K2 : PySem.W.Frag), Ev.Cuts (L2.KOf KX) K2 → Ev.Dcl PySem.Challenge.rw_latestof_k07_times_and_solutions_recogni.prog w K2 mg base 9 "check_rules" K.F_check_rules :=
    fun base => Ev.dcl_of h_check_rules K.s_check_rules K.n_check_rules K.c_check_rules fun K2 c => Ev.good_of (Ev.all1 (d_is_rule_set base K2 c) (by decide) Ev.all0) cs bs
  have d_is_times : ∀ (base : PySem.Heap) (K2 : PySem.W.Frag), Ev.Cuts (L2.KOf KX) K2 → Ev.Dcl PySem.Challenge.rw_latestof_k07_times_and_solutions_recogni.prog w K2 mg base 5 "is_times" K.F_is_times :=
    fun base => Ev.dcl_of h_is_times K.s_is_times K.n_is_times K.c_is_times fun K2 c => Ev.good_of (Ev.all1 (d_is_integer base K2 c) (by decide) (Ev.all1 (d_is_tuple_of base K2 c) (by decide) (Ev.all1 (d_check_size base K2 c) (by decide) Ev.all0))) cs bs
  have d_is_solution : ∀ (base : PySem.Heap) (K2 : PySem.W.Frag), Ev.Cuts (L2.KOf KX) K2 → Ev.Dcl PySem.Challenge.rw_latestof_k07_times_and_solutions_recogni.prog w K2 mg base 10 "is_solution" K.F_is_solution :=
    fun base => Ev.dcl_of h_is_solution K.s_is_solution K.n_is_solution K.c_is_solution fun K2 c => Ev.good_of (Ev.all1 (d_fulfils base K2 c) (by decide) (Ev.all1 (d_is_times base K2 c) (by decide) (Ev.all1 (d_check_rules base K2 c) (by decide) Ev.all0))) cs bs
  have d_law_source : ∀ (base : PySem.Heap) (K2 : PySem.W.Frag), Ev.Cuts (L2.KOf KX) K2 → Ev.Dcl PySem.Challenge.rw_latestof_k07_times_and_solutions_recogni.prog w K2 mg base 1 "_law_source" K.F_law_source :=
    fun base => Ev.dcl_of h_law_source K.s_law_source K.n_law_source K.c_law_source fun K2 c => Ev.good_of Ev.all0 cs bs
  have d_law_draw : ∀ (base : PySem.Heap) (K2 : PySem.W.Frag), Ev.Cuts (L2.KOf KX) K2 → Ev.Dcl PySem.Challenge.rw_latestof_k07_times_and_solutions_recogni.prog w K2 mg base 1 "_law_draw" K.F_law_draw :=
    fun base => Ev.dcl_of h_law_draw K.s_law_draw K.n_law_draw K.c_law_draw fun K2 c => Ev.good_of Ev.all0 cs bs
  have d_law_delay : ∀ (base : PySem.Heap) (K2 : PySem.W.Frag), Ev.Cuts (L2.KOf KX) K2 → Ev.Dcl PySem.Challenge.rw_latestof_k07_times_and_solutions_recogni.prog w K2 mg base 2 "_law_delay" K.F_law_delay :=
    fun base => Ev.dcl_of h_law_delay K.s_law_delay K.n_law_delay K.c_law_delay fun K2 c => Ev.good_of (Ev.all1 (d_law_draw base K2 c) (by decide) Ev.all0) cs bs
  have d_law_terms : ∀ (base : PySem.Heap) (K2 : PySem.W.Frag), Ev.Cuts (L2.KOf KX) K2 → Ev.Dcl PySem.Challenge.rw_latestof_k07_times_and_solutions_recogni.prog w K2 mg base 3 "_law_terms" K.F_law_terms :=
    fun base => Ev.dcl_of h_law_terms K.s_law_terms K.n_law_terms K.c_law_terms fun K2 c => Ev.good_of (Ev.all1 (d_law_draw base K2 c) (by decide) (Ev.all1 (d_law_delay base K2 c) (by decide) Ev.all0)) cs bs
  have d_law_ring : ∀ (base : PySem.Heap) (K2 : PySem.W.Frag), Ev.Cuts (L2.KOf KX) K2 → Ev.Dcl PySem.Challenge.rw_latestof_k07_times_and_solutions_recogni.prog w K2 mg base 2 "_law_ring" K.F_law_ring :=
    fun base => Ev.dcl_of h_law_ring K.s_law_ring K.n_law_ring K.c_law_ring fun K2 c => Ev.good_of (Ev.all1 (d_law_draw base K2 c) (by decide) Ev.all0) cs bs
  have d_law_widened : ∀ (base : PySem.Heap) (K2 : PySem.W.Frag), Ev.Cuts (L2.KOf KX) K2 → Ev.Dcl PySem.Challenge.rw_latestof_k07_times_and_solutions_recogni.prog w K2 mg base 3 "_law_widened" K.F_law_widened :=
    fun base => Ev.dcl_of h_law_widened K.s_law_widened K.n_law_widened K.c_law_widened fun K2 c => Ev.good_of (Ev.all1 (d_law_delay base K2 c) (by decide) (Ev.all1 (d_law_draw base K2 c) (by decide) Ev.all0)) cs bs
  have d_law_rules : ∀ (base : PySem.Heap) (K2 : PySem.W.Frag), Ev.Cuts (L2.KOf KX) K2 → Ev.Dcl PySem.Challenge.rw_latestof_k07_times_and_solutions_recogni.prog w K2 mg base 4 "_law_rules" K.F_law_rules :=
    fun base => Ev.dcl_of h_law_rules K.s_law_rules K.n_law_rules K.c_law_rules fun K2 c => Ev.good_of (Ev.all1 (d_law_draw base K2 c) (by decide) (Ev.all1 (d_law_terms base K2 c) (by decide) (Ev.all1 (d_law_widened base K2 c) (by decide) (Ev.all1 (d_law_ring base K2 c) (by decide) Ev.all0)))) cs bs
  have d_law_times : ∀ (base : PySem.Heap) (K2 : PySem.W.Frag), Ev.Cuts (L2.KOf KX) K2 → Ev.Dcl PySem.Challenge.rw_latestof_k07_times_and_solutions_recogni.prog w K2 mg base 2 "_law_times" K.F_law_times :=
    fun base => Ev.dcl_of h_law_times K.s_law_times K.n_law_times K.c_law_times fun K2 c => Ev.good_of (Ev.all1 (d_law_draw base K2 c) (by decide) Ev.all0) cs bs
  have d_law_limits : ∀ (base : PySem.Heap) (K2 : PySem.W.Frag), Ev.Cuts (L2.KOf KX) K2 → Ev.Dcl PySem.Challenge.rw_latestof_k07_times_and_solutions_recogni.prog w K2 mg base 2 "_law_limits" K.F_law_limits :=
    fun base => Ev.dcl_of h_law_limits K.s_law_limits K.n_law_limits K.c_law_limits fun K2 c => Ev.good_of (Ev.all1 (d_law_draw base K2 c) (by decide) Ev.all0) cs bs
  have d_law_side : ∀ (base : PySem.Heap) (K2 : PySem.W.Frag), Ev.Cuts (L2.KOf KX) K2 → Ev.Dcl PySem.Challenge.rw_latestof_k07_times_and_solutions_recogni.prog w K2 mg base 1 "_law_side" K.F_law_side :=
    fun base => Ev.dcl_of h_law_side K.s_law_side K.n_law_side K.c_law_side fun K2 c => Ev.good_of Ev.all0 cs bs
  have d_law_holds : ∀ (base : PySem.Heap) (K2 : PySem.W.Frag), Ev.Cuts (L2.KOf KX) K2 → Ev.Dcl PySem.Challenge.rw_latestof_k07_times_and_solutions_recogni.prog w K2 mg base 2 "_law_holds" K.F_law_holds :=
    fun base => Ev.dcl_of h_law_holds K.s_law_holds K.n_law_holds K.c_law_holds fun K2 c => Ev.good_of (Ev.all1 (d_law_side base K2 c) (by decide) Ev.all0) cs bs
  have d_law_solves : ∀ (base : PySem.Heap) (K2 : PySem.W.Frag), Ev.Cuts (L2.KOf KX) K2 → Ev.Dcl PySem.Challenge.rw_latestof_k07_times_and_solutions_recogni.prog w K2 mg base 3 "_law_solves" K.F_law_solves :=
    fun base => Ev.dcl_of h_law_solves K.s_law_solves K.n_law_solves K.c_law_solves fun K2 c => Ev.good_of (Ev.all1 (d_law_holds base K2 c) (by decide) Ev.all0) cs bs
  have d_law_span : ∀ (base : PySem.Heap) (K2 : PySem.W.Frag), Ev.Cuts (L2.KOf KX) K2 → Ev.Dcl PySem.Challenge.rw_latestof_k07_times_and_solutions_recogni.prog w K2 mg base 1 "_law_span" K.F_law_span :=
    fun base => Ev.dcl_of h_law_span K.s_law_span K.n_law_span K.c_law_span fun K2 c => Ev.good_of Ev.all0 cs bs
  have d_law_latest : ∀ (base : PySem.Heap) (K2 : PySem.W.Frag), Ev.Cuts (L2.KOf KX) K2 → Ev.Dcl PySem.Challenge.rw_latestof_k07_times_and_solutions_recogni.prog w K2 mg base 3 "_law_latest" K.F_law_latest :=
    fun base => Ev.dcl_of h_law_latest K.s_law_latest K.n_law_latest K.c_law_latest fun K2 c => Ev.good_of (Ev.all1 (d_law_holds base K2 c) (by decide) (Ev.all1 (d_law_side base K2 c) (by decide) (Ev.all1 (d_law_span base K2 c) (by decide) Ev.all0))) cs bs
  have d_law_whole : ∀ (base : PySem.Heap) (K2 : PySem.W.Frag), Ev.Cuts (L2.KOf KX) K2 → Ev.Dcl PySem.Challenge.rw_latestof_k07_times_and_solutions_recogni.prog w K2 mg base 1 "_law_whole" K.F_law_whole :=
    fun base => Ev.dcl_of h_law_whole K.s_law_whole K.n_law_whole K.c_law_whole fun K2 c => Ev.good_of Ev.all0 cs bs
  have d_law_odd : ∀ (base : PySem.Heap) (K2 : PySem.W.Frag), Ev.Cuts (L2.KOf KX) K2 → Ev.Dcl PySem.Challenge.rw_latestof_k07_times_and_solutions_recogni.prog w K2 mg base 2 "_law_odd" K.F_law_odd :=
    fun base => Ev.dcl_of h_law_odd K.s_law_odd K.n_law_odd K.c_law_odd fun K2 c => Ev.good_of (Ev.all1 (d_law_draw base K2 c) (by decide) Ev.all0) cs bs
  have d_law_bent : ∀ (base : PySem.Heap) (K2 : PySem.W.Frag), Ev.Cuts (L2.KOf KX) K2 → Ev.Dcl PySem.Challenge.rw_latestof_k07_times_and_solutions_recogni.prog w K2 mg base (2 + 6) "_law_bent" (K.F_law_bent 6) :=
    fun base => Ev.dcl_rec (L := 2) (G := K.G_law_bent) (Fk := K.F_law_bent) h_law_bent K.s_law_bent K.n_law_bent (fun _ => K.c_law_bent) (fun _ => rfl) (fun _ => rfl) (fun k K2 c d => Ev.good_of (Ev.all1 (d_law_odd base K2 c) (by omega) (Ev.all1 (d_law_whole base K2 c) (by omega) (Ev.all1 (d_law_draw base K2 c) (by omega) (Ev.all1 d (Nat.le_refl _) Ev.all0)))) cs bs) 6
  have d_law_no_times : ∀ (base : PySem.Heap) (K2 : PySem.W.Frag), Ev.Cuts (L2.KOf KX) K2 → Ev.Dcl PySem.Challenge.rw_latestof_k07_times_and_solutions_recogni.prog w K2 mg base 2 "_law_no_times" K.F_law_no_times :=
    fun base => Ev.dcl_of h_law_no_times K.s_law_no_times K.n_law_no_times K.c_law_no_times fun K2 c => Ev.good_of (Ev.all1 (d_law_draw base K2 c) (by decide) Ev.all0) cs bs
  have d_law_is_times : ∀ (base : PySem.Heap) (K2 : PySem.W.Frag), Ev.Cuts (L2.KOf KX) K2 → Ev.Dcl PySem.Challenge.rw_latestof_k07_times_and_solutions_recogni.prog w K2 mg base 2 "_law_is_times" K.F_law_is_times :=
    fun base => Ev.dcl_of h_law_is_times K.s_law_is_times K.n_law_is_times K.c_law_is_times fun K2 c => Ev.good_of (Ev.all1 (d_law_whole base K2 c) (by decide) Ev.all0) cs bs
  have d_law_judged : ∀ (base : PySem.Heap) (K2 : PySem.W.Frag), Ev.Cuts (L2.KOf KX) K2 → Ev.Dcl PySem.Challenge.rw_latestof_k07_times_and_solutions_recogni.prog w K2 mg base 11 "_law_judged" K.F_law_judged :=
    fun base => Ev.dcl_of h_law_judged K.s_law_judged K.n_law_judged K.c_law_judged fun K2 c => Ev.good_of (Ev.all1 (d_is_solution base K2 c) (by decide) (Ev.all1 (d_law_solves base K2 c) (by decide) (Ev.all1 (d_is_times base K2 c) (by decide) (Ev.all1 (d_law_is_times base K2 c) (by decide) Ev.all0)))) cs bs
  exact ⟨h_law, fun K2 base c => Ev.good_of (Ev.all1 (d_law_odd base K2 c) (by decide) (Ev.all1 (d_law_judged base K2 c) (by decide) (Ev.all1 (d_law_bent base K2 c) (by decide) (Ev.all1 (d_law_draw base K2 c) (by decide) (Ev.all1 (d_law_no_times base K2 c) (by decide) (Ev.all1 (d_law_latest base K2 c) (by decide) (Ev.all1 (d_law_limits base K2 c) (by decide) (Ev.all1 (d_law_times base K2 c) (by decide) (Ev.all1 (d_law_rules base K2 c) (by decide) (Ev.all1 (d_law_source base K2 c) (by decide) Ev.all0)))))))))) cs bs⟩
