/-
  A runner of Go code in the order of its text, over numbers that are known and numbers that are names. (The plain functions; what they are good for is shown in Exb, Exc, Exd.)
-/
import GoSem.Dispatch
import Derived.Orders
import Derived.Test.YtclhgnhbmlkomaaGb
namespace Go.Proofs.Ytclhgnhbmlkomaa.Ex
open Go

/-- What a number is, where it is not known: made of names by operations. -/
inductive E where
  | vi (i : Nat) | vf (i : Nat) | vb (i : Nat)
  | li (n : Int) | lf (x : Nat) | lb (b : Bool)
  | ib (op : BinOp) (k : IntKind) (a b : E)
  | ic (op : BinOp) (a b : E)
  | fb (op : BinOp) (a b : E)
  | fc (op : BinOp) (a b : E)
  | an (a b : E)
  | nt (a : E)
  | iw (k : IntKind) (a : E)
  | i2f (a : E)
  | f2i (a : E)
  | fneg (a : E)
  | ai (f i : Nat) (args : E) | af (f i : Nat) (args : E) | ab (f i : Nat) (args : E)
  | n0 | ci (a r : E) | cf (a r : E) | cb (a r : E)
  | vl (j : Nat) | at (j i : Nat) | atf (j i : Nat)
  | ti (c a b : E) | tf (c a b : E) | tb (c a b : E)
  deriving DecidableEq, Inhabited, Repr

inductive Sc where
  | i (n : Int) | f (x : Nat) | b (b : Bool)
  deriving Inhabited

/-- What the names stand for. -/
structure Val where
  i : Nat → Int
  f : Nat → Nat
  b : Nat → Bool
  fi : Nat → Nat → List Sc → Int
  ff : Nat → Nat → List Sc → Nat
  fb : Nat → Nat → List Sc → Bool
  /-- what lies in memory that nobody changes -/
  arr : Nat → Array Value := fun _ => #[]

def bitsV (op : BinOp) (k : IntKind) (x y : Int) : Int :=
  let a := BitVec.ofInt k.bits x
  let b := BitVec.ofInt k.bits y
  match op with
  | .and => k.wrap (a &&& b).toNat
  | .or => k.wrap (a ||| b).toNat
  | .xor => k.wrap (a ^^^ b).toNat
  | _ => k.wrap (a &&& ~~~b).toNat

/-- The same as 'wrap', fast where nothing is to be done. -/
def wrapF (k : IntKind) (n : Int) : Int :=
  match k with
  | .i64 => bif decide (-9223372036854775808 ≤ n) && decide (n < 9223372036854775808) then n else IntKind.wrap .i64 n
  | k => k.wrap n

def ibV (op : BinOp) (k : IntKind) (a b : Int) : Int :=
  match op with
  | .add => wrapF k (a + b)
  | .sub => wrapF k (a - b)
  | .mul => wrapF k (a * b)
  | .quo => wrapF k (a.tdiv b)
  | .rem => a.tmod b
  | .shl => wrapF k (a * 2 ^ (min b.toNat k.bits))
  | .shr => a.fdiv (2 ^ (min b.toNat k.bits))
  | .and | .or | .xor | .andNot => bitsV op k a b
  | _ => 0

def icV (op : BinOp) (a b : Int) : Bool :=
  match op with
  | .eql => decide (a = b)
  | .neq => !decide (a = b)
  | .lss => decide (a < b)
  | .leq => decide (a ≤ b)
  | .gtr => decide (b < a)
  | .geq => decide (b ≤ a)
  | _ => false

def fcV (op : BinOp) (a b : Nat) : Bool :=
  match op with
  | .eql => eqB a b
  | .neq => !eqB a b
  | .lss => ltB a b
  | .leq => leB a b
  | .gtr => ltB b a
  | .geq => leB b a
  | _ => false

def fnegV (x : Nat) : Nat := canon (Op.negFloat .f64 (canon x))
def i2fV (n : Int) : Nat := FloatKind.f64.nearest n
def f2iV (x : Nat) : Int := match (FloatKind.f64.decode x).toInt .zero with | some m => bif decide (-1099511627776 ≤ m) && decide (m ≤ 1099511627776) then m else 0 | none => 0

def intAt (a : Array Value) (i : Nat) : Int := match a[i]? with | some (.int _ n) => n | _ => 0
def floatAt (a : Array Value) (i : Nat) : Nat := match a[i]? with | some (.float _ x) => x | _ => 0

mutual
def evI (V : Val) : E → Int
  | .vi i => V.i i
  | .li n => n
  | .ib op k a b => ibV op k (evI V a) (evI V b)
  | .iw k a => wrapF k (evI V a)
  | .f2i a => f2iV (evF V a)
  | .ai f i args => V.fi f i (evS V args)
  | .vl j => Int.ofNat (V.arr j).size
  | .at j i => intAt (V.arr j) i
  | .ti c a b => bif evB V c then evI V a else evI V b
  | _ => 0
def evF (V : Val) : E → Nat
  | .vf i => V.f i
  | .lf x => x
  | .fb op a b => cop op (evF V a) (evF V b)
  | .i2f a => i2fV (evI V a)
  | .fneg a => fnegV (evF V a)
  | .af f i args => V.ff f i (evS V args)
  | .atf j i => floatAt (V.arr j) i
  | .tf c a b => bif evB V c then evF V a else evF V b
  | _ => 0
def evB (V : Val) : E → Bool
  | .vb i => V.b i
  | .lb b => b
  | .ic op a b => icV op (evI V a) (evI V b)
  | .fc op a b => fcV op (evF V a) (evF V b)
  | .an a b => evB V a && evB V b
  | .nt a => !evB V a
  | .ab f i args => V.fb f i (evS V args)
  | .tb c a b => bif evB V c then evB V a else evB V b
  | _ => false
def evS (V : Val) : E → List Sc
  | .ci a r => .i (evI V a) :: evS V r
  | .cf a r => .f (evF V a) :: evS V r
  | .cb a r => .b (evB V a) :: evS V r
  | _ => []
end

/-- How many a slice may hold: so many; unknown (of elements of so many cells). -/
inductive Cap where
  | n (k : Nat) | u (size : Nat)
  deriving DecidableEq, Inhabited, Repr
/-- Where something lies, as it may hang on conditions. -/
inductive CP where
  | p0 | sl0 | p (blk off : Nat) | sl (blk off len : Nat) (cap : Cap)
  deriving DecidableEq, Inhabited, Repr
/-- One cell. 'u': whatever; 'cc': the first whose condition holds, the last if none does. -/
inductive C where
  | u | b (x : Bool) | i (k : IntKind) (n : Int) | f (x : Nat)
  | eb (e : E) | ei (k : IntKind) (e : E) | ef (e : E)
  | p (blk off : Nat) | p0 | sl (blk off len : Nat) (cap : Cap) | sl0 | fn (f : FuncId) (caps : List (Nat × Nat)) | fn0
  | fm (f : FuncId) (blk off : Nat)
  | qi (j b : Nat) | qf (j b : Nat) | pi (j b i : Nat) | pf (j b i : Nat) | q0
  | px (m o s n : Nat) (e : E)
  | cc (l : List (E × CP)) (d : CP)
  deriving DecidableEq, Inhabited, Repr

/-- One value: a cell, a row of cells. -/
inductive SV1 where
  | c (x : C) | ag (l : List C)
  deriving DecidableEq, Inhabited, Repr
inductive SV where
  | c (x : C) | ag (l : List C) | tu (l : List SV1)
  deriving DecidableEq, Inhabited, Repr

inductive Res (α : Type) where
  | ok (a : α)
  | need (e : E)
  | bad (why : Nat)
  deriving Inhabited, Repr

def Res.bind {α β : Type} : Res α → (α → Res β) → Res β
  | .ok a, f => f a
  | .need e, _ => .need e
  | .bad n, _ => .bad n
instance : Monad Res where
  pure := .ok
  bind := Res.bind
def orBad {α : Type} (n : Nat) : Option α → Res α
  | some a => .ok a
  | none => .bad n
def okIf (n : Nat) : Bool → Res Unit
  | true => .ok ()
  | false => .bad n

/-! ### A map from numbers -/
inductive T (α : Type) where
  | nil
  | node (v : Option α) (l r : T α)
  deriving Inhabited

def T.get {α : Type} : T α → Nat → Option α
  | .nil, _ => none
  | .node v l r, n => bif Nat.beq n 0 then v else bif Nat.beq (n % 2) 1 then l.get (n / 2) else r.get (n / 2 - 1)
def T.set {α : Type} : Nat → T α → Nat → Option α → T α
  | 0, t, _, _ => t
  | f + 1, .nil, n, x => bif Nat.beq n 0 then .node x .nil .nil else bif Nat.beq (n % 2) 1 then .node none (T.set f .nil (n / 2) x) .nil else .node none .nil (T.set f .nil (n / 2 - 1) x)
  | f + 1, .node v l r, n, x => bif Nat.beq n 0 then .node x l r else bif Nat.beq (n % 2) 1 then .node v (T.set f l (n / 2) x) r else .node v l (T.set f r (n / 2 - 1) x)
def T.most : Nat := 1000000000
def T.put {α : Type} (t : T α) (n : Nat) (x : Option α) : T α := T.set 32 t n x

/-! The same, level by level. -/
def T.g0 {α : Type} (t : T α) (n : Nat) : Option α := t.get n
def T.g1 {α : Type} (t : T α) (n : Nat) : Option α :=
  T.casesOn (motive := fun _ => Option α) t none fun v l r => Bool.casesOn (motive := fun _ => Option α) (Nat.beq n 0) (Bool.casesOn (motive := fun _ => Option α) (Nat.beq (Nat.mod n 2) 1) (r.g0 (Nat.sub (Nat.div n 2) 1)) (l.g0 (Nat.div n 2))) v
def T.g2 {α : Type} (t : T α) (n : Nat) : Option α :=
  T.casesOn (motive := fun _ => Option α) t none fun v l r => Bool.casesOn (motive := fun _ => Option α) (Nat.beq n 0) (Bool.casesOn (motive := fun _ => Option α) (Nat.beq (Nat.mod n 2) 1) (r.g1 (Nat.sub (Nat.div n 2) 1)) (l.g1 (Nat.div n 2))) v
def T.g3 {α : Type} (t : T α) (n : Nat) : Option α :=
  T.casesOn (motive := fun _ => Option α) t none fun v l r => Bool.casesOn (motive := fun _ => Option α) (Nat.beq n 0) (Bool.casesOn (motive := fun _ => Option α) (Nat.beq (Nat.mod n 2) 1) (r.g2 (Nat.sub (Nat.div n 2) 1)) (l.g2 (Nat.div n 2))) v
def T.g4 {α : Type} (t : T α) (n : Nat) : Option α :=
  T.casesOn (motive := fun _ => Option α) t none fun v l r => Bool.casesOn (motive := fun _ => Option α) (Nat.beq n 0) (Bool.casesOn (motive := fun _ => Option α) (Nat.beq (Nat.mod n 2) 1) (r.g3 (Nat.sub (Nat.div n 2) 1)) (l.g3 (Nat.div n 2))) v
def T.g5 {α : Type} (t : T α) (n : Nat) : Option α :=
  T.casesOn (motive := fun _ => Option α) t none fun v l r => Bool.casesOn (motive := fun _ => Option α) (Nat.beq n 0) (Bool.casesOn (motive := fun _ => Option α) (Nat.beq (Nat.mod n 2) 1) (r.g4 (Nat.sub (Nat.div n 2) 1)) (l.g4 (Nat.div n 2))) v
def T.g6 {α : Type} (t : T α) (n : Nat) : Option α :=
  T.casesOn (motive := fun _ => Option α) t none fun v l r => Bool.casesOn (motive := fun _ => Option α) (Nat.beq n 0) (Bool.casesOn (motive := fun _ => Option α) (Nat.beq (Nat.mod n 2) 1) (r.g5 (Nat.sub (Nat.div n 2) 1)) (l.g5 (Nat.div n 2))) v
def T.g7 {α : Type} (t : T α) (n : Nat) : Option α :=
  T.casesOn (motive := fun _ => Option α) t none fun v l r => Bool.casesOn (motive := fun _ => Option α) (Nat.beq n 0) (Bool.casesOn (motive := fun _ => Option α) (Nat.beq (Nat.mod n 2) 1) (r.g6 (Nat.sub (Nat.div n 2) 1)) (l.g6 (Nat.div n 2))) v
def T.g8 {α : Type} (t : T α) (n : Nat) : Option α :=
  T.casesOn (motive := fun _ => Option α) t none fun v l r => Bool.casesOn (motive := fun _ => Option α) (Nat.beq n 0) (Bool.casesOn (motive := fun _ => Option α) (Nat.beq (Nat.mod n 2) 1) (r.g7 (Nat.sub (Nat.div n 2) 1)) (l.g7 (Nat.div n 2))) v
def T.g9 {α : Type} (t : T α) (n : Nat) : Option α :=
  T.casesOn (motive := fun _ => Option α) t none fun v l r => Bool.casesOn (motive := fun _ => Option α) (Nat.beq n 0) (Bool.casesOn (motive := fun _ => Option α) (Nat.beq (Nat.mod n 2) 1) (r.g8 (Nat.sub (Nat.div n 2) 1)) (l.g8 (Nat.div n 2))) v
def T.g10 {α : Type} (t : T α) (n : Nat) : Option α :=
  T.casesOn (motive := fun _ => Option α) t none fun v l r => Bool.casesOn (motive := fun _ => Option α) (Nat.beq n 0) (Bool.casesOn (motive := fun _ => Option α) (Nat.beq (Nat.mod n 2) 1) (r.g9 (Nat.sub (Nat.div n 2) 1)) (l.g9 (Nat.div n 2))) v
def T.g11 {α : Type} (t : T α) (n : Nat) : Option α :=
  T.casesOn (motive := fun _ => Option α) t none fun v l r => Bool.casesOn (motive := fun _ => Option α) (Nat.beq n 0) (Bool.casesOn (motive := fun _ => Option α) (Nat.beq (Nat.mod n 2) 1) (r.g10 (Nat.sub (Nat.div n 2) 1)) (l.g10 (Nat.div n 2))) v
def T.g12 {α : Type} (t : T α) (n : Nat) : Option α :=
  T.casesOn (motive := fun _ => Option α) t none fun v l r => Bool.casesOn (motive := fun _ => Option α) (Nat.beq n 0) (Bool.casesOn (motive := fun _ => Option α) (Nat.beq (Nat.mod n 2) 1) (r.g11 (Nat.sub (Nat.div n 2) 1)) (l.g11 (Nat.div n 2))) v
def T.g13 {α : Type} (t : T α) (n : Nat) : Option α :=
  T.casesOn (motive := fun _ => Option α) t none fun v l r => Bool.casesOn (motive := fun _ => Option α) (Nat.beq n 0) (Bool.casesOn (motive := fun _ => Option α) (Nat.beq (Nat.mod n 2) 1) (r.g12 (Nat.sub (Nat.div n 2) 1)) (l.g12 (Nat.div n 2))) v
def T.g14 {α : Type} (t : T α) (n : Nat) : Option α :=
  T.casesOn (motive := fun _ => Option α) t none fun v l r => Bool.casesOn (motive := fun _ => Option α) (Nat.beq n 0) (Bool.casesOn (motive := fun _ => Option α) (Nat.beq (Nat.mod n 2) 1) (r.g13 (Nat.sub (Nat.div n 2) 1)) (l.g13 (Nat.div n 2))) v
theorem T.get_node {α : Type} (v : Option α) (l r : T α) (n : Nat) : (T.node v l r).get n = bif Nat.beq n 0 then v else bif Nat.beq (n % 2) 1 then l.get (n / 2) else r.get (n / 2 - 1) := rfl
theorem T.g_step {α : Type} {f : T α → Nat → Option α} (hf : f = T.get) (t : T α) (n : Nat) : (T.casesOn (motive := fun _ => Option α) t none fun v l r => Bool.casesOn (motive := fun _ => Option α) (Nat.beq n 0) (Bool.casesOn (motive := fun _ => Option α) (Nat.beq (Nat.mod n 2) 1) (f r (Nat.sub (Nat.div n 2) 1)) (f l (Nat.div n 2))) v) = t.get n := by
  subst hf
  cases t with
  | nil => rfl
  | node v l r =>
    rw [T.get_node]
    have e1 : Nat.mod n 2 = n % 2 := rfl
    have e2 : Nat.sub (Nat.div n 2) 1 = n / 2 - 1 := rfl
    have e3 : Nat.div n 2 = n / 2 := rfl
    simp only [e1, e3]
    cases Nat.beq n 0 <;> cases Nat.beq (n % 2) 1 <;> rfl
theorem T.set_nil {α : Type} (f : Nat) (n : Nat) (x : Option α) : T.set (f + 1) .nil n x = bif Nat.beq n 0 then .node x .nil .nil else bif Nat.beq (n % 2) 1 then .node none (T.set f .nil (n / 2) x) .nil else .node none .nil (T.set f .nil (n / 2 - 1) x) := rfl
theorem T.set_node {α : Type} (f : Nat) (v : Option α) (l r : T α) (n : Nat) (x : Option α) : T.set (f + 1) (.node v l r) n x = bif Nat.beq n 0 then .node x l r else bif Nat.beq (n % 2) 1 then .node v (T.set f l (n / 2) x) r else .node v l (T.set f r (n / 2 - 1) x) := rfl
theorem T.s_step {α : Type} {k : Nat} {f : T α → Nat → Option α → T α} (hf : f = T.set k) (t : T α) (n : Nat) (x : Option α) : (T.casesOn (motive := fun _ => T α) t
    (Bool.casesOn (motive := fun _ => T α) (Nat.beq n 0) (Bool.casesOn (motive := fun _ => T α) (Nat.beq (Nat.mod n 2) 1) (.node none .nil (f .nil (Nat.sub (Nat.div n 2) 1) x)) (.node none (f .nil (Nat.div n 2) x) .nil)) (.node x .nil .nil))
    fun v l r => Bool.casesOn (motive := fun _ => T α) (Nat.beq n 0) (Bool.casesOn (motive := fun _ => T α) (Nat.beq (Nat.mod n 2) 1) (.node v l (f r (Nat.sub (Nat.div n 2) 1) x)) (.node v (f l (Nat.div n 2) x) r)) (.node x l r)) = T.set (k + 1) t n x := by
  subst hf
  have e1 : Nat.mod n 2 = n % 2 := rfl
  have e2 : Nat.sub (Nat.div n 2) 1 = n / 2 - 1 := rfl
  have e3 : Nat.div n 2 = n / 2 := rfl
  simp only [e1, e3]
  cases t with
  | nil => rw [T.set_nil]; cases Nat.beq n 0 <;> cases Nat.beq (n % 2) 1 <;> rfl
  | node v l r => rw [T.set_node]; cases Nat.beq n 0 <;> cases Nat.beq (n % 2) 1 <;> rfl
theorem T.g0_eq {α : Type} : @T.g0 α = T.get := rfl
theorem T.g1_eq {α : Type} : @T.g1 α = T.get := funext fun t => funext fun n => T.g_step T.g0_eq t n
theorem T.g2_eq {α : Type} : @T.g2 α = T.get := funext fun t => funext fun n => T.g_step T.g1_eq t n
theorem T.g3_eq {α : Type} : @T.g3 α = T.get := funext fun t => funext fun n => T.g_step T.g2_eq t n
theorem T.g4_eq {α : Type} : @T.g4 α = T.get := funext fun t => funext fun n => T.g_step T.g3_eq t n
theorem T.g5_eq {α : Type} : @T.g5 α = T.get := funext fun t => funext fun n => T.g_step T.g4_eq t n
theorem T.g6_eq {α : Type} : @T.g6 α = T.get := funext fun t => funext fun n => T.g_step T.g5_eq t n
theorem T.g7_eq {α : Type} : @T.g7 α = T.get := funext fun t => funext fun n => T.g_step T.g6_eq t n
theorem T.g8_eq {α : Type} : @T.g8 α = T.get := funext fun t => funext fun n => T.g_step T.g7_eq t n
theorem T.g9_eq {α : Type} : @T.g9 α = T.get := funext fun t => funext fun n => T.g_step T.g8_eq t n
theorem T.g10_eq {α : Type} : @T.g10 α = T.get := funext fun t => funext fun n => T.g_step T.g9_eq t n
theorem T.g11_eq {α : Type} : @T.g11 α = T.get := funext fun t => funext fun n => T.g_step T.g10_eq t n
theorem T.g12_eq {α : Type} : @T.g12 α = T.get := funext fun t => funext fun n => T.g_step T.g11_eq t n
theorem T.g13_eq {α : Type} : @T.g13 α = T.get := funext fun t => funext fun n => T.g_step T.g12_eq t n
theorem T.g14_eq {α : Type} : @T.g14 α = T.get := funext fun t => funext fun n => T.g_step T.g13_eq t n
def T.s0 {α : Type} (f : Nat) (t : T α) (n : Nat) (x : Option α) : T α := T.set f t n x
def T.s1 {α : Type} (f : Nat) (t : T α) (n : Nat) (x : Option α) : T α :=
  T.casesOn (motive := fun _ => T α) t
    (Bool.casesOn (motive := fun _ => T α) (Nat.beq n 0) (Bool.casesOn (motive := fun _ => T α) (Nat.beq (Nat.mod n 2) 1) (.node none .nil (T.s0 f .nil (Nat.sub (Nat.div n 2) 1) x)) (.node none (T.s0 f .nil (Nat.div n 2) x) .nil)) (.node x .nil .nil))
    fun v l r => Bool.casesOn (motive := fun _ => T α) (Nat.beq n 0) (Bool.casesOn (motive := fun _ => T α) (Nat.beq (Nat.mod n 2) 1) (.node v l (T.s0 f r (Nat.sub (Nat.div n 2) 1) x)) (.node v (T.s0 f l (Nat.div n 2) x) r)) (.node x l r)
def T.s2 {α : Type} (f : Nat) (t : T α) (n : Nat) (x : Option α) : T α :=
  T.casesOn (motive := fun _ => T α) t
    (Bool.casesOn (motive := fun _ => T α) (Nat.beq n 0) (Bool.casesOn (motive := fun _ => T α) (Nat.beq (Nat.mod n 2) 1) (.node none .nil (T.s1 f .nil (Nat.sub (Nat.div n 2) 1) x)) (.node none (T.s1 f .nil (Nat.div n 2) x) .nil)) (.node x .nil .nil))
    fun v l r => Bool.casesOn (motive := fun _ => T α) (Nat.beq n 0) (Bool.casesOn (motive := fun _ => T α) (Nat.beq (Nat.mod n 2) 1) (.node v l (T.s1 f r (Nat.sub (Nat.div n 2) 1) x)) (.node v (T.s1 f l (Nat.div n 2) x) r)) (.node x l r)
def T.s3 {α : Type} (f : Nat) (t : T α) (n : Nat) (x : Option α) : T α :=
  T.casesOn (motive := fun _ => T α) t
    (Bool.casesOn (motive := fun _ => T α) (Nat.beq n 0) (Bool.casesOn (motive := fun _ => T α) (Nat.beq (Nat.mod n 2) 1) (.node none .nil (T.s2 f .nil (Nat.sub (Nat.div n 2) 1) x)) (.node none (T.s2 f .nil (Nat.div n 2) x) .nil)) (.node x .nil .nil))
    fun v l r => Bool.casesOn (motive := fun _ => T α) (Nat.beq n 0) (Bool.casesOn (motive := fun _ => T α) (Nat.beq (Nat.mod n 2) 1) (.node v l (T.s2 f r (Nat.sub (Nat.div n 2) 1) x)) (.node v (T.s2 f l (Nat.div n 2) x) r)) (.node x l r)
def T.s4 {α : Type} (f : Nat) (t : T α) (n : Nat) (x : Option α) : T α :=
  T.casesOn (motive := fun _ => T α) t
    (Bool.casesOn (motive := fun _ => T α) (Nat.beq n 0) (Bool.casesOn (motive := fun _ => T α) (Nat.beq (Nat.mod n 2) 1) (.node none .nil (T.s3 f .nil (Nat.sub (Nat.div n 2) 1) x)) (.node none (T.s3 f .nil (Nat.div n 2) x) .nil)) (.node x .nil .nil))
    fun v l r => Bool.casesOn (motive := fun _ => T α) (Nat.beq n 0) (Bool.casesOn (motive := fun _ => T α) (Nat.beq (Nat.mod n 2) 1) (.node v l (T.s3 f r (Nat.sub (Nat.div n 2) 1) x)) (.node v (T.s3 f l (Nat.div n 2) x) r)) (.node x l r)
def T.s5 {α : Type} (f : Nat) (t : T α) (n : Nat) (x : Option α) : T α :=
  T.casesOn (motive := fun _ => T α) t
    (Bool.casesOn (motive := fun _ => T α) (Nat.beq n 0) (Bool.casesOn (motive := fun _ => T α) (Nat.beq (Nat.mod n 2) 1) (.node none .nil (T.s4 f .nil (Nat.sub (Nat.div n 2) 1) x)) (.node none (T.s4 f .nil (Nat.div n 2) x) .nil)) (.node x .nil .nil))
    fun v l r => Bool.casesOn (motive := fun _ => T α) (Nat.beq n 0) (Bool.casesOn (motive := fun _ => T α) (Nat.beq (Nat.mod n 2) 1) (.node v l (T.s4 f r (Nat.sub (Nat.div n 2) 1) x)) (.node v (T.s4 f l (Nat.div n 2) x) r)) (.node x l r)
def T.s6 {α : Type} (f : Nat) (t : T α) (n : Nat) (x : Option α) : T α :=
  T.casesOn (motive := fun _ => T α) t
    (Bool.casesOn (motive := fun _ => T α) (Nat.beq n 0) (Bool.casesOn (motive := fun _ => T α) (Nat.beq (Nat.mod n 2) 1) (.node none .nil (T.s5 f .nil (Nat.sub (Nat.div n 2) 1) x)) (.node none (T.s5 f .nil (Nat.div n 2) x) .nil)) (.node x .nil .nil))
    fun v l r => Bool.casesOn (motive := fun _ => T α) (Nat.beq n 0) (Bool.casesOn (motive := fun _ => T α) (Nat.beq (Nat.mod n 2) 1) (.node v l (T.s5 f r (Nat.sub (Nat.div n 2) 1) x)) (.node v (T.s5 f l (Nat.div n 2) x) r)) (.node x l r)
def T.s7 {α : Type} (f : Nat) (t : T α) (n : Nat) (x : Option α) : T α :=
  T.casesOn (motive := fun _ => T α) t
    (Bool.casesOn (motive := fun _ => T α) (Nat.beq n 0) (Bool.casesOn (motive := fun _ => T α) (Nat.beq (Nat.mod n 2) 1) (.node none .nil (T.s6 f .nil (Nat.sub (Nat.div n 2) 1) x)) (.node none (T.s6 f .nil (Nat.div n 2) x) .nil)) (.node x .nil .nil))
    fun v l r => Bool.casesOn (motive := fun _ => T α) (Nat.beq n 0) (Bool.casesOn (motive := fun _ => T α) (Nat.beq (Nat.mod n 2) 1) (.node v l (T.s6 f r (Nat.sub (Nat.div n 2) 1) x)) (.node v (T.s6 f l (Nat.div n 2) x) r)) (.node x l r)
def T.s8 {α : Type} (f : Nat) (t : T α) (n : Nat) (x : Option α) : T α :=
  T.casesOn (motive := fun _ => T α) t
    (Bool.casesOn (motive := fun _ => T α) (Nat.beq n 0) (Bool.casesOn (motive := fun _ => T α) (Nat.beq (Nat.mod n 2) 1) (.node none .nil (T.s7 f .nil (Nat.sub (Nat.div n 2) 1) x)) (.node none (T.s7 f .nil (Nat.div n 2) x) .nil)) (.node x .nil .nil))
    fun v l r => Bool.casesOn (motive := fun _ => T α) (Nat.beq n 0) (Bool.casesOn (motive := fun _ => T α) (Nat.beq (Nat.mod n 2) 1) (.node v l (T.s7 f r (Nat.sub (Nat.div n 2) 1) x)) (.node v (T.s7 f l (Nat.div n 2) x) r)) (.node x l r)
def T.s9 {α : Type} (f : Nat) (t : T α) (n : Nat) (x : Option α) : T α :=
  T.casesOn (motive := fun _ => T α) t
    (Bool.casesOn (motive := fun _ => T α) (Nat.beq n 0) (Bool.casesOn (motive := fun _ => T α) (Nat.beq (Nat.mod n 2) 1) (.node none .nil (T.s8 f .nil (Nat.sub (Nat.div n 2) 1) x)) (.node none (T.s8 f .nil (Nat.div n 2) x) .nil)) (.node x .nil .nil))
    fun v l r => Bool.casesOn (motive := fun _ => T α) (Nat.beq n 0) (Bool.casesOn (motive := fun _ => T α) (Nat.beq (Nat.mod n 2) 1) (.node v l (T.s8 f r (Nat.sub (Nat.div n 2) 1) x)) (.node v (T.s8 f l (Nat.div n 2) x) r)) (.node x l r)
def T.s10 {α : Type} (f : Nat) (t : T α) (n : Nat) (x : Option α) : T α :=
  T.casesOn (motive := fun _ => T α) t
    (Bool.casesOn (motive := fun _ => T α) (Nat.beq n 0) (Bool.casesOn (motive := fun _ => T α) (Nat.beq (Nat.mod n 2) 1) (.node none .nil (T.s9 f .nil (Nat.sub (Nat.div n 2) 1) x)) (.node none (T.s9 f .nil (Nat.div n 2) x) .nil)) (.node x .nil .nil))
    fun v l r => Bool.casesOn (motive := fun _ => T α) (Nat.beq n 0) (Bool.casesOn (motive := fun _ => T α) (Nat.beq (Nat.mod n 2) 1) (.node v l (T.s9 f r (Nat.sub (Nat.div n 2) 1) x)) (.node v (T.s9 f l (Nat.div n 2) x) r)) (.node x l r)
def T.s11 {α : Type} (f : Nat) (t : T α) (n : Nat) (x : Option α) : T α :=
  T.casesOn (motive := fun _ => T α) t
    (Bool.casesOn (motive := fun _ => T α) (Nat.beq n 0) (Bool.casesOn (motive := fun _ => T α) (Nat.beq (Nat.mod n 2) 1) (.node none .nil (T.s10 f .nil (Nat.sub (Nat.div n 2) 1) x)) (.node none (T.s10 f .nil (Nat.div n 2) x) .nil)) (.node x .nil .nil))
    fun v l r => Bool.casesOn (motive := fun _ => T α) (Nat.beq n 0) (Bool.casesOn (motive := fun _ => T α) (Nat.beq (Nat.mod n 2) 1) (.node v l (T.s10 f r (Nat.sub (Nat.div n 2) 1) x)) (.node v (T.s10 f l (Nat.div n 2) x) r)) (.node x l r)
def T.s12 {α : Type} (f : Nat) (t : T α) (n : Nat) (x : Option α) : T α :=
  T.casesOn (motive := fun _ => T α) t
    (Bool.casesOn (motive := fun _ => T α) (Nat.beq n 0) (Bool.casesOn (motive := fun _ => T α) (Nat.beq (Nat.mod n 2) 1) (.node none .nil (T.s11 f .nil (Nat.sub (Nat.div n 2) 1) x)) (.node none (T.s11 f .nil (Nat.div n 2) x) .nil)) (.node x .nil .nil))
    fun v l r => Bool.casesOn (motive := fun _ => T α) (Nat.beq n 0) (Bool.casesOn (motive := fun _ => T α) (Nat.beq (Nat.mod n 2) 1) (.node v l (T.s11 f r (Nat.sub (Nat.div n 2) 1) x)) (.node v (T.s11 f l (Nat.div n 2) x) r)) (.node x l r)
def T.s13 {α : Type} (f : Nat) (t : T α) (n : Nat) (x : Option α) : T α :=
  T.casesOn (motive := fun _ => T α) t
    (Bool.casesOn (motive := fun _ => T α) (Nat.beq n 0) (Bool.casesOn (motive := fun _ => T α) (Nat.beq (Nat.mod n 2) 1) (.node none .nil (T.s12 f .nil (Nat.sub (Nat.div n 2) 1) x)) (.node none (T.s12 f .nil (Nat.div n 2) x) .nil)) (.node x .nil .nil))
    fun v l r => Bool.casesOn (motive := fun _ => T α) (Nat.beq n 0) (Bool.casesOn (motive := fun _ => T α) (Nat.beq (Nat.mod n 2) 1) (.node v l (T.s12 f r (Nat.sub (Nat.div n 2) 1) x)) (.node v (T.s12 f l (Nat.div n 2) x) r)) (.node x l r)
def T.s14 {α : Type} (f : Nat) (t : T α) (n : Nat) (x : Option α) : T α :=
  T.casesOn (motive := fun _ => T α) t
    (Bool.casesOn (motive := fun _ => T α) (Nat.beq n 0) (Bool.casesOn (motive := fun _ => T α) (Nat.beq (Nat.mod n 2) 1) (.node none .nil (T.s13 f .nil (Nat.sub (Nat.div n 2) 1) x)) (.node none (T.s13 f .nil (Nat.div n 2) x) .nil)) (.node x .nil .nil))
    fun v l r => Bool.casesOn (motive := fun _ => T α) (Nat.beq n 0) (Bool.casesOn (motive := fun _ => T α) (Nat.beq (Nat.mod n 2) 1) (.node v l (T.s13 f r (Nat.sub (Nat.div n 2) 1) x)) (.node v (T.s13 f l (Nat.div n 2) x) r)) (.node x l r)
theorem T.s0_eq {α : Type} (f : Nat) : @T.s0 α f = T.set f := rfl
theorem T.s1_eq {α : Type} (f : Nat) : @T.s1 α f = T.set (f + 1) := funext fun t => funext fun n => funext fun x => T.s_step (k := f + 0) (T.s0_eq f) t n x
theorem T.s2_eq {α : Type} (f : Nat) : @T.s2 α f = T.set (f + 2) := funext fun t => funext fun n => funext fun x => T.s_step (k := f + 1) (T.s1_eq f) t n x
theorem T.s3_eq {α : Type} (f : Nat) : @T.s3 α f = T.set (f + 3) := funext fun t => funext fun n => funext fun x => T.s_step (k := f + 2) (T.s2_eq f) t n x
theorem T.s4_eq {α : Type} (f : Nat) : @T.s4 α f = T.set (f + 4) := funext fun t => funext fun n => funext fun x => T.s_step (k := f + 3) (T.s3_eq f) t n x
theorem T.s5_eq {α : Type} (f : Nat) : @T.s5 α f = T.set (f + 5) := funext fun t => funext fun n => funext fun x => T.s_step (k := f + 4) (T.s4_eq f) t n x
theorem T.s6_eq {α : Type} (f : Nat) : @T.s6 α f = T.set (f + 6) := funext fun t => funext fun n => funext fun x => T.s_step (k := f + 5) (T.s5_eq f) t n x
theorem T.s7_eq {α : Type} (f : Nat) : @T.s7 α f = T.set (f + 7) := funext fun t => funext fun n => funext fun x => T.s_step (k := f + 6) (T.s6_eq f) t n x
theorem T.s8_eq {α : Type} (f : Nat) : @T.s8 α f = T.set (f + 8) := funext fun t => funext fun n => funext fun x => T.s_step (k := f + 7) (T.s7_eq f) t n x
theorem T.s9_eq {α : Type} (f : Nat) : @T.s9 α f = T.set (f + 9) := funext fun t => funext fun n => funext fun x => T.s_step (k := f + 8) (T.s8_eq f) t n x
theorem T.s10_eq {α : Type} (f : Nat) : @T.s10 α f = T.set (f + 10) := funext fun t => funext fun n => funext fun x => T.s_step (k := f + 9) (T.s9_eq f) t n x
theorem T.s11_eq {α : Type} (f : Nat) : @T.s11 α f = T.set (f + 11) := funext fun t => funext fun n => funext fun x => T.s_step (k := f + 10) (T.s10_eq f) t n x
theorem T.s12_eq {α : Type} (f : Nat) : @T.s12 α f = T.set (f + 12) := funext fun t => funext fun n => funext fun x => T.s_step (k := f + 11) (T.s11_eq f) t n x
theorem T.s13_eq {α : Type} (f : Nat) : @T.s13 α f = T.set (f + 13) := funext fun t => funext fun n => funext fun x => T.s_step (k := f + 12) (T.s12_eq f) t n x
theorem T.s14_eq {α : Type} (f : Nat) : @T.s14 α f = T.set (f + 14) := funext fun t => funext fun n => funext fun x => T.s_step (k := f + 13) (T.s13_eq f) t n x
def T.putF {α : Type} (t : T α) (n : Nat) (x : Option α) : T α := T.s14 18 t n x
theorem T.putF_eq {α : Type} : @T.putF α = T.put := funext fun t => funext fun n => funext fun x => by
  show T.s14 18 t n x = T.set 32 t n x
  rw [T.s14_eq]
def T.getF {α : Type} (t : T α) (n : Nat) : Option α := T.g14 t n
theorem T.getF_eq {α : Type} : @T.getF α = T.get := T.g14_eq
/-- A map, reckoned first. -/
def forceT {α β : Type} (x : T α) (k : T α → β) : β := T.casesOn (motive := fun _ => β) x (k .nil) fun v l r => k (.node v l r)
theorem forceT_eq {α β : Type} (x : T α) (k : T α → β) : forceT x k = k x := by cases x <;> rfl
/-- A number, reckoned first. -/
def forceN {α : Type} (x : Nat) (k : Nat → α) : α := Nat.casesOn (motive := fun _ => α) x (k 0) fun n => k (Nat.succ n)
theorem forceN_eq {α : Type} (x : Nat) (k : Nat → α) : forceN x k = k x := by cases x <;> rfl


abbrev Blk := List C
structure St where
  tm : T SV
  hp : T Blk
  nx : Nat
  deriving Inhabited

/-! ### Reading Go's values -/
def ofCell : Value → Option C
  | .bool b => some (.b b)
  | .int k n => some (.i k n)
  | .float .f64 x => bif Nat.blt x 18446744073709551616 then some (.f x) else none
  | .pointer none => some .p0
  | .slice none 0 0 => some .sl0
  | .nilFunc => some .fn0
  | .func (.func f) a b => bif a.isEmpty && b.isEmpty then some (.fn f []) else none
  | _ => none
def allSome {α β : Type} (f : α → Option β) : List α → Option (List β)
  | [] => some []
  | a :: l => match f a with
    | none => none
    | some b => match allSome f l with
      | none => none
      | some m => some (b :: m)
def ofVal : Value → Option SV
  | .agg cs => (allSome ofCell cs.toList).map .ag
  | v => (ofCell v).map .c

def SV.cells : SV → Option (List C)
  | .c x => some [x]
  | .ag l => some l
  | .tu _ => none

def CP.ptrs : CP → List Nat
  | .p m _ => [m]
  | .sl m _ _ _ => [m]
  | _ => []
def C.ptrs : C → List Nat
  | .p m _ => [m]
  | .sl m _ _ _ => [m]
  | .fn _ caps => caps.map (·.1)
  | .fm _ m _ => [m]
  | .px m _ _ _ _ => [m]
  | .cc l d => l.flatMap (fun x => x.2.ptrs) ++ d.ptrs
  | _ => []
def SV1.ptrs : SV1 → List Nat
  | .c x => x.ptrs
  | .ag l => l.flatMap C.ptrs
def SV.ptrs : SV → List Nat
  | .c x => x.ptrs
  | .ag l => l.flatMap C.ptrs
  | .tu l => l.flatMap SV1.ptrs

/-! ### Whether -/
/-- What is known, and a way to find out more out of it. -/
structure Gam where
  l : List (E × Bool)
  D : List (E × Bool) → E → Option Bool
  /-- names for floats that are made of others -/
  nm : Option (E → Option Nat)
def Gam.nil : Gam := ⟨[], fun _ _ => none, none⟩
def Gam.of (l : List (E × Bool)) : Gam := ⟨l, fun _ _ => none, none⟩
def Gam.add (g : Gam) (e : E) (b : Bool) : Gam := ⟨(e, b) :: g.l, g.D, g.nm⟩
def lookE : List (E × Bool) → E → Option Bool
  | [], _ => none
  | (e, b) :: g, x => if e = x then some b else lookE g x
/-- What is known of 'i < x'. -/
def lenOf : List (E × Bool) → Int → E → Option Bool
  | [], _, _ => none
  | (.ic .lss (.li m) y, b) :: g, i, x => bif (bif b then decide (i ≤ m) else decide (m ≤ i)) && decide (y = x) then some b else lenOf g i x
  | _ :: g, i, x => lenOf g i x
def lenDec (l : List (E × Bool)) : E → Option Bool
  | .ic .lss (.li i) x => lenOf l i x
  | _ => none
def orTry {α : Type} : Option α → Option α → Option α
  | some b, _ => some b
  | none, r => r
def Gam.dec (g : Gam) (e : E) : Option Bool :=
  match lenDec g.l e with
  | some b => some b
  | none => match lookE g.l e with
    | some b => some b
    | none => g.D g.l e
/-- One form for what says the same; true: it is the other way about. -/
def normE : E → E × Bool
  | .ic .neq a b => (.ic .eql a b, true)
  | .ic .gtr a b => (.ic .lss b a, false)
  | .ic .geq a b => (.ic .lss a b, true)
  | .ic .leq a b => (.ic .lss b a, true)
  | .fc .neq a b => (.fc .eql a b, true)
  | .fc .gtr a b => (.fc .lss b a, false)
  | .fc .geq a b => (.fc .leq b a, false)
  | e => (e, false)
def truthN (g : Gam) (e : E) (t : Bool) : Res Bool :=
  match g.dec e with
  | some b => .ok (xor b t)
  | none => .need e
/-- Where both ways say the same, it is so. -/
def bothT (r : Res Bool) : Res Bool → Res Bool → Res Bool
  | .ok a, .ok b => bif Bool.xor a b then r else .ok a
  | _, _ => r
def truthE (g : Gam) : E → Res Bool
  | .nt a => match truthE g a with
    | .ok b => .ok (!b)
    | r => r
  | .an a b => match truthE g a with
    | .ok true => truthE g b
    | r => r
  | .lb x => .ok x
  | .tb c a b => match truthE g c with
    | .ok true => truthE g a
    | .ok false => truthE g b
    | r => bothT r (truthE g a) (truthE g b)
  | e => truthN g (normE e).1 (normE e).2
/-- What is so where a condition is. -/
def tell (g : Gam) : E → Bool → Gam
  | .nt a, b => tell g a (!b)
  | .an a c, b => bif b then tell (tell g a true) c true else g.add (.an a c) false
  | .tb c a (.lb false), b => bif b then tell (tell g c true) a true else g.add (.tb c a (.lb false)) false
  | e, b => g.add (normE e).1 (Bool.xor b (normE e).2)
/-- Likewise, each way with what holds there. -/
def truthT : E → Gam → Res Bool
  | .nt a, g => match truthT a g with
    | .ok b => .ok (!b)
    | r => r
  | .an a b, g => match truthT a g with
    | .ok true => truthT b g
    | .ok false => .ok false
    | r => match truthT b (tell g a true) with
      | .ok false => .ok false
      | _ => r
  | .lb x, _ => .ok x
  | .tb c a b, g => match truthT c g with
    | .ok true => truthT a g
    | .ok false => truthT b g
    | r => bothT r (truthT a (tell g c true)) (truthT b (tell g c false))
  | e, g => truthN g (normE e).1 (normE e).2
def truthU (g : Gam) (e : E) : Res Bool := match truthE g e with
  | .need x => (match (match e with
    | .nt _ | .an _ _ | .tb _ _ _ => truthT e g
    | _ => .need x) with
    | .ok b => .ok b
    | _ => .need x)
  | r => r
def truth (g : Gam) : SV → Res Bool
  | .c (.b x) => .ok x
  | .c (.eb e) => truthU g e
  | .c .u => .bad 1
  | _ => .bad 100

/-! ### Operations on cells -/
def C.toI : C → Option (IntKind × E)
  | C.i k n => some (k, .li n)
  | .ei k e => some (k, e)
  | _ => none
def C.toF : C → Option E
  | .f x => some (.lf x)
  | .ef e => some e
  | _ => none
def C.toB : C → Option E
  | .b x => some (.lb x)
  | .eb e => some e
  | _ => none

def isCmp : BinOp → Bool
  | .eql | .neq | .lss | .leq | .gtr | .geq => true
  | _ => false
def isFArith : BinOp → Bool
  | .add | .sub | .mul | .quo => true
  | _ => false

def isShift : BinOp → Bool
  | .shl | .shr => true
  | _ => false
def isDiv : BinOp → Bool
  | .quo | .rem => true
  | _ => false

/-- A comparison of what hangs on a condition hangs on it. -/
def icL (op : BinOp) : E → E → E
  | .li m, .li n => .lb (icV op m n)
  | .ti c a b, y => .tb c (icL op a y) (icL op b y)
  | x, y => .ic op x y
def icR (op : BinOp) (x : E) : E → E
  | .ti c a b => .tb c (icR op x a) (icR op x b)
  | y => icL op x y
/-- Likewise of floats, beside one that is known. -/
def fcL (op : BinOp) (y : Nat) : E → E
  | .tf c a b => .tb c (fcL op y a) (fcL op y b)
  | .lf x => .lb (fcV op x y)
  | e => .fc op e (.lf y)
def fcR (op : BinOp) (x : Nat) : E → E
  | .tf c a b => .tb c (fcR op x a) (fcR op x b)
  | .lf y => .lb (fcV op x y)
  | e => .fc op (.lf x) e
/-- Likewise of two floats, where few ways are there. -/
def leavesE : E → Nat
  | .tf _ a b => leavesE a + leavesE b
  | _ => 1
def fcA (op : BinOp) (a : E) : E → E
  | .tf c x y => .tb c (fcA op a x) (fcA op a y)
  | b => .fc op a b
def fcB (op : BinOp) (b : E) : E → E
  | .tf c x y => .tb c (fcB op b x) (fcB op b y)
  | a => fcA op a b
def fcP (op : BinOp) (a b : E) : E :=
  match op with
  | .eql | .neq => bif Nat.ble (Nat.mul (leavesE a) (leavesE b)) 64 then fcB op b a else .fc op a b
  | _ => .fc op a b
/-- Two whole numbers that are known. -/
def binII (op : BinOp) (k k' : IntKind) (a b : Int) : Res C :=
  bif isShift op then bif decide (b < 0) then .bad 2 else .ok (.i k (ibV op k a b))
  else if k = k' then
    bif isCmp op then .ok (.b (icV op a b))
    else bif isDiv op && decide (b = 0) then .bad 3 else .ok (.i k (ibV op k a b))
  else .bad 4
/-- Two whole numbers. -/
def binEI (g : Gam) (op : BinOp) (k k' : IntKind) (a b : E) : Res C :=
  bif isShift op then match b with
    | .li n => bif decide (n < 0) then .bad 5 else .ok (.ei k (.ib op k a b))
    | _ => match truthE g (.ic .lss b (.li 0)) with
      | .ok false => .ok (.ei k (.ib op k a b))
      | .ok true => .bad 5
      | .need e => .need e
      | .bad n => .bad n
  else if k = k' then
    bif isCmp op then .ok (.eb (icR op a b))
    else bif isDiv op then match b with
      | .li n => bif decide (n = 0) then .bad 6 else .ok (.ei k (.ib op k a b))
      | _ => match truthE g (.ic .eql b (.li 0)) with
        | .ok false => .ok (.ei k (.ib op k a b))
        | .ok true => .bad 6
        | .need e => .need e
        | .bad n => .bad n
    else .ok (.ei k (.ib op k a b))
  else .bad 4

/-- Whether two cells of plain numbers are equal. -/
def eqC : C → C → Option C
  | .b x, .b y => some (.b (decide (x = y)))
  | .i k x, .i k' y => if k = k' then some (.b (decide (x = y))) else none
  | .f x, .f y => some (.b (eqB x y))
  | x, y => match x.toI, y.toI with
    | some (k, a), some (k', b) => if k = k' then some (.eb (.ic .eql a b)) else none
    | _, _ => match x.toF, y.toF with
      | some a, some b => some (.eb (.fc .eql a b))
      | _, _ => match x.toB, y.toB with
        | some a, some b => some (.eb (.tb a b (.nt b)))
        | _, _ => none
def andC : C → C → Option C
  | .b false, .b _ => some (.b false)
  | .b true, .b y => some (.b y)
  | .b true, .eb e => some (.eb e)
  | .b false, .eb _ => some (.b false)
  | .eb e, .b true => some (.eb e)
  | .eb e, .b false => some (.eb (.an e (.lb false)))
  | .eb a, .eb b => some (.eb (.an a b))
  | _, _ => none
def notC : C → Option C
  | .b x => some (.b (!x))
  | .eb e => some (.eb (.nt e))
  | _ => none

/-- A type whose '==' compares one such cell: a truth, a whole number, a float. -/
def plainT (P : Program) (t : TypeId) (x : C) : Bool :=
  match P.underlying t, x with
  | some .bool, .b _ | some .bool, .eb _ | some (.int _), .i _ _ | some (.int _), .ei _ _ | some (.float .f64), .f _ | some (.float .f64), .ef _ => true
  | _, _ => false
def isAggP (P : Program) (t : TypeId) : Option Bool :=
  match P.underlying t with
  | some (.struct _) | some (.array _ _) => some true
  | some _ => some false
  | none => none
def sizeP (P : Program) (t : TypeId) : Option Nat := (P.info? t).map (·.size)
def partC (P : Program) (t : TypeId) (cs : List C) (off : Nat) : Option SV :=
  match isAggP P t, sizeP P t with
  | some true, some n => bif Nat.ble (off + n) cs.length then some (.ag ((cs.drop off).take n)) else none
  | some false, some _ => (cs[off]?).map .c
  | _, _ => none

/-- Of rows of cells: are both equal? Field by field, item by item. -/
def eqFs (P : Program) (rec : TypeId → SV → SV → Option C) (xs ys : List C) : List Field → Option C
  | [] => some (.b true)
  | f :: fs => bif f.name != "_" then
      match partC P f.type xs f.offset, partC P f.type ys f.offset with
      | some a, some b => match rec f.type a b with
        | none => none
        | some c => match eqFs P rec xs ys fs with
          | none => none
          | some d => andC c d
      | _, _ => none
    else none
def eqIs (P : Program) (rec : SV → SV → Option C) (e : TypeId) (s : Nat) (xs ys : List C) : List Nat → Option C
  | [] => some (.b true)
  | i :: is =>
      match partC P e xs (i * s), partC P e ys (i * s) with
      | some a, some b => match rec a b with
        | none => none
        | some c => match eqIs P rec e s xs ys is with
          | none => none
          | some d => andC c d
      | _, _ => none
def eqD (P : Program) : Nat → TypeId → SV → SV → Option C
  | 0, _, _, _ => none
  | d + 1, t, x, y =>
    match x, y with
    | .ag xs, .ag ys => match P.underlying t with
      | some (.struct fs) => bif !P.stoodInHeld t then eqFs P (eqD P d) xs ys fs.toList else none
      | some (.array (n + 1) e) => match sizeP P e with
        | some s => eqIs P (eqD P d e) e s xs ys (List.range (n + 1))
        | none => none
      | _ => none
    | .c x, .c y => bif plainT P t x && plainT P t y then eqC x y else none
    | _, _ => none
def eqAgg (P : Program) (t : TypeId) (xs ys : List C) : Option C := bif Nat.ble 9 P.depth then eqD P 9 t (.ag xs) (.ag ys) else none
def nilish (P : Program) (t : TypeId) (x y : C) : Option Bool :=
  match P.underlying t, x, y with
  | some (.pointer _), .p0, .p0 => some true
  | some (.pointer _), .p0, .p _ _ => some false
  | some (.pointer _), .p _ _, .p0 => some false
  | some (.slice _), .sl0, .sl0 => some true
  | some (.slice _), .sl0, .sl _ _ _ _ => some false
  | some (.slice _), .sl _ _ _ _, .sl0 => some false
  | some (.func _ _ _), .fn0, .fn0 => some true
  | some (.func _ _ _), .fn0, .fn _ _ => some false
  | some (.func _ _ _), .fn _ _, .fn0 => some false
  | _, _, _ => none

def eqV (P : Program) (t : TypeId) : SV → SV → Option C
  | .c x, .c y => match eqC x y with
    | some r => bif plainT P t x && plainT P t y then some r else none
    | none => (nilish P t x y).map .b
  | .ag xs, .ag ys => eqAgg P t xs ys
  | _, _ => none

def eqable : SV → Bool
  | .c (.i _ _) | .c (.ei _ _) | .c (.f _) | .c (.ef _) | .c .u => false
  | _ => true
def binV (P : Program) (g : Gam) (op : BinOp) (t : TypeId) : SV → SV → Res SV
  | .c (.i k a), .c (.i k' b) => (binII op k k' a b).bind fun c => .ok (.c c)
  | .c (.f a), .c (.f b) => bif isCmp op then .ok (.c (.b (fcV op a b))) else bif isFArith op then .ok (.c (.f (cop op a b))) else .bad 7
  | x, y =>
    match x, y with
    | .c (.ei k a), .c (.ei k' b) => (binEI g op k k' a b).bind fun c => .ok (.c c)
    | .c (.ei k a), .c (.i k' b) => (binEI g op k k' a (.li b)).bind fun c => .ok (.c c)
    | .c (.i k a), .c (.ei k' b) => (binEI g op k k' (.li a) b).bind fun c => .ok (.c c)
    | .c (.ef a), .c (.ef b) => bif isCmp op then .ok (.c (.eb (fcP op a b))) else bif isFArith op then .ok (.c (.ef (.fb op a b))) else .bad 8
    | .c (.ef a), .c (.f b) => bif isCmp op then .ok (.c (.eb (fcL op b a))) else bif isFArith op then .ok (.c (.ef (.fb op a (.lf b)))) else .bad 8
    | .c (.f a), .c (.ef b) => bif isCmp op then .ok (.c (.eb (fcR op a b))) else bif isFArith op then .ok (.c (.ef (.fb op (.lf a) b))) else .bad 8
    | x, y => match op with
      | .eql => bif eqable x then (orBad 9 (eqV P t x y)).bind fun c => .ok (.c c) else .bad 9
      | .neq => bif eqable x then (orBad 9 ((eqV P t x y).bind notC)).bind fun c => .ok (.c c) else .bad 9
      | _ => .bad 9

def unV : UnOp → SV → Res SV
  | .neg, .c (.i k n) => .ok (.c (.i k (ibV .sub k 0 n)))
  | .neg, .c (.ei k e) => .ok (.c (.ei k (.ib .sub k (.li 0) e)))
  | .neg, .c (.f x) => .ok (.c (.f (fnegV x)))
  | .neg, .c (.ef e) => .ok (.c (.ef (.fneg e)))
  | .not, .c (.b x) => .ok (.c (.b (!x)))
  | .not, .c (.eb e) => .ok (.c (.eb (.nt e)))
  | _, _ => .bad 10

/-- 'int' of a float, way by way; a float of that. -/
def f2iE : E → E
  | .tf c a b => .ti c (f2iE a) (f2iE b)
  | .lf x => .li (f2iV x)
  | e => .f2i e
def i2fL : E → E
  | .li n => .lf (i2fV n)
  | e => .i2f e
def i2fE : E → E
  | .ti c (.f2i a) b => .tf c (.i2f (.f2i a)) (i2fL b)
  | .ti c a (.f2i b) => .tf c (i2fL a) (.i2f (.f2i b))
  | e => .i2f e
def convV (P : Program) (g : Gam) (src dst : TypeId) (x : SV) : Res SV :=
  match P.underlying src, P.underlying dst, x with
  | some _, some (.int k), .c (.i _ n) => .ok (.c (.i k (wrapF k n)))
  | some _, some (.int k), .c (.ei _ e) => .ok (.c (.ei k (.iw k e)))
  | some _, some (.float .f64), .c (.i _ n) => .ok (.c (.f (i2fV n)))
  | some _, some (.float .f64), .c (.ei _ e) => .ok (.c (.ef (i2fE e)))
  | some _, some (.float .f64), .c (.f n) => .ok (.c (.f n))
  | some _, some (.float .f64), .c (.ef e) => .ok (.c (.ef e))
  | some _, some (.int k), .c (.f n) =>
    match (FloatKind.f64.decode n).toInt .zero with
    | some m => bif decide (k.min ≤ m) && decide (m ≤ k.max) then .ok (.c (.i k m)) else .bad 11
    | none => .bad 11
  | some _, some (.int .i64), .c (.ef e) => match truthE g (fcP .leq (.lf 14010698440749613056) e), truthE g (fcP .leq e (.lf 4787326403894837248)) with
    | .ok true, .ok true => .ok (.c (.ei .i64 (f2iE e)))
    | _, _ => .bad 11
  | _, _, _ => .bad 11

/-! ### Types -/
def zeroP (P : Program) (t : TypeId) : Option SV :=
  match P.info? t with
  | some i => match i.zero with
    | some v => ofVal v
    | none => none
  | none => none

/-- What an operation is to do. -/
inductive Plan where
  | val (v : SV)
  | see (c : C)
  | load (agg : Bool) (b o n : Nat)
  | loadx (agg : Bool) (b o s n cnt : Nat) (e : E)
  | store (b o : Nat) (cs : List C)
  | new (cs : List C) (as : Option (Nat × Nat))
  | call (f : FuncId) (args : List SV)
  | app (e : TypeId) (dst : Option (Nat × Nat × Nat × Cap)) (size : Nat) (src : Option (Nat × Nat × Nat))
  | copy (dst : Nat × Nat × Nat) (size : Nat) (src : Nat × Nat × Nat)

def evalX (get : Nat → Option SV) : Operand → Option SV
  | .tmp t => get t
  | .const v => ofVal v
  | .global _ => none
  | .func f => some (.c (.fn f []))

def nmF : Option (E → Option Nat) → E → C
  | none, e => .ef e
  | some f, e => match f e with
    | some k => .ef (.vf k)
    | none => .ef e
/-- Where few ways are joined they stay in sight: the table has no names for them. -/
def nmM (o : Option (E → Option Nat)) (e : E) : C := nmF o e
/-- Floats by their names. -/
def nmC (o : Option (E → Option Nat)) : C → C
  | .ef (.tf c a b) => nmM o (.tf c a b)
  | .ef (.fb p a b) => nmF o (.fb p a b)
  | .ef (.af f i a) => nmF o (.af f i a)
  | c => c
def nmV1 (o : Option (E → Option Nat)) : SV1 → SV1
  | .c x => .c (nmC o x)
  | .ag l => .ag (l.map (nmC o))
def nmV (o : Option (E → Option Nat)) : SV → SV
  | .c x => .c (nmC o x)
  | .ag l => .ag (l.map (nmC o))
  | .tu l => .tu (l.map (nmV1 o))
def CP.toC : CP → C
  | .p0 => .p0
  | .sl0 => .sl0
  | .p b o => .p b o
  | .sl b o l c => .sl b o l c
def mkCC : List (E × CP) → CP → C
  | [], d => d.toC
  | x :: l, d => .cc (x :: l) d
/-- A place by a number as a place by conditions. -/
def chainX (b o s : Nat) (e : E) : Nat → Nat → List (E × CP)
  | _, 0 => []
  | i, k + 1 => (.ic .eql e (.li i), .p b (o + s * i)) :: chainX b o s e (i + 1) k
def chainOf : C → Option (List (E × CP) × CP)
  | .p0 => some ([], .p0)
  | .sl0 => some ([], .sl0)
  | .p b o => some ([], .p b o)
  | .sl b o l c => some ([], .sl b o l c)
  | .cc l d => some (l, d)
  | .px b o s (n + 1) e => some (chainX b o s e 0 n, .p b (o + s * n))
  | _ => none
def guardL (e : E) : List (E × CP) → List (E × CP)
  | [] => []
  | (c, x) :: l => (.an e c, x) :: guardL e l
/-- Where either lies, by a condition. -/
def joinCC (e : E) : Option (List (E × CP) × CP) → Option (List (E × CP) × CP) → C
  | some x, some y => bif Nat.ble (x.1.length + y.1.length) 60 then .cc (guardL e x.1 ++ (e, x.2) :: y.1) y.2 else .u
  | _, _ => .u
/-- What is left of a condition where another is known. -/
def underE (c : E) (t : Bool) : E → E
  | .an a b => if .an a b = c then .lb t else match underE c t a with
    | .lb true => underE c t b
    | .lb false => .lb false
    | x => .an x (underE c t b)
  | e => if e = c then .lb t else e
def pickP (c : E) (t : Bool) : List (E × CP) → CP → List (E × CP) × CP
  | [], d => ([], d)
  | (e, x) :: l, d => match underE c t e with
    | .lb true => ([], x)
    | .lb false => pickP c t l d
    | e' => ((e', x) :: (pickP c t l d).1, (pickP c t l d).2)
def pickC (c : E) (t : Bool) : C → C
  | .cc l d => mkCC (pickP c t l d).1 (pickP c t l d).2
  | x => x
def pickV (c : E) (t : Bool) : Option SV → Option SV
  | some (.c x) => some (.c (pickC c t x))
  | r => r
def pickG (c : E) (t : Bool) (get : Nat → Option SV) : Nat → Option SV := fun n => pickV c t (get n)
def headE : E → E
  | .an a _ => headE a
  | e => e
def headC : Option SV → Option E
  | some (.c (.cc ((e, _) :: _) _)) => some (headE e)
  | _ => none
/-- What is left of either way, where it hangs on the same condition. -/
def undF (c : E) (t : Bool) : E → E
  | .tf c' a b => if c' = c then (bif t then undF c t a else undF c t b) else .tf c' a b
  | e => e
def undI (c : E) (t : Bool) : E → E
  | .ti c' a b => if c' = c then (bif t then undI c t a else undI c t b) else .ti c' a b
  | e => e
def pickO (c : E) (t : Bool) : Option (List (E × CP) × CP) → Option (List (E × CP) × CP)
  | some q => some (pickP c t q.1 q.2)
  | none => none
def mergeC (o : Option (E → Option Nat)) (e : E) (a b : C) : C :=
  if a = b then a else
  match a.toF, b.toF with
  | some x, some y => nmM o (.tf e (undF e true x) (undF e false y))
  | _, _ => match a.toI, b.toI with
    | some (k, x), some (k', y) => if k = k' then .ei k (.ti e (undI e true x) (undI e false y)) else .u
    | _, _ => match a.toB, b.toB with
      | some x, some y => .eb (.tb e x y)
      | _, _ => joinCC e (pickO e true (chainOf a)) (pickO e false (chainOf b))
def mergeL (o : Option (E → Option Nat)) (e : E) : List C → List C → Option (List C)
  | [], [] => some []
  | a :: l, b :: m => match mergeL o e l m with
    | some r => some (mergeC o e a b :: r)
    | none => none
  | _, _ => none
def mergeV (o : Option (E → Option Nat)) (e : E) : SV → SV → Option SV
  | .c a, .c b => some (.c (mergeC o e a b))
  | .ag l, .ag m => (mergeL o e l m).map .ag
  | .tu l, .tu m => if l = m then some (.tu l) else none
  | _, _ => none
/-- From where, up to where a number may be, as far as is known. -/
def trimLo (g : Gam) (ie : E) : Nat → Nat → Nat
  | 0, lo => lo
  | k + 1, lo => match truthE g (icR .lss ie (.li ((lo + 1 : Nat) : Int))) with
    | .ok false => trimLo g ie k (lo + 1)
    | _ => lo
def trimHi (g : Gam) (ie : E) : Nat → Nat
  | 0 => 0
  | n + 1 => match truthE g (icR .lss ie (.li (n : Int))) with
    | .ok true => trimHi g ie n
    | _ => n + 1
/-- A number, where conditions that are known are left out. -/
def simI (g : Gam) : E → E
  | .ti c a b => match truthE g c with
    | .ok true => simI g a
    | .ok false => simI g b
    | _ => .ti c a b
  | e => e
def simV (g : Gam) : Option SV → Option SV
  | some (.c (.ei k e)) => some (.c (.ei k (simI g e)))
  | r => r
/-- A condition that wants ways of their own as far as a loop's body: it is marked. -/
def hardE : E → E
  | .nt (.nt e) => .nt (.nt e)
  | e => .nt (.nt e)
def softE : E → E
  | .nt (.nt e) => e
  | e => e
def isHard : E → Bool
  | .nt (.nt _) => true
  | _ => false
/-- A number that can be but one. -/
def pinS (g : Gam) : Option SV → Option SV
  | some (.c (.ei .i64 e)) => match truthE g (icR .lss e (.li 0)) with
    | .ok false => forceN (trimLo g e 40 0) fun lo => match truthE g (icR .lss e (.li ((lo + 1 : Nat) : Int))) with
      | .ok true => some (.c (.i .i64 lo))
      | _ => some (.c (.ei .i64 e))
    | _ => some (.c (.ei .i64 e))
  | x => x
/-- The name that a number hangs on. -/
def nameI : E → Option Nat
  | .vi i => some i
  | .ib _ _ a b => match nameI a with
    | some i => some i
    | none => nameI b
  | .iw _ a => nameI a
  | _ => none
def pinNeed (g : Gam) (n : Nat) : Option SV → Res Plan
  | some (.c (.ei .i64 e)) => match truthE g (match nameI e with
      | some i => .ic .lss (.vi i) (.li ((trimLo g (.vi i) 40 0 + 1 : Nat) : Int))
      | none => icR .lss e (.li ((trimLo g e 40 0 + 1 : Nat) : Int))) with
    | .need x => .need (hardE x)
    | _ => .bad n
  | _ => .bad n
/-- Where it is, by a number that is not known. -/
def idxY (P : Program) (g : Gam) (e : TypeId) (b o len : Nat) (ix : Option SV) : Res C :=
  match ix, sizeP P e with
  | some (.c (.ei .i64 ie)), some s => (truthE g (icR .lss ie (.li 0))).bind fun t0 => bif t0 then .bad 54 else (truthE g (icR .lss ie (.li len))).bind fun t1 => bif t1 && Nat.ble len 1000000 then forceN (trimLo g ie len 0) fun lo => forceN (trimHi g ie len) fun hi => .ok (.px b (o + s * lo) s (hi - lo) (bif Nat.beq lo 0 then ie else .ib .sub .i64 ie (.li lo))) else .bad 54
  | _, _ => .bad 54
def idxX (P : Program) (g : Gam) (e : TypeId) (b o len : Nat) (ix : Option SV) : Res C := idxY P g e b o len (simV g ix)
def fillC (place : Nat → Option (Nat × Nat)) (cells : List C) : List (Nat × List C) → Option (List C)
  | [] => some cells
  | (i, v) :: rest =>
    match place i with
    | none => none
    | some (off, size) => bif Nat.beq v.length size && Nat.ble (off + size) cells.length then fillC place (cells.take off ++ v ++ cells.drop (off + size)) rest else none

def partsX (get : Nat → Option SV) : List (Nat × Operand) → Option (List (Nat × List C))
  | [] => some []
  | (i, x) :: l => match (evalX get x).bind SV.cells with
    | none => none
    | some c => match partsX get l with
      | none => none
      | some m => some ((i, c) :: m)

def repeatC : Nat → List C → List C
  | 0, _ => []
  | n + 1, l => l ++ repeatC n l

def asNat : Option SV → Option Nat
  | some (.c (.i _ n)) => match n with
    | .ofNat k => some k
    | .negSucc _ => none
  | _ => none
def asSlice : Option SV → Option (Option (Nat × Nat × Nat × Cap))
  | some (.c (.sl b o l c)) => some (some (b, o, l, c))
  | some (.c .sl0) => some none
  | _ => none

def toSV1 : SV1 → SV
  | .c x => .c x
  | .ag l => .ag l

def capsOf : List SV → Option (List (Nat × Nat))
  | [] => some []
  | .c (.p b o) :: l => (capsOf l).map ((b, o) :: ·)
  | _ :: _ => none

/-- The lesser, the greater of two; of many. -/
def mmE (mx : Bool) (x y : E) : E :=
  match (bif mx then icR .lss x y else icR .lss y x) with
  | .lb t => bif t then y else x
  | c => .ti c y x
def mmI (mx : Bool) : E → List (Option SV) → Option E
  | acc, [] => some acc
  | acc, some (.c x) :: l => match x.toI with
    | some (.i64, e) => mmI mx (mmE mx acc e) l
    | _ => none
  | _, _ => none
def ofI : E → C
  | .li n => .i .i64 n
  | e => .ei .i64 e
def mmC (mx : Bool) : List (Option SV) → Option C
  | some (.c x) :: l => match x.toI with
    | some (.i64, e) => (mmI mx e l).map ofI
    | _ => none
  | _ => none
def planBuiltin (P : Program) (b : Builtin) (ats : Array TypeId) (args : List (Option SV)) : Res Plan :=
  match b with
  | .len => match ats[0]?, args with
    | some t, x :: _ => match P.underlying t, x with
      | some (.slice _), some (.c (.sl _ _ l _)) => .ok (.val (.c (.i .i64 l)))
      | some (.slice _), some (.c .sl0) => .ok (.val (.c (.i .i64 0)))
      | some (.slice _), some (.c .q0) => .ok (.val (.c (.i .i64 0)))
      | some (.slice _), some (.c (.qi j _)) => .ok (.val (.c (.ei .i64 (.vl j))))
      | some (.slice _), some (.c (.qf j _)) => .ok (.val (.c (.ei .i64 (.vl j))))
      | some (.array n _), _ => .ok (.val (.c (.i .i64 n)))
      | _, _ => .bad 20
    | _, _ => .bad 20
  | .append => match ats[0]?, ats[1]?, args with
    | some t, some t2, [x, y] => bif Nat.beq t t2 && Nat.beq ats.size 2 then match P.underlying t with
      | some (.slice e) => match P.info? e, asSlice x, asSlice y, (zeroP P e).bind SV.cells with
        | some i, some d, some s, some z => bif Nat.ble i.bytes 100000 && Nat.beq z.length i.size then .ok (.app e d i.size (s.map fun q => (q.1, q.2.1, q.2.2.1))) else .bad 21
        | _, _, _, _ => .bad 21
      | _ => .bad 21
      else .bad 21
    | _, _, _ => .bad 21
  | .copy => match ats[0]?, args with
    | some t, [x, y] => match P.underlying t with
      | some (.slice e) => match sizeP P e, asSlice x, asSlice y with
        | some n, some (some d), some (some s) => .ok (.copy (d.1, d.2.1, d.2.2.1) n (s.1, s.2.1, s.2.2.1))
        | _, _, _ => .bad 22
      | _ => .bad 22
    | _, _ => .bad 22
  | .min => match mmC false args with
    | some c => .ok (.val (.c c))
    | none => .bad 23
  | .max => match mmC true args with
    | some c => .ok (.val (.c c))
    | none => .bad 23
  | _ => .bad 24

def planOf (P : Program) (g : Gam) (get : Nat → Option SV) (op : Op) : Res Plan :=
  match op with
  | .move x | .assign x => (orBad 30 (evalX get x)).bind fun v => .ok (.val v)
  | .pick c a b => (orBad 31 (evalX get c)).bind fun c => (truth g c).bind fun t => (orBad 31 (evalX get (bif t then a else b))).bind fun v => .ok (.val v)
  | .alloc t => (orBad 32 ((zeroP P t).bind SV.cells)).bind fun cs => .ok (.new cs none)
  | .box _ x => (orBad 33 ((evalX get x).bind SV.cells)).bind fun cs => .ok (.new cs none)
  | .build t parts =>
    match P.underlying t, (zeroP P t).bind SV.cells, partsX get parts.toList with
    | some (.struct fs), some z, some ps =>
      (orBad 34 (fillC (fun i => match fs[i]? with | some f => (sizeP P f.type).map (f.offset, ·) | none => none) z ps)).bind fun cs => bif fs.all (fun f => (sizeP P f.type).isSome) then .ok (.val (.ag cs)) else .bad 34
    | some (.array _ e), some z, some ps =>
      match sizeP P e with
      | some s => (orBad 34 (fillC (fun i => some (i * s, s)) z ps)).bind fun cs => .ok (.val (.ag cs))
      | none => .bad 34
    | _, _, _ => .bad 34
  | .buildSlice t len parts =>
    match P.underlying t with
    | some (.slice e) => match sizeP P e, (zeroP P e).bind SV.cells, partsX get parts.toList with
      | some s, some z, some ps =>
        bif Nat.beq z.length s && Nat.ble (len * s) 16777216 then
          (orBad 35 (fillC (fun i => some (i * s, s)) (repeatC len z) ps)).bind fun cs => .ok (.new cs (some (len, len)))
        else .bad 35
      | _, _, _ => .bad 35
    | _ => .bad 35
  | .load t a =>
    match isAggP P t, sizeP P t, evalX get a with
    | some agg, some n, some (.c (.p b o)) => .ok (.load agg b o (bif agg then n else 1))
    | some false, some _, some (.c (.pi j _ i)) => .ok (.see (.ei .i64 (.at j i)))
    | some false, some _, some (.c (.pf j _ i)) => .ok (.see (.ef (.atf j i)))
    | some agg, some n, some (.c (.px b o s k e)) => .ok (.loadx agg b o s k (bif agg then n else 1) e)
    | _, _, _ => .bad 36
  | .store t a x =>
    match sizeP P t, evalX get a, (evalX get x).bind SV.cells with
    | some n, some (.c (.p b o)), some cs => bif Nat.beq cs.length n then .ok (.store b o cs) else .bad 37
    | _, _, _ => .bad 37
  | .nilCheck x => match evalX get x with
    | some (.c (.p b o)) => .ok (.val (.c (.p b o)))
    | some (.c (.fn f c)) => .ok (.val (.c (.fn f c)))
    | some (.c (.fm f b o)) => .ok (.val (.c (.fm f b o)))
    | some (.c (.px b o s k e)) => .ok (.val (.c (.px b o s k e)))
    | _ => .bad 38
  | .binOp op t x y _ => match evalX get x, evalX get y with
    | some a, some b => (binV P g op t a b).bind fun v => .ok (.val v)
    | _, _ => .bad 39
  | .unOp op _ x => (orBad 40 (evalX get x)).bind fun a => (unV op a).bind fun v => .ok (.val v)
  | .convert s d x => (orBad 41 (evalX get x)).bind fun a => (convV P g s d a).bind fun v => .ok (.val v)
  | .makeFunc (.func f) first caps =>
    bif first.isEmpty then match allSome (evalX get) caps.toList with
      | some l => (orBad 42 (capsOf l)).bind fun cs => .ok (.val (.c (.fn f cs)))
      | none => .bad 42
    else match first.toList, caps.isEmpty with
      | [x], true => match evalX get x with
        | some (.c (.p b o)) => .ok (.val (.c (.fm f b o)))
        | _ => .bad 42
      | _, _ => .bad 42
  | .makeSlice t l c =>
    match P.underlying t with
    | some (.slice e) => match sizeP P e, (zeroP P e).bind SV.cells, asNat (pinS g (evalX get l)), asNat (pinS g (evalX get c)), P.info? e with
      | some s, some z, some n, some m, some i =>
        bif Nat.beq z.length s && Nat.ble n m && Nat.ble m 1000000 && Nat.ble i.bytes 100000 then .ok (.new (repeatC m z) (some (n, m))) else .bad 43
      | _, _, _, _, _ => pinNeed g 43 (evalX get l)
    | _ => .bad 43
  | .slice t x lo hi mx =>
    match P.underlying t, evalX get x with
    | some (.slice e), some (.c (.sl b o len (.n cap))) =>
      match sizeP P e, (match mx with | some m => asNat (evalX get m) | none => some cap), (match hi with | some h => asNat (evalX get h) | none => some len), (match lo with | some l => asNat (evalX get l) | none => some 0) with
      | some s, some m, some h, some l =>
        bif Nat.ble m cap && Nat.ble h m && Nat.ble l h && (mx.isNone || hi.isSome) then .ok (.val (.c (.sl b (bif Nat.beq m l then o else o + l * s) (h - l) (.n (m - l))))) else .bad 44
      | _, _, _, _ => .bad 44
    | some (.slice e), some (.c (.sl b o len (.u sz))) =>
      match sizeP P e, mx, (match hi with | some h => asNat (evalX get h) | none => some len), (match lo with | some l => asNat (evalX get l) | none => some 0) with
      | some s, none, some h, some l =>
        bif Nat.ble h len && Nat.blt l h && Nat.beq s sz then .ok (.val (.c (.sl b (o + l * s) (h - l) (.u sz)))) else .bad 44
      | _, _, _, _ => .bad 44
    | _, _ => .bad 44
  | .fieldAddr s x f =>
    match P.underlying s, evalX get x with
    | some (.struct fs), some (.c (.p b o)) => match fs[f]? with
      | some fd => match sizeP P fd.type with
        | some n => bif Nat.beq n 0 then .bad 45 else .ok (.val (.c (.p b (o + fd.offset))))
        | none => .bad 45
      | none => .bad 45
    | some (.struct fs), some (.c (.px b o s' k e)) => match fs[f]? with
      | some fd => match sizeP P fd.type with
        | some n => bif Nat.beq n 0 then .bad 45 else .ok (.val (.c (.px b (o + fd.offset) s' k e)))
        | none => .bad 45
      | none => .bad 45
    | _, _ => .bad 45
  | .field t x f =>
    match P.underlying t, evalX get x with
    | some (.struct fs), some (.ag cs) => match fs[f]? with
      | some fd => (orBad 46 (partC P fd.type cs fd.offset)).bind fun v => .ok (.val v)
      | none => .bad 46
    | _, _ => .bad 46
  | .indexAddr t x ix =>
    match P.underlying t, evalX get x, asNat (evalX get ix) with
    | some (.slice e), some (.c (.sl b o len _)), some i => match sizeP P e with
      | some s => bif Nat.blt i len then .ok (.val (.c (.p b (o + i * s)))) else .bad 47
      | none => .bad 47
    | some (.array len e), some (.c (.p b o)), some i => match sizeP P e with
      | some s => bif Nat.blt i len then .ok (.val (.c (.p b (o + i * s)))) else .bad 47
      | none => .bad 47
    | some (.slice e), some (.c (.qi j b)), some i => match sizeP P e with
      | some s => bif Nat.beq s 1 then (truthE g (.ic .lss (.li i) (.vl j))).bind fun t => bif t then .ok (.val (.c (.pi j b i))) else .bad 53 else .bad 53
      | none => .bad 53
    | some (.slice e), some (.c (.qf j b)), some i => match sizeP P e with
      | some s => bif Nat.beq s 1 then (truthE g (.ic .lss (.li i) (.vl j))).bind fun t => bif t then .ok (.val (.c (.pf j b i))) else .bad 53 else .bad 53
      | none => .bad 53
    | some (.slice e), some (.c (.sl b o len _)), none => (idxX P g e b o len (evalX get ix)).bind fun c => .ok (.val (.c c))
    | some (.array len e), some (.c (.p b o)), none => (idxX P g e b o len (evalX get ix)).bind fun c => .ok (.val (.c c))
    | _, _, _ => .bad 47
  | .index t x ix =>
    match P.underlying t, evalX get x, asNat (evalX get ix) with
    | some (.array len e), some (.ag cs), some i => match sizeP P e with
      | some s => bif Nat.blt i len then (orBad 48 (partC P e cs (i * s))).bind fun v => .ok (.val v) else .bad 48
      | none => .bad 48
    | _, _, _ => .bad 48
  | .extract t i => match evalX get t with
    | some (.tu l) => (orBad 49 (l[i]?)).bind fun v => .ok (.val (toSV1 v))
    | _ => .bad 49
  | .call c =>
    match c.callee with
    | .value f => match evalX get f, allSome (evalX get) c.args.toList with
      | some (.c (.fn f caps)), some args => .ok (.call f (args ++ caps.map fun q => .c (.p q.1 q.2)))
      | some (.c (.fm f b o)), some args => .ok (.call f (.c (.p b o) :: args))
      | _, _ => .bad 50
    | .builtin b => planBuiltin P b c.argTypes (c.args.toList.map (evalX get))
    | _ => .bad 51
  | _ => .bad 52

def plan_move (_P : Program) (_g : Gam) (get : Nat → Option SV) (x : Operand) : Res Plan := (orBad 30 (evalX get x)).bind fun v => .ok (.val v)
def plan_pick (_P : Program) (g : Gam) (get : Nat → Option SV) (c : Operand) (a : Operand) (b : Operand) : Res Plan := (orBad 31 (evalX get c)).bind fun c => (truth g c).bind fun t => (orBad 31 (evalX get (bif t then a else b))).bind fun v => .ok (.val v)
def plan_alloc (P : Program) (_g : Gam) (_get : Nat → Option SV) (t : TypeId) : Res Plan := (orBad 32 ((zeroP P t).bind SV.cells)).bind fun cs => .ok (.new cs none)
def plan_box (_P : Program) (_g : Gam) (get : Nat → Option SV) (_e : TypeId) (x : Operand) : Res Plan := (orBad 33 ((evalX get x).bind SV.cells)).bind fun cs => .ok (.new cs none)
def plan_build (P : Program) (_g : Gam) (get : Nat → Option SV) (t : TypeId) (parts : Array (Nat × Operand)) : Res Plan :=
    match P.underlying t, (zeroP P t).bind SV.cells, partsX get parts.toList with
    | some (.struct fs), some z, some ps =>
      (orBad 34 (fillC (fun i => match fs[i]? with | some f => (sizeP P f.type).map (f.offset, ·) | none => none) z ps)).bind fun cs => bif fs.all (fun f => (sizeP P f.type).isSome) then .ok (.val (.ag cs)) else .bad 34
    | some (.array _ e), some z, some ps =>
      match sizeP P e with
      | some s => (orBad 34 (fillC (fun i => some (i * s, s)) z ps)).bind fun cs => .ok (.val (.ag cs))
      | none => .bad 34
    | _, _, _ => .bad 34
def plan_buildSlice (P : Program) (_g : Gam) (get : Nat → Option SV) (t : TypeId) (len : Nat) (parts : Array (Nat × Operand)) : Res Plan :=
    match P.underlying t with
    | some (.slice e) => match sizeP P e, (zeroP P e).bind SV.cells, partsX get parts.toList with
      | some s, some z, some ps =>
        bif Nat.beq z.length s && Nat.ble (len * s) 16777216 then
          (orBad 35 (fillC (fun i => some (i * s, s)) (repeatC len z) ps)).bind fun cs => .ok (.new cs (some (len, len)))
        else .bad 35
      | _, _, _ => .bad 35
    | _ => .bad 35
def plan_load (P : Program) (_g : Gam) (get : Nat → Option SV) (t : TypeId) (a : Operand) : Res Plan :=
    match isAggP P t, sizeP P t, evalX get a with
    | some agg, some n, some (.c (.p b o)) => .ok (.load agg b o (bif agg then n else 1))
    | some false, some _, some (.c (.pi j _ i)) => .ok (.see (.ei .i64 (.at j i)))
    | some false, some _, some (.c (.pf j _ i)) => .ok (.see (.ef (.atf j i)))
    | some agg, some n, some (.c (.px b o s k e)) => .ok (.loadx agg b o s k (bif agg then n else 1) e)
    | _, _, _ => .bad 36
def plan_store (P : Program) (_g : Gam) (get : Nat → Option SV) (t : TypeId) (a : Operand) (x : Operand) : Res Plan :=
    match sizeP P t, evalX get a, (evalX get x).bind SV.cells with
    | some n, some (.c (.p b o)), some cs => bif Nat.beq cs.length n then .ok (.store b o cs) else .bad 37
    | _, _, _ => .bad 37
def plan_nilCheck (_P : Program) (_g : Gam) (get : Nat → Option SV) (x : Operand) : Res Plan := match evalX get x with
    | some (.c (.p b o)) => .ok (.val (.c (.p b o)))
    | some (.c (.fn f c)) => .ok (.val (.c (.fn f c)))
    | some (.c (.fm f b o)) => .ok (.val (.c (.fm f b o)))
    | some (.c (.px b o s k e)) => .ok (.val (.c (.px b o s k e)))
    | _ => .bad 38
def plan_binOp (P : Program) (g : Gam) (get : Nat → Option SV) (op : BinOp) (t : TypeId) (x : Operand) (y : Operand) : Res Plan := match evalX get x, evalX get y with
    | some a, some b => (binV P g op t a b).bind fun v => .ok (.val v)
    | _, _ => .bad 39
def plan_unOp (_P : Program) (_g : Gam) (get : Nat → Option SV) (op : UnOp) (x : Operand) : Res Plan := (orBad 40 (evalX get x)).bind fun a => (unV op a).bind fun v => .ok (.val v)
def plan_convert (P : Program) (g : Gam) (get : Nat → Option SV) (s : TypeId) (d : TypeId) (x : Operand) : Res Plan := (orBad 41 (evalX get x)).bind fun a => (convV P g s d a).bind fun v => .ok (.val v)
def plan_makeFunc (_P : Program) (_g : Gam) (get : Nat → Option SV) (f : FuncId) (first : Array Operand) (caps : Array Operand) : Res Plan :=
    bif first.isEmpty then match allSome (evalX get) caps.toList with
      | some l => (orBad 42 (capsOf l)).bind fun cs => .ok (.val (.c (.fn f cs)))
      | none => .bad 42
    else match first.toList, caps.isEmpty with
      | [x], true => match evalX get x with
        | some (.c (.p b o)) => .ok (.val (.c (.fm f b o)))
        | _ => .bad 42
      | _, _ => .bad 42
def plan_makeSlice (P : Program) (g : Gam) (get : Nat → Option SV) (t : TypeId) (l : Operand) (c : Operand) : Res Plan :=
    match P.underlying t with
    | some (.slice e) => match sizeP P e, (zeroP P e).bind SV.cells, asNat (pinS g (evalX get l)), asNat (pinS g (evalX get c)), P.info? e with
      | some s, some z, some n, some m, some i =>
        bif Nat.beq z.length s && Nat.ble n m && Nat.ble m 1000000 && Nat.ble i.bytes 100000 then .ok (.new (repeatC m z) (some (n, m))) else .bad 43
      | _, _, _, _, _ => pinNeed g 43 (evalX get l)
    | _ => .bad 43
def plan_slice (P : Program) (_g : Gam) (get : Nat → Option SV) (t : TypeId) (x : Operand) (lo : Option Operand) (hi : Option Operand) (mx : Option Operand) : Res Plan :=
    match P.underlying t, evalX get x with
    | some (.slice e), some (.c (.sl b o len (.n cap))) =>
      match sizeP P e, (match mx with | some m => asNat (evalX get m) | none => some cap), (match hi with | some h => asNat (evalX get h) | none => some len), (match lo with | some l => asNat (evalX get l) | none => some 0) with
      | some s, some m, some h, some l =>
        bif Nat.ble m cap && Nat.ble h m && Nat.ble l h && (mx.isNone || hi.isSome) then .ok (.val (.c (.sl b (bif Nat.beq m l then o else o + l * s) (h - l) (.n (m - l))))) else .bad 44
      | _, _, _, _ => .bad 44
    | some (.slice e), some (.c (.sl b o len (.u sz))) =>
      match sizeP P e, mx, (match hi with | some h => asNat (evalX get h) | none => some len), (match lo with | some l => asNat (evalX get l) | none => some 0) with
      | some s, none, some h, some l =>
        bif Nat.ble h len && Nat.blt l h && Nat.beq s sz then .ok (.val (.c (.sl b (o + l * s) (h - l) (.u sz)))) else .bad 44
      | _, _, _, _ => .bad 44
    | _, _ => .bad 44
def plan_fieldAddr (P : Program) (_g : Gam) (get : Nat → Option SV) (s : TypeId) (x : Operand) (f : Nat) : Res Plan :=
    match P.underlying s, evalX get x with
    | some (.struct fs), some (.c (.p b o)) => match fs[f]? with
      | some fd => match sizeP P fd.type with
        | some n => bif Nat.beq n 0 then .bad 45 else .ok (.val (.c (.p b (o + fd.offset))))
        | none => .bad 45
      | none => .bad 45
    | some (.struct fs), some (.c (.px b o s' k e)) => match fs[f]? with
      | some fd => match sizeP P fd.type with
        | some n => bif Nat.beq n 0 then .bad 45 else .ok (.val (.c (.px b (o + fd.offset) s' k e)))
        | none => .bad 45
      | none => .bad 45
    | _, _ => .bad 45
def plan_field (P : Program) (_g : Gam) (get : Nat → Option SV) (t : TypeId) (x : Operand) (f : Nat) : Res Plan :=
    match P.underlying t, evalX get x with
    | some (.struct fs), some (.ag cs) => match fs[f]? with
      | some fd => (orBad 46 (partC P fd.type cs fd.offset)).bind fun v => .ok (.val v)
      | none => .bad 46
    | _, _ => .bad 46
def plan_indexAddr (P : Program) (g : Gam) (get : Nat → Option SV) (t : TypeId) (x : Operand) (ix : Operand) : Res Plan :=
    match P.underlying t, evalX get x, asNat (evalX get ix) with
    | some (.slice e), some (.c (.sl b o len _)), some i => match sizeP P e with
      | some s => bif Nat.blt i len then .ok (.val (.c (.p b (o + i * s)))) else .bad 47
      | none => .bad 47
    | some (.array len e), some (.c (.p b o)), some i => match sizeP P e with
      | some s => bif Nat.blt i len then .ok (.val (.c (.p b (o + i * s)))) else .bad 47
      | none => .bad 47
    | some (.slice e), some (.c (.qi j b)), some i => match sizeP P e with
      | some s => bif Nat.beq s 1 then (truthE g (.ic .lss (.li i) (.vl j))).bind fun t => bif t then .ok (.val (.c (.pi j b i))) else .bad 53 else .bad 53
      | none => .bad 53
    | some (.slice e), some (.c (.qf j b)), some i => match sizeP P e with
      | some s => bif Nat.beq s 1 then (truthE g (.ic .lss (.li i) (.vl j))).bind fun t => bif t then .ok (.val (.c (.pf j b i))) else .bad 53 else .bad 53
      | none => .bad 53
    | some (.slice e), some (.c (.sl b o len _)), none => (idxX P g e b o len (evalX get ix)).bind fun c => .ok (.val (.c c))
    | some (.array len e), some (.c (.p b o)), none => (idxX P g e b o len (evalX get ix)).bind fun c => .ok (.val (.c c))
    | _, _, _ => .bad 47
def plan_index (P : Program) (_g : Gam) (get : Nat → Option SV) (t : TypeId) (x : Operand) (ix : Operand) : Res Plan :=
    match P.underlying t, evalX get x, asNat (evalX get ix) with
    | some (.array len e), some (.ag cs), some i => match sizeP P e with
      | some s => bif Nat.blt i len then (orBad 48 (partC P e cs (i * s))).bind fun v => .ok (.val v) else .bad 48
      | none => .bad 48
    | _, _, _ => .bad 48
def plan_extract (_P : Program) (_g : Gam) (get : Nat → Option SV) (t : Operand) (i : Nat) : Res Plan := match evalX get t with
    | some (.tu l) => (orBad 49 (l[i]?)).bind fun v => .ok (.val (toSV1 v))
    | _ => .bad 49
def plan_call (P : Program) (_g : Gam) (get : Nat → Option SV) (c : Call) : Res Plan :=
    match c.callee with
    | .value f => match evalX get f, allSome (evalX get) c.args.toList with
      | some (.c (.fn f caps)), some args => .ok (.call f (args ++ caps.map fun q => .c (.p q.1 q.2)))
      | some (.c (.fm f b o)), some args => .ok (.call f (.c (.p b o) :: args))
      | _, _ => .bad 50
    | .builtin b => planBuiltin P b c.argTypes (c.args.toList.map (evalX get))
    | _ => .bad 51
/-- The same, in small pieces. -/
def planF (P : Program) (g : Gam) (get : Nat → Option SV) (op : Op) : Res Plan :=
  match op with
  | .move x | .assign x => plan_move P g get x
  | .pick c a b => plan_pick P g get c a b
  | .alloc t => plan_alloc P g get t
  | .box e x => plan_box P g get e x
  | .build t parts => plan_build P g get t parts
  | .buildSlice t len parts => plan_buildSlice P g get t len parts
  | .load t a => plan_load P g get t a
  | .store t a x => plan_store P g get t a x
  | .nilCheck x => plan_nilCheck P g get x
  | .binOp op t x y _ => plan_binOp P g get op t x y
  | .unOp op _ x => plan_unOp P g get op x
  | .convert s d x => plan_convert P g get s d x
  | .makeFunc (.func f) first caps => plan_makeFunc P g get f first caps
  | .makeSlice t l c => plan_makeSlice P g get t l c
  | .slice t x lo hi mx => plan_slice P g get t x lo hi mx
  | .fieldAddr s x f => plan_fieldAddr P g get s x f
  | .field t x f => plan_field P g get t x f
  | .indexAddr t x ix => plan_indexAddr P g get t x ix
  | .index t x ix => plan_index P g get t x ix
  | .extract t i => plan_extract P g get t i
  | .call c => plan_call P g get c
  | _ => .bad 52

/-- What an operation did. -/
structure Rec where
  v : SV
  /-- cells that were written -/
  wc : List (Nat × Nat × C) := []
  /-- blocks that such cells lie in -/
  wn : List Nat := []
  /-- blocks that were laid, or that are no more -/
  wb : List (Nat × Option Blk) := []
  /-- cells that were read: block, from, how many -/
  rc : List (Nat × Nat × Nat) := []
  /-- blocks that were read -/
  rb : List Nat := []
  nx : Nat
  deriving Inhabited

def cellWrites (b : Nat) : Nat → List C → List (Nat × Nat × C)
  | _, [] => []
  | o, c :: l => (b, o, c) :: cellWrites b (o + 1) l

/-- All blocks that can be come to. -/
def reachGo (hg : Nat → Option Blk) : Nat → List Nat → List Nat → Option (List Nat)
  | _, [], seen => some seen
  | 0, _ :: _, _ => none
  | n + 1, b :: rest, seen =>
    if b ∈ seen then reachGo hg n rest seen
    else match hg b with
      | none => reachGo hg n rest (b :: seen)
      | some blk => reachGo hg n (blk.flatMap C.ptrs ++ rest) (b :: seen)
def reach (hg : Nat → Option Blk) (l : List Nat) : Option (List Nat) := reachGo hg 100000 l []

def heapOf (hg : Nat → Option Blk) : List Nat → T Blk
  | [] => .nil
  | b :: l => (heapOf hg l).put b (hg b)

def changes (old new : Nat → Option Blk) : List Nat → List (Nat × Option Blk)
  | [] => []
  | b :: l => if old b = new b then changes old new l else (b, new b) :: changes old new l

def newOnes (new : Nat → Option Blk) (ids : List Nat) : List Nat → List (Nat × Option Blk)
  | [] => []
  | b :: l => if b ∈ ids then newOnes new ids l else match new b with
    | none => newOnes new ids l
    | some blk => (b, some blk) :: newOnes new ids l

abbrev Callee := FuncId → List SV → T Blk → Nat → Res (SV × T Blk × Nat)

/-! New blocks that are still in reach, counted anew: where ways part they then have the same names. -/
def posOf (b : Nat) : List Nat → Nat → Option Nat
  | [], _ => none
  | c :: l, k => bif Nat.beq b c then some k else posOf b l (k + 1)
def renB (nx : Nat) (L : List Nat) (b : Nat) : Option Nat := bif Nat.blt b nx then some b else posOf b L nx
def renCaps (f : Nat → Option Nat) : List (Nat × Nat) → Option (List (Nat × Nat))
  | [] => some []
  | (b, o) :: l => match f b, renCaps f l with
    | some b', some l' => some ((b', o) :: l')
    | _, _ => none
def renP (f : Nat → Option Nat) : CP → Option CP
  | .p b o => (f b).map fun b' => .p b' o
  | .sl b o l c => (f b).map fun b' => .sl b' o l c
  | .p0 => some .p0
  | .sl0 => some .sl0
def renPL (f : Nat → Option Nat) : List (E × CP) → Option (List (E × CP))
  | [] => some []
  | (e, x) :: l => match renP f x, renPL f l with
    | some x', some l' => some ((e, x') :: l')
    | _, _ => none
def renC (f : Nat → Option Nat) : C → Option C
  | .p b o => (f b).map fun b' => .p b' o
  | .sl b o l c => (f b).map fun b' => .sl b' o l c
  | .fn g caps => (renCaps f caps).map fun l => .fn g l
  | .fm g b o => (f b).map fun b' => .fm g b' o
  | .qi j b => (f b).map fun b' => .qi j b'
  | .qf j b => (f b).map fun b' => .qf j b'
  | .pi j b i => (f b).map fun b' => .pi j b' i
  | .pf j b i => (f b).map fun b' => .pf j b' i
  | .px b o s n e => (f b).map fun b' => .px b' o s n e
  | .cc l d => match renPL f l, renP f d with
    | some l', some d' => some (.cc l' d')
    | _, _ => none
  | c => some c
def renL (f : Nat → Option Nat) : List C → Option (List C)
  | [] => some []
  | c :: l => match renC f c, renL f l with
    | some c', some l' => some (c' :: l')
    | _, _ => none
def renT (f : Nat → Option Nat) : List SV1 → Option (List SV1)
  | [] => some []
  | .c c :: l => match renC f c, renT f l with
    | some c', some l' => some (.c c' :: l')
    | _, _ => none
  | .ag a :: l => match renL f a, renT f l with
    | some a', some l' => some (.ag a' :: l')
    | _, _ => none
def renV (f : Nat → Option Nat) : SV → Option SV
  | .c c => (renC f c).map .c
  | .ag l => (renL f l).map .ag
  | .tu l => (renT f l).map .tu
def renH (f : Nat → Option Nat) (hg : Nat → Option Blk) : List Nat → Option (T Blk)
  | [] => some .nil
  | b :: l => match renH f hg l with
    | none => none
    | some t => match hg b with
      | none => some t
      | some blk => match f b, renL f blk with
        | some b', some blk' => bif Nat.blt b' T.most then some (t.put b' (some blk')) else none
        | _, _ => none
def renI (f : Nat → Option Nat) : List Nat → List Nat
  | [] => []
  | b :: l => match f b with
    | some b' => b' :: renI f l
    | none => renI f l
def newIn (nx : Nat) : List Nat → List Nat
  | [] => []
  | b :: l => bif Nat.blt b nx then newIn nx l else b :: newIn nx l
def allBelow (n : Nat) : List Nat → Bool
  | [] => true
  | b :: l => Nat.blt b n && allBelow n l
def compactL (nx nx' : Nat) (v : SV) (hp : T Blk) (ids' L : List Nat) : SV × T Blk × List Nat × Nat :=
  bif Nat.ble (nx + L.length) nx' && allBelow nx' L then
    match renV (renB nx L) v, renH (renB nx L) hp.get ids' with
    | some v1, some hp1 => (v1, hp1, renI (renB nx L) ids', nx')
    | _, _ => (v, hp, ids', nx')
  else (v, hp, ids', nx')
def compactR (nx nx' : Nat) (v : SV) (hp : T Blk) (ids' : List Nat) : SV × T Blk × List Nat × Nat :=
  match newIn nx ids' with
  | [] => (v, hp, ids', nx')
  | b :: l => compactL nx nx' v hp ids' (b :: l)
def rangeC (hg : Nat → Option Blk) (b o n : Nat) : Option (List C) :=
  match hg b with
  | some blk => bif Nat.ble (o + n) blk.length then some ((blk.drop o).take n) else none
  | none => none

/-- Whichever of so many it is. -/
def selL (hg : Nat → Option Blk) (b s cnt : Nat) (e : E) : Nat → Nat → Nat → Option (List C)
  | _, _, 0 => none
  | o, i, k + 1 => match k with
    | 0 => rangeC hg b o cnt
    | _ + 1 => match rangeC hg b o cnt, selL hg b s cnt e (o + s) (i + 1) k with
      | some cs, some r => mergeL none (.ic .eql e (.li i)) cs r
      | _, _ => none
def srcLen : Option (Nat × Nat × Nat) → Nat
  | none => 0
  | some (_, _, n) => n
def srcIds : Option (Nat × Nat × Nat) → List Nat
  | none => []
  | some (b, _, _) => [b]
def srcCells (hg : Nat → Option Blk) (size : Nat) : Option (Nat × Nat × Nat) → Option (List C)
  | none => some []
  | some (b, o, n) => rangeC hg b o (n * size)
def dstLen : Option (Nat × Nat × Nat × Cap) → Nat
  | none => 0
  | some (_, _, len, _) => len

def callRec (hg : Nat → Option Blk) (ids : List Nat) (q : SV × T Blk × List Nat × Nat) : Rec :=
  { v := q.1, wb := changes hg q.2.1.get ids ++ newOnes q.2.1.get ids q.2.2.1, rb := ids, nx := q.2.2.2 }
def runPlan (call : Callee) (hg : Nat → Option Blk) (nx : Nat) : Plan → Res Rec
  | .val v => .ok { v, nx }
  | .see c => .ok { v := .c c, nx }
  | .load agg b o n => match rangeC hg b o n with
    | some cs => bif agg then .ok { v := .ag cs, rc := [(b, o, n)], nx } else match cs with
      | [c] => .ok { v := .c c, rc := [(b, o, n)], nx }
      | _ => .bad 60
    | none => .bad 60
  | .loadx agg b o s n cnt e => match rangeC hg b o (s * (n - 1) + cnt) with
    | some _ => match selL hg b s cnt e o 0 n with
      | some cs => bif agg then .ok { v := .ag cs, rc := [(b, o, s * (n - 1) + cnt)], nx } else match cs with
        | [c] => .ok { v := .c c, rc := [(b, o, s * (n - 1) + cnt)], nx }
        | _ => .bad 60
      | none => .bad 60
    | none => .bad 60
  | .store b o cs => match rangeC hg b o cs.length with
    | some _ => .ok { v := .tu [], wc := cellWrites b o cs, wn := [b], nx }
    | none => .bad 61
  | .new cs as => .ok { v := .c (match as with | none => .p nx 0 | some (l, c) => .sl nx 0 l (.n c)), wb := [(nx, some cs)], nx := nx + 1 }
  | .call f args =>
    match reach hg (args.flatMap SV.ptrs) with
    | none => .bad 62
    | some ids => (call f args (heapOf hg ids) nx).bind fun (v, hp, nx') =>
      match reach hp.get (v.ptrs ++ ids) with
      | none => .bad 63
      | some ids' => .ok (callRec hg ids (compactR nx nx' v hp ids'))
  | .app _ dst size src =>
    match srcCells hg size src with
    | none => .bad 64
    | some new =>
      bif Nat.ble (dstLen dst + srcLen src) 1000000 then match dst with
      | none => bif Nat.beq (srcLen src) 0 then .ok { v := .c .sl0, nx, rb := srcIds src } else .ok { v := .c (.sl nx 0 (srcLen src) (.u size)), wb := [(nx, some new)], rb := srcIds src, nx := nx + 1 }
      | some (b, o, len, .n cap) =>
        bif Nat.ble (len + srcLen src) cap then match rangeC hg b (o + len * size) new.length with
          | some _ => .ok { v := .c (.sl b o (len + srcLen src) (.n cap)), wc := cellWrites b (o + len * size) new, wn := [b], rb := srcIds src, nx }
          | none => .bad 65
        else match rangeC hg b o (len * size) with
          | some old => .ok { v := .c (.sl nx 0 (len + srcLen src) (.u size)), wb := [(nx, some (old ++ new))], rb := b :: srcIds src, nx := nx + 1 }
          | none => .bad 65
      | some (b, o, len, .u sz) => bif Nat.beq sz size then match rangeC hg b o (len * size) with
        | some old => .ok { v := .c (.sl nx 0 (len + srcLen src) (.u size)), wb := [(nx, some (old ++ new)), (b, none)], rb := b :: srcIds src, nx := nx + 1 }
        | none => .bad 66
        else .bad 66
      else .bad 66
  | .copy (b, o, l) size (b2, o2, l2) =>
    match rangeC hg b2 o2 (min l l2 * size), rangeC hg b o (min l l2 * size) with
    | some new, some _ => .ok { v := .c (.i .i64 (min l l2 : Nat)), wc := cellWrites b o new, wn := [b], rb := [b2], nx }
    | _, _ => .bad 67

def rp_val (_call : Callee) (_hg : Nat → Option Blk) (nx : Nat) (v : SV) : Res Rec := .ok { v, nx }
def rp_see (_call : Callee) (_hg : Nat → Option Blk) (nx : Nat) (c : C) : Res Rec := .ok { v := .c c, nx }
def rp_load (_call : Callee) (hg : Nat → Option Blk) (nx : Nat) (agg : Bool) (b : Nat) (o : Nat) (n : Nat) : Res Rec := match rangeC hg b o n with
    | some cs => bif agg then .ok { v := .ag cs, rc := [(b, o, n)], nx } else match cs with
      | [c] => .ok { v := .c c, rc := [(b, o, n)], nx }
      | _ => .bad 60
    | none => .bad 60
def rp_loadx (_call : Callee) (hg : Nat → Option Blk) (nx : Nat) (agg : Bool) (b o s n cnt : Nat) (e : E) : Res Rec := match rangeC hg b o (s * (n - 1) + cnt) with
    | some _ => match selL hg b s cnt e o 0 n with
      | some cs => bif agg then .ok { v := .ag cs, rc := [(b, o, s * (n - 1) + cnt)], nx } else match cs with
        | [c] => .ok { v := .c c, rc := [(b, o, s * (n - 1) + cnt)], nx }
        | _ => .bad 60
      | none => .bad 60
    | none => .bad 60
def rp_store (_call : Callee) (hg : Nat → Option Blk) (nx : Nat) (b : Nat) (o : Nat) (cs : List C) : Res Rec := match rangeC hg b o cs.length with
    | some _ => .ok { v := .tu [], wc := cellWrites b o cs, wn := [b], nx }
    | none => .bad 61
def rp_new (_call : Callee) (_hg : Nat → Option Blk) (nx : Nat) (cs : List C) (as : Option (Nat × Nat)) : Res Rec := .ok { v := .c (match as with | none => .p nx 0 | some (l, c) => .sl nx 0 l (.n c)), wb := [(nx, some cs)], nx := nx + 1 }
def rp_call (call : Callee) (hg : Nat → Option Blk) (nx : Nat) (f : FuncId) (args : List SV) : Res Rec :=
    match reach hg (args.flatMap SV.ptrs) with
    | none => .bad 62
    | some ids => (call f args (heapOf hg ids) nx).bind fun (v, hp, nx') =>
      match reach hp.get (v.ptrs ++ ids) with
      | none => .bad 63
      | some ids' => .ok (callRec hg ids (compactR nx nx' v hp ids'))
def rp_app (_call : Callee) (hg : Nat → Option Blk) (nx : Nat) (dst : Option (Nat × Nat × Nat × Cap)) (size : Nat) (src : Option (Nat × Nat × Nat)) : Res Rec :=
    match srcCells hg size src with
    | none => .bad 64
    | some new =>
      bif Nat.ble (dstLen dst + srcLen src) 1000000 then match dst with
      | none => bif Nat.beq (srcLen src) 0 then .ok { v := .c .sl0, nx, rb := srcIds src } else .ok { v := .c (.sl nx 0 (srcLen src) (.u size)), wb := [(nx, some new)], rb := srcIds src, nx := nx + 1 }
      | some (b, o, len, .n cap) =>
        bif Nat.ble (len + srcLen src) cap then match rangeC hg b (o + len * size) new.length with
          | some _ => .ok { v := .c (.sl b o (len + srcLen src) (.n cap)), wc := cellWrites b (o + len * size) new, wn := [b], rb := srcIds src, nx }
          | none => .bad 65
        else match rangeC hg b o (len * size) with
          | some old => .ok { v := .c (.sl nx 0 (len + srcLen src) (.u size)), wb := [(nx, some (old ++ new))], rb := b :: srcIds src, nx := nx + 1 }
          | none => .bad 65
      | some (b, o, len, .u sz) => bif Nat.beq sz size then match rangeC hg b o (len * size) with
        | some old => .ok { v := .c (.sl nx 0 (len + srcLen src) (.u size)), wb := [(nx, some (old ++ new)), (b, none)], rb := b :: srcIds src, nx := nx + 1 }
        | none => .bad 66
        else .bad 66
      else .bad 66
def rp_copy (_call : Callee) (hg : Nat → Option Blk) (nx : Nat) (b : Nat) (o : Nat) (l : Nat) (size : Nat) (b2 : Nat) (o2 : Nat) (l2 : Nat) : Res Rec :=
    match rangeC hg b2 o2 (min l l2 * size), rangeC hg b o (min l l2 * size) with
    | some new, some _ => .ok { v := .c (.i .i64 (min l l2 : Nat)), wc := cellWrites b o new, wn := [b], rb := [b2], nx }
    | _, _ => .bad 67
def runF (call : Callee) (hg : Nat → Option Blk) (nx : Nat) : Plan → Res Rec
  | .val v => rp_val call hg nx v
  | .see c => rp_see call hg nx c
  | .load agg b o n => rp_load call hg nx agg b o n
  | .loadx agg b o s n cnt e => rp_loadx call hg nx agg b o s n cnt e
  | .store b o cs => rp_store call hg nx b o cs
  | .new cs as => rp_new call hg nx cs as
  | .call f args => rp_call call hg nx f args
  | .app _ dst size src => rp_app call hg nx dst size src
  | .copy (b, o, l) size (b2, o2, l2) => rp_copy call hg nx b o l size b2 o2 l2

def lookB : List (Nat × Option Blk) → Nat → Option (Option Blk)
  | [], _ => none
  | (b, x) :: l, n => bif Nat.beq b n then some x else lookB l n

def writeCells (b : Nat) (blk : Blk) : List (Nat × Nat × C) → Blk
  | [] => blk
  | (b', o, c) :: l => writeCells b (bif Nat.beq b' b then blk.set o c else blk) l

/-! ### State -/
def putAll (t : T Blk) : List (Nat × Option Blk) → T Blk
  | [] => t
  | (b, x) :: l => (putAll t l).put b x
def putCells (t : T Blk) : List (Nat × Nat × C) → T Blk
  | [] => t
  | (b, o, c) :: l => putCells (match t.get b with | some blk => t.put b (some (blk.set o c)) | none => t) l

def St.apply (s : St) (dst : Option Nat) (r : Rec) : St :=
  { tm := match dst with | some d => s.tm.put d (some r.v) | none => s.tm, hp := putCells (putAll s.hp r.wb) r.wc, nx := r.nx }

def putAllF (t : T Blk) : List (Nat × Option Blk) → T Blk
  | [] => t
  | (b, x) :: l => (putAllF t l).putF b x
def putCellsF (t : T Blk) : List (Nat × Nat × C) → T Blk
  | [] => t
  | (b, o, c) :: l => putCellsF (match t.getF b with | some blk => t.putF b (some (blk.set o c)) | none => t) l
theorem putAllF_eq (t : T Blk) : ∀ l, putAllF t l = putAll t l
  | [] => rfl
  | (b, x) :: l => by rw [putAllF, putAll, putAllF_eq t l, T.putF_eq]
theorem putCellsF_eq : ∀ (l : List (Nat × Nat × C)) (t : T Blk), putCellsF t l = putCells t l
  | [], _ => rfl
  | (b, o, c) :: l, t => by rw [putCellsF, putCells, T.getF_eq, T.putF_eq, putCellsF_eq l]
def St.applyF (s : St) (dst : Option Nat) (r : Rec) : St :=
  forceN r.nx fun n => forceT (match dst with | some d => s.tm.putF d (some r.v) | none => s.tm) fun t => forceT (putCellsF (putAllF s.hp r.wb) r.wc) fun h => { tm := t, hp := h, nx := n }
theorem St.applyF_eq (s : St) (dst : Option Nat) (r : Rec) : s.applyF dst r = s.apply dst r := by
  unfold St.applyF St.apply
  rw [forceN_eq, forceT_eq, forceT_eq, putCellsF_eq, putAllF_eq, T.putF_eq]

def small (r : Rec) : Bool := Nat.blt r.nx T.most && r.wb.all (fun x => Nat.blt x.1 T.most) && r.wc.all fun x => Nat.blt x.1 T.most

def slotOf (ops : Array Oper) (j : Nat) : Option Nat := (ops[j]?).bind (·.dst)

/-- Is it wanted? -/
def wantedX (g : Gam) (ops : Array Oper) (get : Nat → Option SV) (o : Oper) : Res Bool :=
  match o.guard with
  | none => .ok true
  | some (j, want) => match (slotOf ops j).bind get with
    | some (.tu []) => .ok false
    | some v => match truth g v with
      | .ok b => .ok (b == want)
      | .need e => .need e
      | .bad n => .bad n
    | none => .bad 70

def dstIn (N : Nat) : Option Nat → Bool
  | some d => Nat.blt d N
  | none => true

theorem planF_eq : planF = planOf := by
  funext P g get op
  cases op <;> rfl
theorem runF_eq : runF = runPlan := by
  funext call hg nx p
  cases p <;> rfl

/-- The condition that an operation's operand hangs on first. -/
def firstC (get : Nat → Option SV) : List Operand → Option E
  | [] => none
  | x :: l => match headC (evalX get x) with
    | some e => some e
    | none => firstC get l
def condOf (get : Nat → Option SV) : Op → Option E
  | .load _ x | .nilCheck x | .fieldAddr _ x _ | .indexAddr _ x _ | .slice _ x _ _ _ => headC (evalX get x)
  | .binOp _ _ x y _ => firstC get [x, y]
  | .call c => match c.callee with
    | .builtin _ => firstC get c.args.toList
    | _ => none
  | _ => none
/-- What was done either way, by a condition: nothing was written but new blocks. -/
def mergeW (o : Option (E → Option Nat)) (e : E) : List (Nat × Option Blk) → List (Nat × Option Blk) → Option (List (Nat × Option Blk))
  | [], [] => some []
  | (b, some x) :: l, (b', some y) :: m => bif Nat.beq b b' then match mergeL o e x y, mergeW o e l m with
    | some z, some r => some ((b, some z) :: r)
    | _, _ => none
    else none
  | _, _ => none
def mergeR (o : Option (E → Option Nat)) (e : E) (r1 r2 : Rec) : Res Rec :=
  bif Nat.beq r1.nx r2.nx && (r1.wc.isEmpty && r2.wc.isEmpty) then match mergeV o e r1.v r2.v, mergeW o e r1.wb r2.wb with
    | some v, some wb => .ok { v, wb, wn := r1.wn ++ r2.wn, rc := r1.rc ++ r2.rc, rb := r1.rb ++ r2.rb, nx := r1.nx }
    | _, _ => .bad 75
  else .bad 75
/-- The one operand that hangs on conditions: which slot, what lies there. -/
def chainM : C → Option (List (E × CP) × CP)
  | .cc l d => some (l, d)
  | .px b o s (n + 1) e => some (chainX b o s e 0 n, .p b (o + s * n))
  | _ => none
def loneC (get : Nat → Option SV) : Operand → Option (Nat × List (E × CP) × CP)
  | .tmp t => match get t with
    | some (.c x) => match chainM x with
      | some q => some (t, q.1, q.2)
      | none => none
    | _ => none
  | _ => none
def loneOf (get : Nat → Option SV) : Op → Option (Nat × List (E × CP) × CP)
  | .load _ x | .nilCheck x | .fieldAddr _ x _ | .indexAddr _ x _ | .slice _ x _ _ _ | .store _ x _ => loneC get x
  | _ => none
def setG (t : Nat) (x : CP) (get : Nat → Option SV) : Nat → Option SV := fun n => bif Nat.beq n t then some (.c x.toC) else get n
/-- What a cell holds behind such writes; is it written? -/
def atW (b o : Nat) (x : C) : List (Nat × Nat × C) → C
  | [] => x
  | (b', o', c) :: l => atW b o (bif Nat.beq b' b && Nat.beq o' o then c else x) l
def hasW (b o : Nat) : List (Nat × Nat × C) → Bool
  | [] => false
  | (b', o', _) :: l => (Nat.beq b' b && Nat.beq o' o) || hasW b o l
def okC : C → Option C
  | .u => none
  | c => some c
def mergeP (o : Option (E → Option Nat)) (e : E) (hg : Nat → Option Blk) (w1 w2 : List (Nat × Nat × C)) : List (Nat × Nat × C) → Option (List (Nat × Nat × C))
  | [] => some []
  | (b, i, _) :: l => match (hg b).bind fun blk => blk[i]? with
    | some x => match okC (mergeC o e (atW b i x w1) (atW b i x w2)), mergeP o e hg w1 w2 l with
      | some c, some r => some ((b, i, c) :: r)
      | _, _ => none
    | none => none
/-- What was written either way, by a condition. -/
def mergeS (o : Option (E → Option Nat)) (e : E) (hg : Nat → Option Blk) (r1 r2 : Rec) : Option Rec :=
  bif Nat.beq r1.nx r2.nx && (r1.wb.isEmpty && r2.wb.isEmpty) then match r1.v, r2.v with
    | .tu [], .tu [] => match mergeP o e hg r1.wc r2.wc (r1.wc ++ r2.wc.filter fun y => !hasW y.1 y.2.1 r1.wc) with
      | some wc => some { v := .tu [], wc, wn := r1.wn ++ r2.wn, rc := (r1.rc ++ r2.rc) ++ wc.map fun y => (y.1, y.2.1, 1), rb := r1.rb ++ r2.rb, nx := r1.nx }
      | none => none
    | _, _ => none
  else none
def mergeN (o : Option (E → Option Nat)) (hg : Nat → Option Blk) (e : E) (r1 r2 : Rec) : Res Rec :=
  match mergeR none e r1 r2 with
  | .ok r => .ok r
  | _ => match mergeS o e hg r1 r2 with
    | some r => .ok r
    | none => .need (normE (headE e)).1
/-- One way after the other. -/
def xlin (o : Option (E → Option Nat)) (hg : Nat → Option Blk) (lt : List (E × Bool)) (run : CP → Res Rec) : List (E × CP) → CP → Res Rec
  | [], d => run d
  | (e, x) :: l, d => match lookE lt e with
    | some true => run x
    | some false => xlin o hg lt run l d
    | none => match run x with
      | .ok r1 => match xlin o hg lt run l d with
        | .ok r2 => mergeN o hg e r1 r2
        | .need e' => .need e'
        | .bad _ => .need (normE (headE e)).1
      | .need e' => .need e'
      | .bad _ => .need (normE (headE e)).1
def plain1 (P : Program) (g : Gam) (call : Callee) (hg : Nat → Option Blk) (nx : Nat) (op : Op) (get : Nat → Option SV) : Res Rec :=
  match planF P g get op with
  | .ok p => runF call hg nx p
  | .need e => .need e
  | .bad n => .bad n
/-- An operation; where its operands hang on a condition, both ways. -/
def xrun (P : Program) (g : Gam) (call : Callee) (hg : Nat → Option Blk) (nx : Nat) (op : Op) : Nat → (Nat → Option SV) → Res Rec
  | 0, _ => .bad 74
  | f + 1, get => match planF P g get op with
    | .ok p => runF call hg nx p
    | .need e => .need e
    | .bad n => match loneOf get op with
      | some q => xlin none hg g.l (fun x => plain1 P g call hg nx op (setG q.1 x get)) q.2.1 q.2.2
      | none => match condOf get op with
      | none => .bad n
      | some c => match truthE g c with
        | .ok t => xrun P g call hg nx op f (pickG c t get)
        | .bad n => .bad n
        | .need _ => match xrun P g call hg nx op f (pickG c true get) with
          | .ok r1 => match xrun P g call hg nx op f (pickG c false get) with
            | .ok r2 => match mergeR none c r1 r2 with
              | .ok r => .ok r
              | _ => .need (normE c).1
            | .need e => .need e
            | .bad _ => .need (normE c).1
          | .need e => .need e
          | .bad _ => .need (normE c).1
/-- Cells that were written, by names. -/
def nmW (o : Option (E → Option Nat)) (l : List (Nat × Nat × C)) : List (Nat × Nat × C) := l.map fun x => (x.1, x.2.1, nmC o x.2.2)
def nmR : Option (E → Option Nat) → Rec → Rec
  | none, r => r
  | o, r => { r with v := nmV o r.v, wc := nmW o r.wc }
/-- What conditions that are known leave. -/
def simF (l : List (E × Bool)) : E → E
  | .tf c a b => match lookE l c with
    | some true => simF l a
    | some false => simF l b
    | none => .tf c a b
  | e => e
def simJ (l : List (E × Bool)) : E → E
  | .ti c a b => match lookE l c with
    | some true => simJ l a
    | some false => simJ l b
    | none => .ti c a b
  | e => e
def cF : E → C
  | .lf x => .f x
  | e => .ef e
def cI (k : IntKind) : E → C
  | .li n => .i k n
  | e => .ei k e
def simC (l : List (E × Bool)) : C → C
  | .ef (.tf c a b) => cF (simF l (.tf c a b))
  | .ei k (.ti c a b) => cI k (simJ l (.ti c a b))
  | x => x
def sim1 (l : List (E × Bool)) : SV1 → SV1
  | .c x => .c (simC l x)
  | .ag m => .ag (m.map (simC l))
def simS (l : List (E × Bool)) : SV → SV
  | .c x => .c (simC l x)
  | .ag m => .ag (m.map (simC l))
  | .tu m => .tu (m.map (sim1 l))
def simR (l : List (E × Bool)) (r : Rec) : Rec :=
  match l with
  | [] => r
  | l => { r with v := simS l r.v }
/-- One operation, from what the slots and the blocks hold. -/
def xop (P : Program) (g : Gam) (call : Callee) (N : Nat) (ops : Array Oper) (get : Nat → Option SV) (hg : Nat → Option Blk) (nx : Nat) (o : Oper) : Res Rec :=
  bif dstIn N o.dst then
    match wantedX g ops get o with
    | .ok true => match xrun P g call hg nx o.op 100 get with
      | .ok r => bif small r then .ok (nmR g.nm (simR g.l r)) else .bad 71
      | .need e => .need e
      | .bad n => .bad n
    | .ok false => .ok { v := .tu [], nx }
    | .need e => .need e
    | .bad n => .bad n
  else .bad 72

/-- A region in the order of its text. -/
def xops (P : Program) (g : Gam) (call : Callee) (N : Nat) (ops : Array Oper) : List Oper → St → Res St
  | [], s => .ok s
  | o :: l, s => match xop P g call N ops s.tm.getF s.hp.getF s.nx o with
    | .ok r => xops P g call N ops l (s.applyF o.dst r)
    | .need e => .need e
    | .bad n => .bad n

/-! ### A region in whatever order -/
/-- Of each operation all that must come ahead of it, as bits. -/
def maskOf (ms : List Nat) (o : Oper) : Nat := o.after.toList.foldl (fun s e => bif Region.binds .any e then s ||| 2 ^ e.on ||| ms.getD e.on 0 else s) 0
def masks : List Oper → List Nat → List Nat
  | [], ms => ms
  | o :: l, ms => masks l (ms ++ [maskOf ms o])
def edgesOk (k : Nat) (o : Oper) : Bool := o.after.toList.all fun e => !Region.binds .any e || Nat.blt e.on k

def namesOf (ops : Array Oper) (o : Oper) : List Nat :=
  (o.op.operands.toList.filterMap fun | .tmp t => some t | _ => none) ++ (match o.guard with | some (j, _) => (slotOf ops j).toList | none => [])

/-- Does 'r' write where 's' reads or writes? -/
def hits (r s : Rec) : Bool :=
  (r.wc.any fun (b, o, _) => s.rb.contains b || s.rc.any (fun (b', o', n) => Nat.beq b b' && Nat.ble o' o && Nat.blt o (o' + n)) || s.wb.any (fun (b', _) => Nat.beq b b') || s.wc.any fun (b', o', _) => Nat.beq b b' && Nat.beq o o') ||
  (r.wb.any fun (b, _) => s.rb.contains b || s.rc.any (fun (b', _, _) => Nat.beq b b') || s.wb.any (fun (b', _) => Nat.beq b b') || s.wn.contains b || s.wc.any fun (b', _, _) => Nat.beq b b')

structure Item where
  o : Oper
  r : Rec
  names : List Nat

def apartI (a b : Item) : Bool :=
  (match a.o.dst with | some d => !b.names.contains d && !(b.o.dst == some d) | none => true) &&
  (match b.o.dst with | some d => !a.names.contains d | none => true) &&
  !hits a.r b.r && !hits b.r a.r

/-- Each pair of which none must come ahead of the other is apart. -/
def apartFrom (b : Item) (m : Nat) : Nat → List Item → Bool
  | _, [] => true
  | i, a :: l => (m.testBit i || apartI a b) && apartFrom b m (i + 1) l
def apartAll : List Item → List Nat → List Item → Bool
  | [], _, _ => true
  | b :: l, m :: ms, done => apartFrom b m 0 done && apartAll l ms (done ++ [b])
  | _ :: _, [], _ => false

def bitsOf : List Nat → Nat
  | [] => 0
  | t :: l => Nat.lor (Nat.pow 2 t) (bitsOf l)
/-- An operation's names as bits. -/
structure NI where
  nm : Nat
  ds : Nat
def quietR (r : Rec) : Bool :=
  match r.wc, r.wb with
  | [], [] => true
  | _, _ => false
def dstBit : Option Nat → Nat
  | some d => Nat.pow 2 d
  | none => 0
def niOf (ops : Array Oper) (o : Oper) : NI := forceN (bitsOf (namesOf ops o)) fun n => forceN (dstBit o.dst) fun d => ⟨n, d⟩
def namesQ (a b : NI) : Bool := Nat.beq (Nat.land a.ds (Nat.lor b.nm b.ds)) 0 && Nat.beq (Nat.land b.ds a.nm) 0
def bitR (m i : Nat) : Bool := Nat.beq (Nat.mod (Nat.shiftRight m i) 2) 1
def namesFromR (b : NI) (m : Nat) : Nat → List NI → Bool
  | _, [] => true
  | k, a :: l => (bitR m (Nat.sub k 1) || namesQ a b) && namesFromR b m (Nat.sub k 1) l
/-- What hangs on the text alone. -/
def namesAllR (ops : Array Oper) : List Oper → List Nat → Nat → List NI → Bool
  | [], _, _, _ => true
  | b :: l, m :: ms, k, done => (Nat.beq (Nat.add m 1) (Nat.pow 2 k) || namesFromR (niOf ops b) m k done) && namesAllR ops l ms (Nat.add k 1) (niOf ops b :: done)
  | _ :: _, [], _, _ => false
def loudFrom (b : Item) (m : Nat) : List (Nat × Item) → Bool
  | [] => true
  | (i, a) :: l => (bitR m i || !hits a.r b.r) && loudFrom b m l
def allFrom (b : Item) (m : Nat) : Nat → List Item → Bool
  | _, [] => true
  | k, a :: l => (bitR m (Nat.sub k 1) || (!hits b.r a.r && !hits a.r b.r)) && allFrom b m (Nat.sub k 1) l
/-- What hangs on what was written. -/
def loudAll : List Item → List Nat → Nat → List (Nat × Item) → List Item → Bool
  | [], _, _, _, _ => true
  | b :: l, m :: ms, k, loud, done => match quietR b.r with
    | true => loudFrom b m loud && loudAll l ms (Nat.add k 1) loud (b :: done)
    | false => allFrom b m k done && loudAll l ms (Nat.add k 1) ((k, b) :: loud) (b :: done)
  | _ :: _, [], _, _, _ => false

theorem bitsOf_bit {t : Nat} : ∀ {l : List Nat}, t ∈ l → (bitsOf l).testBit t = true
  | a :: l, h => by
    have e : bitsOf (a :: l) = 2 ^ a ||| bitsOf l := rfl
    rw [e, Nat.testBit_or]
    rcases List.mem_cons.1 h with h | h
    · subst h; rw [Nat.testBit_two_pow_self]; rfl
    · rw [bitsOf_bit h]; simp
theorem land_zero {x y t : Nat} (h : Nat.beq (Nat.land x y) 0 = true) (hx : x.testBit t = true) : y.testBit t = false := by
  have h0 : x &&& y = 0 := Nat.eq_of_beq_eq_true h
  have := Nat.testBit_and x y t
  rw [h0, hx] at this
  simpa using this.symm
theorem niOf_eq (ops : Array Oper) (o : Oper) : niOf ops o = ⟨bitsOf (namesOf ops o), dstBit o.dst⟩ := by unfold niOf; rw [forceN_eq, forceN_eq]
theorem quiet_hits {r s : Rec} (h : quietR r = true) : hits r s = false := by
  unfold quietR at h
  split at h
  · rename_i h1 h2
    simp [hits, h1, h2]
  · cases h
theorem namesQ_ok {ops : Array Oper} {a b : Item} (ea : a.names = namesOf ops a.o) (eb : b.names = namesOf ops b.o) (h : namesQ (niOf ops a.o) (niOf ops b.o) = true) (h1 : hits a.r b.r = false) (h2 : hits b.r a.r = false) : apartI a b = true := by
  rw [niOf_eq, niOf_eq, ← ea, ← eb] at h
  unfold namesQ at h
  simp only [Bool.and_eq_true] at h
  obtain ⟨g1, g2⟩ := h
  unfold apartI
  rw [h1, h2]
  simp only [Bool.not_false, Bool.and_true, Bool.and_eq_true]
  have hd : ∀ d, (dstBit (some d)).testBit d = true := fun d => Nat.testBit_two_pow_self
  constructor
  · cases hda : a.o.dst with
    | none => rfl
    | some d =>
      rw [hda] at g1
      have := land_zero g1 (hd d)
      have e : (Nat.lor (bitsOf b.names) (dstBit b.o.dst)).testBit d = ((bitsOf b.names).testBit d || (dstBit b.o.dst).testBit d) := Nat.testBit_or _ _ _
      rw [e, Bool.or_eq_false_iff] at this
      simp only [Bool.and_eq_true, Bool.not_eq_true', beq_eq_false_iff_ne, ne_eq]
      refine ⟨?_, fun hb => ?_⟩
      · rw [Bool.eq_false_iff]
        intro hc
        have := bitsOf_bit (List.contains_iff_mem.1 hc)
        simp_all
      · rw [hb, hd d] at this; simp at this
  · cases hdb : b.o.dst with
    | none => rfl
    | some d =>
      rw [hdb] at g2
      have := land_zero g2 (hd d)
      simp only [Bool.not_eq_true']
      rw [Bool.eq_false_iff]
      intro hc
      have := bitsOf_bit (List.contains_iff_mem.1 hc)
      simp_all
theorem bitR_ok {m k : Nat} (h : bitR m k = true) : m.testBit k = true := by
  have h := Nat.eq_of_beq_eq_true h
  have e : Nat.mod (Nat.shiftRight m k) 2 = (m >>> k) % 2 := rfl
  rw [e] at h
  have : m.testBit k = (m >>> k).testBit 0 := by rw [Nat.testBit_shiftRight]; simp
  rw [this, Nat.testBit_zero, h]; rfl
theorem all_bits {m k i : Nat} (h : Nat.beq (Nat.add m 1) (Nat.pow 2 k) = true) (hi : i < k) : m.testBit i = true := by
  have h : m + 1 = 2 ^ k := Nat.eq_of_beq_eq_true h
  have : m = 2 ^ k - 1 := by omega
  rw [this, Nat.testBit_two_pow_sub_one, decide_eq_true hi]
theorem namesFromR_ok {b : NI} {m : Nat} : ∀ {l : List NI} {k : Nat}, l.length = k → namesFromR b m k l = true → ∀ i a, l[i]? = some a → m.testBit (k - 1 - i) = true ∨ namesQ a b = true
  | [], _, _, _, i, a, hi => by simp at hi
  | x :: l, k, hk, h, i, a, hi => by
    unfold namesFromR at h
    simp only [Bool.and_eq_true, Bool.or_eq_true] at h
    obtain ⟨h1, h2⟩ := h
    cases i with
    | zero =>
      simp only [List.getElem?_cons_zero, Option.some.injEq] at hi
      subst hi
      exact h1.imp bitR_ok id
    | succ i =>
      have := namesFromR_ok (l := l) (k := k - 1) (by simp at hk; omega) h2 i a (by simpa using hi)
      rw [show k - 1 - (i + 1) = k - 1 - 1 - i by omega]
      exact this
theorem rev_at {α : Type} {done : List α} {i : Nat} {a : α} (h : done.reverse[i]? = some a) : i < done.length ∧ done[done.length - 1 - i]? = some a := by
  have hlt : i < done.length := by
    have := (List.getElem?_eq_some_iff.1 h).1
    simpa using this
  rw [List.getElem?_reverse hlt] at h
  exact ⟨hlt, h⟩
theorem namesAllR_ok {ops : Array Oper} : ∀ {l : List Oper} {ms : List Nat} {k : Nat} {done : List Oper}, done.length = k → namesAllR ops l ms k (done.map (niOf ops)) = true →
    ∀ j b, l[j]? = some b → ∀ i a, i < k + j → (done.reverse ++ l)[i]? = some a → (ms.getD j 0).testBit i = true ∨ namesQ (niOf ops a) (niOf ops b) = true
  | [], _, _, _, _, _, j, b, hb, _, _, _, _ => by simp at hb
  | x :: l, m :: ms, k, done, hk, h, j, b, hb, i, a, hi, ha => by
    unfold namesAllR at h
    simp only [Bool.and_eq_true, Bool.or_eq_true] at h
    obtain ⟨h1, h2⟩ := h
    cases j with
    | zero =>
      simp only [List.getElem?_cons_zero, Option.some.injEq] at hb
      subst hb
      rw [List.getElem?_append_left (by simp; omega)] at ha
      obtain ⟨g1, g2⟩ := rev_at ha
      rcases h1 with h1 | h1
      · exact .inl (all_bits h1 (by omega))
      · have := namesFromR_ok (l := done.map (niOf ops)) (by simp [hk]) h1 (done.length - 1 - i) (niOf ops a) (by rw [List.getElem?_map, g2]; rfl)
        rw [show k - 1 - (done.length - 1 - i) = i by omega] at this
        exact this
    | succ j =>
      have := namesAllR_ok (l := l) (ms := ms) (k := k + 1) (done := x :: done) (by simp [hk]) h2 j b (by simpa using hb) i a (by omega) (by simpa using ha)
      simpa using this
  | _ :: _, [], _, _, _, h, _, _, _, _, _, _, _ => by unfold namesAllR at h; cases h
theorem loudFrom_ok {b : Item} {m : Nat} : ∀ {l : List (Nat × Item)}, loudFrom b m l = true → ∀ i a, (i, a) ∈ l → m.testBit i = true ∨ hits a.r b.r = false
  | [], _, _, _, h => by simp at h
  | (j, x) :: l, h, i, a, hm => by
    unfold loudFrom at h
    simp only [Bool.and_eq_true, Bool.or_eq_true, Bool.not_eq_true'] at h
    rcases List.mem_cons.1 hm with e | e
    · cases e; exact h.1.imp bitR_ok id
    · exact loudFrom_ok h.2 i a e
theorem allFrom_ok {b : Item} {m : Nat} : ∀ {l : List Item} {k : Nat}, l.length = k → allFrom b m k l = true → ∀ i a, l[i]? = some a → m.testBit (k - 1 - i) = true ∨ (hits b.r a.r = false ∧ hits a.r b.r = false)
  | [], _, _, _, i, a, hi => by simp at hi
  | x :: l, k, hk, h, i, a, hi => by
    unfold allFrom at h
    simp only [Bool.and_eq_true, Bool.or_eq_true, Bool.not_eq_true'] at h
    obtain ⟨h1, h2⟩ := h
    cases i with
    | zero =>
      simp only [List.getElem?_cons_zero, Option.some.injEq] at hi
      subst hi
      exact h1.imp bitR_ok id
    | succ i =>
      have := allFrom_ok (l := l) (k := k - 1) (by simp at hk; omega) h2 i a (by simpa using hi)
      rw [show k - 1 - (i + 1) = k - 1 - 1 - i by omega]
      exact this
theorem loudAll_ok : ∀ {l : List Item} {ms : List Nat} {k : Nat} {loud : List (Nat × Item)} {done : List Item}, done.length = k → (∀ i a, done.reverse[i]? = some a → quietR a.r = false → (i, a) ∈ loud) → loudAll l ms k loud done = true →
    ∀ j b, l[j]? = some b → ∀ i a, i < k + j → (done.reverse ++ l)[i]? = some a → (ms.getD j 0).testBit i = true ∨ (hits b.r a.r = false ∧ hits a.r b.r = false)
  | [], _, _, _, _, _, _, _, j, b, hb, _, _, _, _ => by simp at hb
  | x :: l, m :: ms, k, loud, done, hk, hL, h, j, b, hb, i, a, hi, ha => by
    unfold loudAll at h
    have hrev : ∀ i, i < k → (done.reverse ++ x :: l)[i]? = done.reverse[i]? := fun i hi => List.getElem?_append_left (by simp; omega)
    split at h
    · rename_i hq
      simp only [Bool.and_eq_true] at h
      obtain ⟨h1, h2⟩ := h
      cases j with
      | zero =>
        simp only [List.getElem?_cons_zero, Option.some.injEq] at hb
        subst hb
        rw [hrev i (by omega)] at ha
        have hx : hits x.r a.r = false := quiet_hits hq
        cases hqa : quietR a.r
        · exact (loudFrom_ok h1 i a (hL i a ha hqa)).imp id fun g => ⟨hx, g⟩
        · exact .inr ⟨hx, quiet_hits hqa⟩
      | succ j =>
        have := loudAll_ok (l := l) (ms := ms) (k := k + 1) (loud := loud) (done := x :: done) (by simp [hk]) (fun i a hi hqa => by
          rw [List.reverse_cons] at hi
          rcases Nat.lt_or_ge i done.reverse.length with g | g
          · rw [List.getElem?_append_left g] at hi; exact hL i a hi hqa
          · rw [List.getElem?_append_right g] at hi
            cases hz : i - done.reverse.length with
            | zero => rw [hz] at hi; simp at hi; subst hi; rw [hq] at hqa; cases hqa
            | succ n => rw [hz] at hi; simp at hi) h2 j b (by simpa using hb) i a (by omega) (by simpa using ha)
        simpa using this
    · rename_i hq
      simp only [Bool.and_eq_true] at h
      obtain ⟨h1, h2⟩ := h
      cases j with
      | zero =>
        simp only [List.getElem?_cons_zero, Option.some.injEq] at hb
        subst hb
        rw [hrev i (by omega)] at ha
        obtain ⟨g1, g2⟩ := rev_at ha
        have := allFrom_ok hk h1 (done.length - 1 - i) a g2
        rw [show k - 1 - (done.length - 1 - i) = i by omega] at this
        exact this
      | succ j =>
        have := loudAll_ok (l := l) (ms := ms) (k := k + 1) (loud := (k, x) :: loud) (done := x :: done) (by simp [hk]) (fun i a hi hqa => by
          rw [List.reverse_cons] at hi
          rcases Nat.lt_or_ge i done.reverse.length with g | g
          · rw [List.getElem?_append_left g] at hi; exact List.mem_cons_of_mem _ (hL i a hi hqa)
          · rw [List.getElem?_append_right g] at hi
            cases hz : i - done.reverse.length with
            | zero =>
              rw [hz] at hi; simp at hi; subst hi
              have : i = k := by simp at hz g; omega
              subst this; simp
            | succ n => rw [hz] at hi; simp at hi) h2 j b (by simpa using hb) i a (by omega) (by simpa using ha)
        simpa using this
  | _ :: _, [], _, _, _, _, _, h, _, _, _, _, _, _, _ => by unfold loudAll at h; cases h
/-- Both together. -/
theorem both_apart {ops : Array Oper} {is : List Item} {ms : List Nat} (hit : ∀ (k : Nat) (it : Item), is[k]? = some it → ops.toList[k]? = some it.o ∧ it.names = namesOf ops it.o) (h1 : namesAllR ops ops.toList ms 0 [] = true) (h2 : loudAll is ms 0 [] [] = true)
    {j : Nat} {b : Item} (hb : is[j]? = some b) {i : Nat} {a : Item} (hi : i < j) (ha : is[i]? = some a) : (ms.getD j 0).testBit i = true ∨ apartI a b = true := by
  obtain ⟨b1, b2⟩ := hit j b hb
  obtain ⟨a1, a2⟩ := hit i a ha
  rcases namesAllR_ok (done := []) rfl h1 j b.o b1 i a.o (by omega) (by simpa using a1) with g | g
  · exact .inl g
  · rcases loudAll_ok (done := []) rfl (fun i a h => by simp at h) h2 j b hb i a (by omega) (by simpa using ha) with k | k
    · exact .inl k
    · exact .inr (namesQ_ok a2 b2 g k.2 k.1)

def xitems (P : Program) (g : Gam) (call : Callee) (N : Nat) (ops : Array Oper) : List Oper → St → Res (List Item × St)
  | [], s => .ok ([], s)
  | o :: l, s => match xop P g call N ops s.tm.getF s.hp.getF s.nx o with
    | .ok r => match xitems P g call N ops l (s.applyF o.dst r) with
      | .ok (is, s') => .ok (⟨o, r, namesOf ops o⟩ :: is, s')
      | .need e => .need e
      | .bad n => .bad n
    | .need e => .need e
    | .bad n => .bad n

def edgesAll : Nat → List Oper → Bool
  | _, [] => true
  | k, o :: l => edgesOk k o && edgesAll (k + 1) l

def xdraw (P : Program) (g : Gam) (call : Callee) (N : Nat) (ops : Array Oper) (s : St) : Res St :=
  match xitems P g call N ops ops.toList s with
  | .ok (is, s') => bif edgesAll 0 ops.toList && (namesAllR ops ops.toList (masks ops.toList []) 0 [] && loudAll is (masks ops.toList []) 0 [] []) then .ok s' else .bad 80
  | .need e => .need e
  | .bad n => .bad n

/-! ### Both ways at once -/
def merge2 {α : Type} (f : α → α → Option α) : Option α → Option α → Option α
  | some a, some b => f a b
  | _, _ => none
def mergeT {α : Type} (f : α → α → Option α) : T α → T α → T α
  | .node v l r, .node v' l' r' => .node (merge2 f v v') (mergeT f l l') (mergeT f r r')
  | _, _ => .nil
def mergeSt (o : Option (E → Option Nat)) (e : E) (s1 s2 : St) : St := { tm := mergeT (mergeV o e) s1.tm s2.tm, hp := mergeT (mergeL o e) s1.hp s2.hp, nx := Nat.max s1.nx s2.nx }

/-! ### Code -/
inductive X where
  | normal | exit (id : Nat) | ret
  deriving DecidableEq, Repr, Inhabited

/-- Are new blocks alike, as far as there are? -/
def sameLen (h1 h2 : T Blk) : Nat → Nat → Bool
  | _, 0 => true
  | n, k + 1 => (match h1.get n, h2.get n with
    | some x, some y => Nat.beq x.length y.length
    | _, _ => true) && sameLen h1 h2 (n + 1) k
def joinable (h : Bool) (n0 : Nat) (s1 s2 : St) : X → Bool
  | .normal => true
  | .ret => !h && sameLen s1.hp s2.hp n0 (Nat.min s1.nx s2.nx - n0)
  | .exit _ => !h
/-- Is it asked for that ways of which but one returns part at once as far as the law? -/
def hardMode (g : Gam) : Bool := match lookE g.l (.lb true) with
  | some true => true
  | _ => false
def X.isRet : X → Bool
  | .ret => true
  | _ => false
/-- Where it hangs on what is not known: both ways, joined behind. -/
def xsplit (lv : Bool) (n0 : Nat) (g : Gam) (r : Res (X × St)) (again : Gam → Res (X × St)) : Res (X × St) :=
  match r with
  | .need e => bif isHard e && !lv then .need e else match g.dec (softE e) with
    | some _ => .need e
    | none => match again (g.add (softE e) true) with
      | .ok (x1, s1) => match again (g.add (softE e) false) with
        | .ok (x2, s2) => if x1 = x2 then bif joinable (isHard e) n0 s1 s2 x1 then .ok (x1, mergeSt g.nm (softE e) s1 s2) else .need (hardE e) else .need (bif hardMode g && (x1.isRet || x2.isRet) then hardE e else e)
        | .need e2 => .need (bif isHard e2 then hardE e else e)
        | _ => .need e
      | .need e2 => .need (bif isHard e2 then hardE e else e)
      | _ => .need e
  | r => r

/-- Likewise, where both ways may end alike. -/
def xsplitC (may : Bool) (n0 : Nat) (g : Gam) (r : Res (X × St)) (again : Gam → Res (X × St)) : Res (X × St) :=
  bif may then xsplit false n0 g r again else r
/-- How code ends, as far as its text shows: 0 where it goes on. -/
def endK : Code → Nat
  | .ret => 1
  | .exit id => id + 2
  | .seq a b => match endK a with
    | 0 => endK b
    | k => k
  | .cond _ a b => bif Nat.beq (endK a) (endK b) then endK a else 0
  | .block id c => bif Nat.beq (endK c) (id + 2) then 0 else endK c
  | _ => 0
def xcode (P : Program) (call : Gam → Callee) (N : Nat) : Nat → Gam → Code → St → Res (X × St)
  | 0, _, _, _ => .bad 90
  | n + 1, g, c, s =>
    match c with
    | .skip => .ok (.normal, s)
    | .label _ => .ok (.normal, s)
    | .ret => .ok (.ret, s)
    | .exit id => .ok (.exit id, s)
    | .region id ops draw =>
      xsplit false s.nx g (match (bif draw then xdraw P g (call g) N ops s else xops P g (call g) N ops ops.toList s) with
      | .ok s' => .ok (.normal, s')
      | .need e => .need e
      | .bad n => .bad n) fun g' => xcode P call N n g' (.region id ops draw) s
    | .seq a b => match xcode P call N n g a s with
      | .ok (.normal, s') => xcode P call N n g b s'
      | r => r
    | .cond c a b => xsplitC (Nat.beq (endK a) (endK b)) s.nx g (match evalX s.tm.get c with
      | some v => match truth g v with
        | .ok true => xcode P call N n g a s
        | .ok false => xcode P call N n g b s
        | .need e => .need e
        | .bad n => .bad n
      | none => .bad 91) fun g' => xcode P call N n g' (.cond c a b) s
    | .block id c => xsplit true s.nx g (match xcode P call N n g c s with
      | .ok (.exit j, s') => bif Nat.beq j id then .ok (.normal, s') else .ok (.exit j, s')
      | r => r) fun g' => xcode P call N n g' (.block id c) s
    | .loop c => match xcode P call N n g c s with
      | .ok (.normal, s') => xcode P call N n g (.loop c) s'
      | r => r
    | _ => .bad 92

/-! ### Calls -/
def laid : Nat → List SV → T SV
  | _, [] => .nil
  | k, v :: l => (laid (k + 1) l).put k (some v)

def toSV1? : SV → Option SV1
  | .c x => some (.c x)
  | .ag l => some (.ag l)
  | .tu _ => none

def resultX (P : Program) (s : St) : ResultVar → Option SV
  | .tmp t => s.tm.get t
  | .cell a t => match s.tm.get a, isAggP P t, sizeP P t with
    | some (.c (.p b o)), some true, some n => (rangeC s.hp.get b o n).map .ag
    | some (.c (.p b o)), some false, some _ => match rangeC s.hp.get b o 1 with
      | some [c] => some (.c c)
      | _ => none
    | _, _, _ => none

def resultsX (P : Program) (s : St) (rs : List ResultVar) : Option SV :=
  match allSome (resultX P s) rs with
  | some [v] => some v
  | some l => (allSome toSV1? l).map .tu
  | none => none

/-- What is known of a function: of what it is given, and of the blocks, what it gives, the blocks behind it. -/
abbrev Ctr := FuncId → Option (List SV → T Blk → Nat → Option (SV × T Blk × Nat))

/-- A function's body: ways that part are joined behind it at the latest. -/
def xbody (P : Program) (call : Gam → Callee) (N fuel : Nat) (c : Code) (s : St) : Nat → Gam → Res (X × St)
  | 0, g => xcode P call N fuel g c s
  | k + 1, g => xsplit false s.nx g (xcode P call N fuel g c s) fun g' => xbody P call N fuel c s k g'
def xcallG (P : Program) (ctr : Ctr) (fuel : Nat) : Nat → Gam → Callee
  | 0 => fun _ _ _ _ _ => .bad 93
  | n + 1 => fun g f args hp nx =>
    match P.funcs[f]? with
    | none => .bad 95
    | some fn => match fn.body with
      | none => .bad 96
      | some c => match ctr f with
        | some F => match F args hp nx with
          | some r => .ok r
          | none => .bad 94
        | none =>
          bif Nat.ble args.length fn.ntmps && Nat.blt fn.ntmps T.most then
            match xbody P (xcallG P ctr fuel n) fn.ntmps fuel c { tm := laid 0 args, hp, nx } 40 g with
            | .ok (x, s) => bif (match x with | .exit _ => false | _ => true) then match resultsX P s fn.results.toList with
                | some v => .ok (v, s.hp, s.nx)
                | none => .bad 97
              else .bad 98
            | .need e => .need e
            | .bad n => .bad n
          else .bad 99

def xcall (P : Program) (ctr : Ctr) (g : Gam) (fuel n : Nat) : Callee := xcallG P ctr fuel n g

end Go.Proofs.Ytclhgnhbmlkomaa.Ex
