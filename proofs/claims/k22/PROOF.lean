import PyProof.Rows.All
import Wide.All
import OpenK.AllK
import Wide.FinOn
import Lean
import PyProof.EqAt
import PyProof.EqKinds
import PyProof.TupleCall
import PyProof.NeKinds
import PyProof.ZipIter
import PyProof.StrWalks
import PyProof.ConsumeWalk
import PyProof.ExcArgs
import PyProof.ExcBaseAll.ValueError
import KE.KIsAll
import PyProof.EnumFor
import PyProof.EnumMake
import PyProof.EnumStmt
import PyProof.Rows.EnumRows
import PyProof.RulesRaise
import PyProof.RulesTry
import PySem.Challenge.RW_manyleaf_k22_contents_joined
set_option Elab.async false
set_option linter.all false
set_option maxRecDepth 100000
namespace L2
open PySem PySem.Spec PyProof.Rows

/-- a key: an int or a str -/
abbrev Key := Sum Int Str
def keyIs : Key → Value → Bool
  | .inl k, v => Value.isInt k v
  | .inr x, v => Value.isStrOf x v
def keyH (w : World) : Key → Int
  | .inl k => hashInt k
  | .inr x => hashStr w x
theorem keyIs_shape : ∀ {k : Key} {v : Value}, keyIs k v = true → (∃ i t, k = Sum.inl i ∧ v = Value.int i t) ∨ (∃ x t, k = Sum.inr x ∧ v = Value.str x t)
  | .inl i, v, h => by
    obtain ⟨t, e⟩ := Value.isInt_shape (k := i) (v := v) h
    exact .inl ⟨i, t, rfl, e⟩
  | .inr x, v, h => by
    obtain ⟨t, e⟩ := Value.isStrOf_shape (x := x) (v := v) h
    exact .inr ⟨x, t, rfl, e⟩
theorem key_ll (a b : Int) : decide ((Sum.inl a : Key) = Sum.inl b) = (a == b) := by
  by_cases e : a = b
  · subst e; simp
  · have h : ¬ (Sum.inl a : Key) = Sum.inl b := fun q => e (Sum.inl.inj q)
    rw [decide_eq_false h]
    exact (beq_eq_false_iff_ne.mpr e).symm
theorem key_rr (a b : Str) : decide ((Sum.inr a : Key) = Sum.inr b) = decide (a = b) := by
  by_cases e : a = b
  · subst e; simp
  · have h : ¬ (Sum.inr a : Key) = Sum.inr b := fun q => e (Sum.inr.inj q)
    rw [decide_eq_false h, decide_eq_false e]
theorem key_lr (a : Int) (b : Str) : decide ((Sum.inl a : Key) = Sum.inr b) = false := decide_eq_false (fun q => nomatch q)
theorem key_rl (a : Str) (b : Int) : decide ((Sum.inr a : Key) = Sum.inl b) = false := decide_eq_false (fun q => nomatch q)

def mixKind (prog : Program) (w : World) : PySem.KeyKind prog w Key where
  is := keyIs
  hash := keyH w
  inj := fun v a b ha hb => by
    rcases keyIs_shape ha with ⟨i, t, rfl, rfl⟩ | ⟨x, t, rfl, rfl⟩
    · rcases keyIs_shape hb with ⟨j, u, rfl, e⟩ | ⟨y, u, rfl, e⟩
      · injection e with e1 _; rw [e1]
      · exact nomatch e
    · rcases keyIs_shape hb with ⟨j, u, rfl, e⟩ | ⟨y, u, rfl, e⟩
      · exact nomatch e
      · injection e with e1 _; rw [e1]
  byValue := fun k v h => by
    rcases keyIs_shape h with ⟨i, t, rfl, rfl⟩ | ⟨x, t, rfl, rfl⟩ <;> rfl
  pyHash := fun hv h => by
    rcases keyIs_shape hv with ⟨i, t, rfl, rfl⟩ | ⟨x, t, rfl, rfl⟩
    · exact wpAny_pyHash_int h
    · exact wpAny_pyHash_str h
  eqBool := fun hu hv h => by
    rcases keyIs_shape hu with ⟨i, t, rfl, rfl⟩ | ⟨x, t, rfl, rfl⟩
    · rcases keyIs_shape hv with ⟨j, u, rfl, rfl⟩ | ⟨y, u, rfl, rfl⟩
      · rw [key_ll] at h; exact wpAny_eqBool_int h
      · rw [key_lr] at h; exact SeqAt.EqAt.int_str i t y u _ _ _ _ h
    · rcases keyIs_shape hv with ⟨j, u, rfl, rfl⟩ | ⟨y, u, rfl, rfl⟩
      · rw [key_rl] at h; exact SeqAt.EqAt.str_int x t j u _ _ _ _ h
      · rw [key_rr] at h; exact wpAny_eqBool_str h
  «strs» := fun k x t v h => by
    rcases keyIs_shape h with ⟨i, u, rfl, e⟩ | ⟨y, u, rfl, e⟩
    · exact nomatch e
    · injection e with e1 _
      subst e1
      cases v <;> rfl

end L2

namespace L2
open PySem PySem.Spec PyProof.Rows

/-- a value, without the heap -/
inductive V where
  | non | bl (b : Bool) | int (i : Int) | str (x : Str) | byt (b : Array UInt8) | flt (b : UInt64) | ref (a : Addr) | ty (n : String)
  deriving DecidableEq

def RelV : V → Value → Prop
  | .non, u => u = Value.none
  | .bl b, u => u = Value.bool b
  | .int i, u => ∃ t, u = Value.int i t
  | .str x, u => ∃ t, u = Value.str x t
  | .byt b, u => ∃ t, u = Value.bytes b t
  | .flt b, u => ∃ t, u = Value.float b t
  | .ref a, u => u = Value.ref a
  | .ty n, u => u = Value.type n

abbrev Vals : List V → List Value → Prop := Paired RelV
theorem Vals.length {xs : List V} {us : List Value} (r : Vals xs us) : xs.length = us.length := Paired.length r
theorem Vals.get : ∀ {xs : List V} {us : List Value} {i : Nat} {x : V}, Vals xs us → xs[i]? = some x → ∃ u, us[i]? = some u ∧ RelV x u
  | _, _, _, _, .nil, e => by simp at e
  | _, _, 0, _, .cons r _, e => by simp at e; subst e; exact ⟨_, rfl, r⟩
  | _, _, i + 1, x, .cons _ t, e => by
    obtain ⟨u, h1, h2⟩ := Vals.get (i := i) (x := x) t (by simpa using e)
    exact ⟨u, by simpa using h1, h2⟩
theorem Vals.append : ∀ {xs ys : List V} {us ws : List Value}, Vals xs us → Vals ys ws → Vals (xs ++ ys) (us ++ ws)
  | _, _, _, _, .nil, s => s
  | _, _, _, _, .cons r t, s => .cons r (Vals.append t s)
theorem Vals.take : ∀ {xs : List V} {us : List Value} (n : Nat), Vals xs us → Vals (xs.take n) (us.take n)
  | _, _, 0, _ => .nil
  | _, _, _ + 1, .nil => .nil
  | _, _, n + 1, .cons r t => .cons r (Vals.take n t)
theorem Vals.drop : ∀ {xs : List V} {us : List Value} (n : Nat), Vals xs us → Vals (xs.drop n) (us.drop n)
  | _, _, 0, r => r
  | _, _, _ + 1, .nil => .nil
  | _, _, n + 1, .cons _ t => Vals.drop n t

def RelO : Option V → Option Value → Prop
  | some v, some u => RelV v u
  | none, none => True
  | _, _ => False
def KV {κ : Type} : List (κ × V) → List (κ × Value) → Prop := Paired fun (p : κ × V) (q : κ × Value) => p.1 = q.1 ∧ RelV p.2 q.2

/-- a key of a dict (00_mix): an int or a text -/
def kV : Key → V
  | .inl i => .int i
  | .inr x => .str x

/-- what stands at a tracked address -/
inductive HO where
  /-- a list -/
  | lst (xs : List V)
  /-- a tuple (never changes) -/
  | tup (xs : List V)
  /-- a dict whose keys are ints and texts; one whose keys are tuples of ints and texts (the empty one is both) -/
  | dK (kvs : List (Key × V)) | dT (kvs : List (List Key × V))
  /-- a set of ints: its members, its size -/
  | set (S : Int → Bool) (n : Nat)
  /-- an instance of the class at C, its dict at dx, its attributes -/
  | ins (C dx : Addr) (fs : List (Str × V))
  /-- the dict of the instance at x -/
  | own (x : Addr)
  /-- the dict of an exception -/
  | xd (fs : List (Str × V))
  /-- a bound method, f of x -/
  | met (f x : Addr)
  /-- a range object lo, lo + 1, .. below hi -/
  | rng (lo hi : Int)
  /-- a thing that is known to the object (the script; a dict while a loop walks it): read, never written while it is so -/
  | frz (o : Obj) (u : HO)
  /-- a code object's table -/
  | tbl (ps : Array Value)
  /-- any other thing, by what is true of its one object (a def of one's own: SetO a S n := HO.ext fun h => ..) -/
  | ext (φ : Heap → Prop)

abbrev Hp := Addr → Option HO
def upd (H : Hp) (a : Addr) (o : HO) : Hp := fun b => if b = a then some o else H b
theorem upd_same {H : Hp} {a : Addr} {o : HO} : upd H a o a = some o := by unfold upd; rw [if_pos rfl]
theorem upd_ne {H : Hp} {a b : Addr} {o : HO} (h : b ≠ a) : upd H a o b = H b := by unfold upd; rw [if_neg h]
theorem ne_of_none {H : Hp} {a b : Addr} {o : HO} (h : H a = some o) (h' : H b = none) : a ≠ b := by
  intro e; subst e; rw [h] at h'; cases h'

section
variable (P : Program) (w : World)
def ObjOk (H : Hp) (h : Heap) (a : Addr) : HO → Prop
  | .lst xs => xs.length ≤ sizeLine ∧ ∃ (its : List Value) (n : Nat), Vals xs its ∧ h.get? a = some { cls := .type "list", data := .seq its.toArray n }
  | .tup xs => xs.length ≤ sizeLine ∧ ∃ its : List Value, Vals xs its ∧ IsTup h a its.toArray
  | .dK kvs => kvs.length ≤ sizeLine ∧ (a == sysModules) = false ∧ ∃ vs, KV kvs vs ∧ h.DictOf (mixKind P w) a vs
  | .dT kvs => kvs.length ≤ sizeLine ∧ (a == sysModules) = false ∧ ∃ xs : List (List Key × Addr × Value),
      Paired (fun (p : List Key × V) (q : List Key × Addr × Value) => p.1 = q.1 ∧ H q.2.1 = some (.tup (p.1.map kV)) ∧ RelV p.2 q.2.2) kvs xs ∧
      ∃ o es ep, h.get? a = some o ∧ o.ExactDict ∧ o.data = .dict es ep ∧ es.toList = xs.map (entryOfKey (tupleKind (mixKind P w))) ∧ (xs.map (·.1)).Nodup
  | .set S n => h.SetOf (intKind P w) a S n
  | .ins C dx fs => H dx = some (.own a) ∧ fs.length ≤ 1000 ∧ dx ≠ a ∧ h.get? a = some (PySem.W.instObj C dx) ∧
      ∃ mA, h.Ns1 dx mA ∧ (∀ f, RelO (fs.lookup f) (mA f)) ∧ PySem.Within mA (fs.map (·.1))
  | .own _ => ∃ o, h.get? a = some o
  | .xd fs => ∃ mA, h.Ns1 a mA ∧ ∀ f, RelO (fs.lookup f) (mA f)
  | .rng lo hi => ∃ t u v, h.get? a = some { cls := .type "range", data := .fields #[.int lo t, .int hi u, .int 1 v] }
  | .frz o u => h.get? a = some o ∧ ObjOk H h a u
  | .tbl ps => h.get? a = some { cls := .none, data := .fields ps }
  | .met f x => h.get? a = some (PySem.W.methodObj (.ref f) (.ref x))
  | .ext φ => φ h ∧ (∃ o, h.get? a = some o) ∧ ∀ h1 h2 : Heap, φ h1 → (∀ o, h1.get? a = some o → h2.get? a = some o) → φ h2
/-- the abstract heap is held -/
def HOk (H : Hp) (h : Heap) : Prop := ∀ a o, H a = some o → ObjOk P w H h a o
end

section
variable {P : Program} {w : World} {H H' : Hp} {h h' : Heap} {a : Addr} {o : HO}
theorem ObjOk.lt (x : ObjOk P w H h a o) : a < h.objs.size := by
  cases o with
  | lst xs => obtain ⟨_, _, _, _, e⟩ := x; exact Heap.lt_size e
  | tup xs => obtain ⟨_, _, _, p⟩ := x; exact p.lt
  | dK kvs => obtain ⟨_, _, _, _, o, _, _, e, _⟩ := x; exact Heap.lt_size e
  | dT kvs => obtain ⟨_, _, _, _, o, _, _, e, _⟩ := x; exact Heap.lt_size e
  | set S n => obtain ⟨o, _, _, _, e, _⟩ := x; exact Heap.lt_size e
  | ins C dx fs => obtain ⟨_, _, _, e, _⟩ := x; exact Heap.lt_size e
  | own y => obtain ⟨_, e⟩ := x; exact Heap.lt_size e
  | xd fs => obtain ⟨_, ⟨_, _, _, e, _⟩, _⟩ := x; exact Heap.lt_size e
  | rng lo hi => obtain ⟨_, _, _, e⟩ := x; exact Heap.lt_size e
  | frz ob u => obtain ⟨e, _⟩ := x; exact Heap.lt_size e
  | tbl ps => exact Heap.lt_size (show h.get? a = some _ from x)
  | met f y => exact Heap.lt_size (show h.get? a = some _ from x)
  | ext φ => obtain ⟨_, ⟨_, e⟩, _⟩ := x; exact Heap.lt_size e
theorem Paired.mapP {α β : Type} {F G : α → β → Prop} : ∀ {l₁ : List α} {l₂ : List β}, Paired F l₁ l₂ → (∀ a b, F a b → G a b) → Paired G l₁ l₂
  | _, _, .nil, _ => .nil
  | _, _, .cons r t, f => .cons (f _ _ r) (Paired.mapP t f)
/-- what an object's description leans on: its own object, its own dict, the tuples -/
theorem ObjOk.stay (x : ObjOk P w H h a o) (k : ∀ b u, (b = a ∨ H b = some (.own a)) → h.get? b = some u → h'.get? b = some u)
    (ho : ∀ b, H b = some (.own a) → H' b = some (.own a)) (ht : ∀ b xs, H b = some (.tup xs) → H' b = some (.tup xs)) : ObjOk P w H' h' a o := by
  induction o with
  | lst xs => obtain ⟨z, its, n, r, e⟩ := x; exact ⟨z, its, n, r, k _ _ (.inl rfl) e⟩
  | tup xs => obtain ⟨z, its, r, ob, e, c⟩ := x; exact ⟨z, its, r, ob, k _ _ (.inl rfl) e, c⟩
  | dK kvs => obtain ⟨z, y, vs, r, ob, es, ep, e, c⟩ := x; exact ⟨z, y, vs, r, ob, es, ep, k _ _ (.inl rfl) e, c⟩
  | dT kvs =>
    obtain ⟨z, y, xs, r, ob, es, ep, e, c⟩ := x
    exact ⟨z, y, xs, Paired.mapP r fun p q z => ⟨z.1, ht _ _ z.2.1, z.2.2⟩, ob, es, ep, k _ _ (.inl rfl) e, c⟩
  | set S n => obtain ⟨ob, es, ep, t, e, c⟩ := x; exact ⟨ob, es, ep, t, k _ _ (.inl rfl) e, c⟩
  | ins C dx fs =>
    obtain ⟨d, z, ne, e, mA, ⟨od, es, ep, e2, c⟩, r⟩ := x
    exact ⟨ho _ d, z, ne, k _ _ (.inl rfl) e, mA, ⟨od, es, ep, k _ _ (.inr d) e2, c⟩, r⟩
  | own y => obtain ⟨ob, e⟩ := x; exact ⟨ob, k _ _ (.inl rfl) e⟩
  | xd fs => obtain ⟨mA, ⟨od, es, ep, e, c⟩, r⟩ := x; exact ⟨mA, ⟨od, es, ep, k _ _ (.inl rfl) e, c⟩, r⟩
  | rng lo hi => obtain ⟨t, u, v, e⟩ := x; exact ⟨t, u, v, k _ _ (.inl rfl) e⟩
  | frz ob u ih => obtain ⟨e, q⟩ := x; exact ⟨k _ _ (.inl rfl) e, ih q⟩
  | tbl ps =>
    have e : h.get? a = some { cls := .none, data := .fields ps } := x
    show h'.get? a = some { cls := .none, data := .fields ps }
    exact k a _ (.inl rfl) e
  | met f y =>
    have e : h.get? a = some (PySem.W.methodObj (.ref f) (.ref y)) := x
    show h'.get? a = some (PySem.W.methodObj (.ref f) (.ref y))
    exact k a _ (.inl rfl) e
  | ext φ => obtain ⟨p, ⟨o, e⟩, st⟩ := x; exact ⟨st _ _ p fun o q => k _ _ (.inl rfl) q, ⟨o, k _ _ (.inl rfl) e⟩, st⟩
theorem HOk.lt (x : HOk P w H h) (e : H a = some o) : a < h.objs.size := (x a o e).lt
theorem HOk.fresh (x : HOk P w H h) (e : h.objs.size ≤ a) : H a = none := by
  cases q : H a with
  | none => rfl
  | some u => exact absurd (Nat.lt_of_lt_of_le (x.lt q) e) (Nat.lt_irrefl _)
/-- every object of the heap is kept -/
theorem HOk.kept (x : HOk P w H h) (k : ∀ b u, h.get? b = some u → h'.get? b = some u) : HOk P w H h' := fun a o e =>
  (x a o e).stay (fun b u _ q => k b u q) (fun _ q => q) fun _ _ q => q
/-- a new object is laid and tracked -/
theorem HOk.laid (x : HOk P w H h) (k : ∀ b u, h.get? b = some u → h'.get? b = some u) (hp : h.objs.size ≤ a) (new : ObjOk P w (upd H a o) h' a o) : HOk P w (upd H a o) h' := fun b u e => by
  have hn := x.fresh hp
  by_cases hb : b = a
  · subst hb; rw [upd_same] at e; cases e; exact new
  · rw [upd_ne hb] at e
    exact (x b u e).stay (fun c v _ q => k c v q) (fun c q => by rw [upd_ne (ne_of_none q hn)]; exact q) fun c xs q => by rw [upd_ne (ne_of_none q hn)]; exact q
end

/-- what may be read as u: it is u, or a known u -/
def Rd (H : Hp) (a : Addr) (u : HO) : Prop := H a = some u ∨ ∃ o, H a = some (.frz o u)
theorem Rd.ok {P : Program} {w : World} {H : Hp} {h : Heap} {a : Addr} {u : HO} (r : Rd H a u) (x : HOk P w H h) : ObjOk P w H h a u := by
  rcases r with r | ⟨o, r⟩
  · exact x a u r
  · obtain ⟨_, q⟩ := x a _ r
    exact q
/-- what may be written -/
def Mut : Option HO → Prop
  | some (.lst _) => True
  | some (.dK _) => True
  | some (.dT _) => True
  | some (.set _ _) => True
  | some (.ins _ _ _) => True
  | some (.ext _) => True
  | _ => False
section
variable {P : Program} {w : World} {H : Hp} {h h' : Heap} {x e : Addr} {o' : HO}
/-- the object at e is changed: x itself, or the dict of the instance x -/
theorem HOk.write (ok : HOk P w H h) (mu : Mut (H x)) (he : e = x ∨ H e = some (.own x)) (k : ∀ b u, b ≠ e → h.get? b = some u → h'.get? b = some u) (heo : ∃ u, h'.get? e = some u)
    (new : ObjOk P w (upd H x o') h' x o') : HOk P w (upd H x o') h' := fun b u q => by
  have nown : ∀ c y, H c = some (.own y) → c ≠ x := fun c y r z => by subst z; rw [r] at mu; exact mu
  have ntup : ∀ c xs, H c = some (.tup xs) → c ≠ x := fun c xs r z => by subst z; rw [r] at mu; exact mu
  by_cases hb : b = x
  · subst hb; rw [upd_same] at q; cases q; exact new
  · rw [upd_ne hb] at q
    by_cases hbe : b = e
    · have q' : H b = some (.own x) := by
        rcases he with z | z
        · exact absurd (hbe.trans z) hb
        · rw [hbe]; exact z
      rw [q] at q'; cases q'
      obtain ⟨v, hv⟩ := heo
      exact ⟨v, by rw [hbe]; exact hv⟩
    · refine (ok b u q).stay (fun c v hc r => k c v ?_ r) (fun c r => by rw [upd_ne (nown c b r)]; exact r) fun c xs r => by rw [upd_ne (ntup c xs r)]; exact r
      rcases hc with rfl | hc
      · exact hbe
      · rintro rfl
        rcases he with z | z
        · exact nown c b hc z
        · rw [hc] at z; cases z; exact hb rfl
end

structure Un (fs ex : List Addr) (H H' : Hp) (h h' : Heap) : Prop where
  keep : ∀ b o, h.get? b = some o → H b = none → b ∉ fs → b ∉ ex → h'.get? b = some o
  slot : ∀ b o, h.get? b = some o → H b = none → b ∈ fs → b ∉ ex → ∃ sl, h'.get? b = some { o with slots := sl }
  free : ∀ b o, h.get? b = some o → H b = none → b ∉ ex → H' b = none
  there : ∀ b o, h.get? b = some o → b ∉ ex → ∃ o', h'.get? b = some o'
  tups : ∀ b xs, H b = some (.tup xs) → H' b = some (.tup xs)
  frzs : ∀ b o u, H b = some (.frz o u) → H' b = some (.frz o u)
  tbls : ∀ b ps, H b = some (.tbl ps) → ∃ more, H' b = some (.tbl (ps ++ more))
section
variable {fs fs' ex ex' : List Addr} {H H1 H2 : Hp} {h h1 h2 h' : Heap} {a x e : Addr} {o : HO}
theorem Un.any (u : Un fs ex H H1 h h1) {b : Addr} {ob : Obj} (q : h.get? b = some ob) (n : H b = none) (hx : b ∉ ex) : ∃ sl, h1.get? b = some { ob with slots := sl } := by
  by_cases hb : b ∈ fs
  · exact u.slot b ob q n hb hx
  · exact ⟨ob.slots, u.keep b ob q n hb hx⟩
theorem Un.kept (k : ∀ b u, h.get? b = some u → h'.get? b = some u) : Un fs ex H H h h' :=
  ⟨fun b ob q _ _ _ => k b ob q, fun b ob q _ _ _ => ⟨ob.slots, k b ob q⟩, fun _ _ _ n _ => n, fun b ob q _ => ⟨ob, k b ob q⟩, fun _ _ q => q, fun _ _ _ q => q, fun _ ps q => ⟨#[], by rw [q]; simp⟩⟩
theorem Un.refl : Un fs ex H H h h := Un.kept fun _ _ q => q
theorem Un.laid (k : ∀ b u, h.get? b = some u → h'.get? b = some u) (hp : h.objs.size ≤ a) (hn : H a = none) : Un fs ex H (upd H a o) h h' where
  keep := fun b u q _ _ _ => k b u q
  slot := fun b u q _ _ _ => ⟨u.slots, k b u q⟩
  free := fun b u q n _ => by rw [upd_ne (Nat.ne_of_lt (Nat.lt_of_lt_of_le (Heap.lt_size q) hp))]; exact n
  there := fun b u q _ => ⟨u, k b u q⟩
  tups := fun b xs q => by rw [upd_ne (ne_of_none q hn)]; exact q
  frzs := fun b u xs q => by rw [upd_ne (ne_of_none q hn)]; exact q
  tbls := fun b ps q => ⟨#[], by rw [upd_ne (ne_of_none q hn), q]; simp⟩
theorem Un.write (mu : Mut (H x)) (he : e = x ∨ H e = some (.own x)) (k : ∀ b u, b ≠ e → h.get? b = some u → h'.get? b = some u) (heo : ∃ u, h'.get? e = some u) : Un fs ex H (upd H x o) h h' := by
  have hx : ∀ b, H b = none → b ≠ x := fun b n z => by subst z; rw [n] at mu; exact mu
  have hb : ∀ b, H b = none → b ≠ e := fun b n z => by
    subst z
    rcases he with r | r
    · exact hx b n r
    · rw [n] at r; cases r
  have hm : ∀ b u, H b = some u → ¬ Mut (some u) → b ≠ x := fun b u q nm z => by subst z; rw [q] at mu; exact nm mu
  refine ⟨fun b u q n _ _ => k b u (hb b n) q, fun b u q n _ _ => ⟨u.slots, k b u (hb b n) q⟩, fun b u q n _ => by rw [upd_ne (hx b n)]; exact n, fun b u q _ => ?_,
    fun b xs q => by rw [upd_ne (hm b _ q fun z => z)]; exact q, fun b u xs q => by rw [upd_ne (hm b _ q fun z => z)]; exact q, fun b ps q => ⟨#[], by rw [upd_ne (hm b _ q fun z => z), q]; simp⟩⟩
  by_cases hbe : b = e
  · subst hbe; exact heo
  · exact ⟨u, k b u hbe q⟩
end

def trk (h : Heap) (H : Hp) : List Addr := (List.range h.objs.size).filter fun a => (H a).isSome
def hidT (h : Heap) (H : Hp) : Heap := PySem.W.hideAll h (trk h H)
theorem hidT_size (h : Heap) (H : Hp) : (hidT h H).objs.size = h.objs.size := PySem.W.hideAll_size _ _
theorem hidT_get {h : Heap} {H : Hp} {b : Addr} {o : Obj} (e : h.get? b = some o) (n : H b = none) : (hidT h H).get? b = some o :=
  PySem.W.hideAll_get _ e fun hm => by
    have q : (H b).isSome = true := (List.mem_filter.mp hm).2
    rw [n] at q; simp at q
theorem of_hidT {h : Heap} {H : Hp} {b : Addr} {o : Obj} (e : (hidT h H).get? b = some o) : h.get? b = some o ∧ H b = none := by
  have e' : h.get? b = some o := PySem.W.of_hideAll (trk h H) e
  refine ⟨e', ?_⟩
  cases q : H b with
  | none => rfl
  | some x =>
    have hm : b ∈ trk h H := List.mem_filter.mpr ⟨List.mem_range.mpr (Heap.lt_size e'), by simp [q]⟩
    have z : (hidT h H).get? b = none := PySem.W.hideAll_none (trk h H) hm
    rw [z] at e; cases e

end L2

namespace L2
open PySem PySem.Spec PyProof.Rows

/-- the module's facts, over the base: the heap at the law's entry without what is tracked there -/
structure Mod (K : PySem.W.Frag) (mg : Str → Option Value) (base : Heap) : Prop where
  kin : K.In base
  glob : base.Ns mainGlobals mg
  blt : ∃ mb, base.Ns builtinsNs mb ∧ ∀ x : Str, x ≠ "__name__" → mb x = bootBuiltins x
  nolimit : base.NoLimit

/-- the context: a def's body (or a comprehension's block) running. base: fixed through the whole law; s₀, H₀: the entry; outer: the frames whose slots others may change (a def's callers); stack: all frames that run;
   ex: iterators that were made ahead of the entry and are walked here (a comprehension's); fn: the names whose cells were made at the entry (a def: all; a comprehension's block: its own); calm: not within an except suite; pn: pins that every state bears; xe: what is wanted of an exception that leaves the code -/
structure Cx where
  prog : Program
  w : World
  K : PySem.W.Frag
  mg : Str → Option Value
  base : Heap
  A : Around
  N : List Str
  s₀ : Shared
  H₀ : Hp
  env : Env
  outer : List Env
  stack : List Env
  ex : List Addr
  fn : Str → Bool
  calm : Bool
  pn : List (Addr × Obj)
  xe : Value → Shared → Prop
/-- the callers' frames -/
def frs (l : List Env) : List Addr := l.filterMap (·.frame)
abbrev Cx.fs (X : Cx) : List Addr := frs X.outer

def Vis (sc : Scope) (x : Str) : Prop := sc.names.lookup x = some .local ∨ sc.names.lookup x = some .cell ∨ sc.names.lookup x = some .free
def Loc (sc : Scope) (x : Str) : Prop := sc.names.lookup x = some .local ∨ sc.names.lookup x = some .cell
def Look (env : Env) (h : Heap) (m : Str → Option Value) (x : Str) (u : Value) : Prop :=
  (env.kindOf x = some .local ∧ m x = some u) ∨ ((env.kindOf x = some .cell ∨ env.kindOf x = some .free) ∧ ∃ c, env.cells.lookup x = some c ∧ h.IsCell c (some u))

structure Cx.Ok (X : Cx) : Prop where
  mod : Mod X.K X.mg X.base
  kind : X.env.scope.kind = .function
  glob : X.env.globals = mainGlobals
  blt : X.env.builtins = builtinsNs
  above : X.s₀.heap.objs.size ≤ X.env.locals
  inj : ∀ x y c, X.env.cells.lookup x = some c → X.env.cells.lookup y = some c → x = y
  has : ∀ x, (X.env.kindOf x = some .cell ∨ X.env.kindOf x = some .free) → ∃ c, X.env.cells.lookup x = some c
  cab : ∀ x c, X.fn x = true → X.env.cells.lookup x = some c → X.s₀.heap.objs.size ≤ c
  hd : X.calm = true → X.A.handled = none
  frames : X.A.frames = some X.stack
  stk : X.stack = X.outer ∨ (X.stack = X.env :: X.outer ∧ X.env.frame = some X.env.locals)
  exf : ∀ b ∈ X.ex, b ≠ X.env.locals ∧ ∀ x c, X.env.cells.lookup x = some c → c ≠ b
  bs : ∀ b o, X.base.get? b = some o → X.s₀.heap.get? b = some o ∧ X.H₀ b = none
  bsz : X.base.objs.size ≤ X.s₀.heap.objs.size
  noex : ∀ b o, X.base.get? b = some o → b ∉ X.ex
  exfs : ∀ b ∈ X.ex, b ∉ X.fs
  funs : X.s₀.heap.FunFrames X.base X.outer
  frf : ∀ b ∈ X.fs, X.H₀ b = none

structure Inv (X : Cx) (pins : List (Addr × Obj)) (σ : List (Option V)) (H : Hp) (s : Shared) : Prop where
  ok : X.Ok
  os : s.os = X.s₀.os
  bare : AllBare s.gens
  base : Un X.fs X.ex X.H₀ H X.s₀.heap s.heap
  loc : ∃ m, s.heap.Ns X.env.locals m ∧ ∀ (i : Nat) (x : Str) (v : V), X.N[i]? = some x → σ[i]? = some (some v) → Vis X.env.scope x → ∃ u, RelV v u ∧ Look X.env s.heap m x u
  cell : ∀ x c, X.env.cells.lookup x = some c → ∃ v, s.heap.IsCell c v
  free : H X.env.locals = none
  freeC : ∀ x c, X.env.cells.lookup x = some c → H c = none
  pin : ∀ p ∈ X.pn ++ pins, s.heap.get? p.1 = some p.2 ∧ H p.1 = none ∧ p.1 ≠ X.env.locals ∧ p.1 ∉ X.fs ∧ ∀ v, p.2.data ≠ .cell v
  hok : HOk X.prog X.w H s.heap
  len : σ.length = X.N.length

section
variable {X : Cx} {pins : List (Addr × Obj)} {σ : List (Option V)} {H H' : Hp} {s : Shared} {h' : Heap}

theorem Cx.Ok.nofr (ok : X.Ok) {b : Addr} {o : Obj} (e : X.base.get? b = some o) : b ∉ X.fs := fun hb => by
  have := (ok.funs.mem hb).1
  rw [e] at this; cases this
theorem Inv.bs (I : Inv X pins σ H s) : ∀ b o, X.base.get? b = some o → s.heap.get? b = some o ∧ H b = none := fun b o e =>
  ⟨I.base.keep b o (I.ok.bs b o e).1 (I.ok.bs b o e).2 (I.ok.nofr e) (I.ok.noex b o e), I.base.free b o (I.ok.bs b o e).1 (I.ok.bs b o e).2 (I.ok.noex b o e)⟩
theorem Inv.bk (I : Inv X pins σ H s) : ∀ b o, X.base.get? b = some o → s.heap.get? b = some o := fun b o e => (I.bs b o e).1
theorem Inv.mod (I : Inv X pins σ H s) : Mod X.K X.mg X.base := I.ok.mod
theorem Inv.kIn (I : Inv X pins σ H s) : X.K.In s.heap := I.ok.mod.kin.keeps I.bk
theorem Inv.lt (I : Inv X pins σ H s) : X.env.locals < s.heap.objs.size := let ⟨_, hn, _⟩ := I.loc; hn.lt
theorem Inv.sz (I : Inv X pins σ H s) : X.s₀.heap.objs.size ≤ s.heap.objs.size := Nat.le_trans I.ok.above (Nat.le_of_lt I.lt)
theorem Inv.nofs (I : Inv X pins σ H s) {a : Addr} (h : s.heap.objs.size ≤ a) : a ∉ X.fs := fun hb => by
  obtain ⟨_, o, ho, _⟩ := I.ok.funs.mem hb
  exact absurd (Nat.lt_of_lt_of_le (Heap.lt_size ho) (Nat.le_trans I.sz h)) (Nat.lt_irrefl _)
theorem Inv.cne (I : Inv X pins σ H s) : ∀ x c, X.env.cells.lookup x = some c → c ≠ X.env.locals := fun x c e z => by
  obtain ⟨v, o, ho, hd⟩ := I.cell x c e
  obtain ⟨m, ⟨o', es, ep, ho', hd', _⟩, _⟩ := I.loc
  rw [z, ho'] at ho; cases ho; rw [hd'] at hd; cases hd
theorem Inv.funs (I : Inv X pins σ H s) : s.heap.FunFrames X.base X.outer := by
  have all : ∀ (l : List Env), (∀ b ∈ frs l, b ∈ X.fs) → X.s₀.heap.FunFrames X.base l → s.heap.FunFrames X.base l := by
    intro l
    induction l with
    | nil => intro _ _; trivial
    | cons env r ih =>
      intro hs hl
      obtain ⟨hk, ⟨L, o, hf, hn, ho, hd⟩, hr⟩ := hl
      have hL : L ∈ X.fs := hs L (by unfold frs; rw [List.filterMap_cons, hf]; exact List.mem_cons_self)
      obtain ⟨sl, e⟩ := I.base.slot L o ho (I.ok.frf L hL) hL fun z => I.ok.exfs L z hL
      exact ⟨hk, ⟨L, _, hf, hn, e, hd⟩, ih (fun b hb => hs b (by unfold frs; rw [List.filterMap_cons, hf]; exact List.mem_cons_of_mem _ hb)) hr⟩
  exact all X.outer (fun _ hb => hb) I.ok.funs

/-- the frames that run, for a call -/
theorem Inv.stack (I : Inv X pins σ H s) : s.heap.FunFrames X.base X.stack := by
  rcases I.ok.stk with e | ⟨e, hf⟩
  · rw [e]; exact I.funs
  · rw [e]
    obtain ⟨m, hn, _⟩ := I.loc
    refine .cons (by rw [I.ok.kind]; decide) hf hn ?_ I.funs
    exact Heap.get?_none_of_le (Nat.le_trans I.ok.bsz I.ok.above)
theorem Inv.stkSub (I : Inv X pins σ H s) : ∀ b ∈ frs X.stack, b ∈ X.env.locals :: X.fs := fun b hb => by
  rcases I.ok.stk with e | ⟨e, hf⟩
  · rw [e] at hb; exact List.mem_cons_of_mem _ hb
  · rw [e] at hb
    unfold frs at hb
    rw [List.filterMap_cons, hf] at hb
    exact hb
theorem Inv.stkFree (I : Inv X pins σ H s) : ∀ b ∈ frs X.stack, H b = none := fun b hb => by
  rcases List.mem_cons.mp (I.stkSub b hb) with e | hb
  · rw [e]; exact I.free
  · obtain ⟨_, o, ho, _⟩ := I.ok.funs.mem hb
    exact I.base.free b o ho (I.ok.frf b hb) fun z => I.ok.exfs b z hb

/-- THE STEP: the untracked objects but the frame and the records at ch are kept (the callers' frames up to slots), the frame's map is kept, the new abstract heap is held -/
theorem Inv.step {g' : Array GenState} {t' : Nat} {d' : Drawn} {ch : List Addr} (I : Inv X pins σ H s)
    (hch : ∀ b ∈ ch, (b ∈ X.ex ∨ X.s₀.heap.objs.size ≤ b) ∧ b ≠ X.env.locals ∧ (∀ x c, X.env.cells.lookup x = some c → c ≠ b) ∧ ∀ p ∈ X.pn ++ pins, p.1 ≠ b)
    (keep : ∀ b o, b ≠ X.env.locals → b ∉ X.fs → b ∉ ch → s.heap.get? b = some o → H b = none → h'.get? b = some o)
    (slot : ∀ b o, b ≠ X.env.locals → b ∈ X.fs → b ∉ ch → s.heap.get? b = some o → H b = none → ∃ sl, h'.get? b = some { o with slots := sl }) (free : ∀ b o, b ∉ ch → s.heap.get? b = some o → H b = none → H' b = none)
    (there : ∀ b o, b ∉ ch → s.heap.get? b = some o → ∃ o', h'.get? b = some o')
    (tups : ∀ b xs, H b = some (.tup xs) → H' b = some (.tup xs)) (frzs : ∀ b o u, H b = some (.frz o u) → H' b = some (.frz o u)) (tbls : ∀ b ps, H b = some (.tbl ps) → ∃ more, H' b = some (.tbl (ps ++ more)))
    (ns : ∀ m, s.heap.Ns X.env.locals m → h'.Ns X.env.locals m) (hok : HOk X.prog X.w H' h') (hg : AllBare g') :
    Inv X pins σ H' { s with heap := h', gens := g', drawn := d', toks := t' } := by
  have neL : ∀ b o, X.s₀.heap.get? b = some o → b ≠ X.env.locals := fun b o e => Nat.ne_of_lt (Nat.lt_of_lt_of_le (Heap.lt_size e) I.ok.above)
  have neC : ∀ b o, X.s₀.heap.get? b = some o → b ∉ X.ex → b ∉ ch := fun b o e hx hb => by
    rcases (hch b hb).1 with z | z
    · exact hx z
    · exact absurd (Nat.lt_of_lt_of_le (Heap.lt_size e) z) (Nat.lt_irrefl _)
  have cellK : ∀ x c, X.env.cells.lookup x = some c → ∀ v, s.heap.IsCell c v → h'.IsCell c v := fun x c e v ⟨o, ho, hd⟩ => by
    have nch : c ∉ ch := fun z => (hch c z).2.2.1 x c e rfl
    by_cases hc : c ∈ X.fs
    · obtain ⟨sl, q⟩ := slot c o (I.cne x c e) hc nch ho (I.freeC x c e)
      exact ⟨_, q, hd⟩
    · exact ⟨o, keep c o (I.cne x c e) hc nch ho (I.freeC x c e), hd⟩
  refine ⟨I.ok, I.os, hg, ⟨fun b o e n hb hx => ?_, fun b o e n hb hx => ?_, fun b o e n hx => ?_, fun b o e hx => ?_, fun b xs e => tups b xs (I.base.tups b xs e), fun b o xs e => frzs b o xs (I.base.frzs b o xs e), fun b ps e => ?_⟩, ?_, fun x c e => ?_, ?_, fun x c e => ?_, fun p hp => ?_, hok, I.len⟩
  · exact keep b o (neL b o e) hb (neC b o e hx) (I.base.keep b o e n hb hx) (I.base.free b o e n hx)
  · obtain ⟨sl, e1⟩ := I.base.slot b o e n hb hx
    obtain ⟨sl', e2⟩ := slot b _ (neL b o e) hb (neC b o e hx) e1 (I.base.free b o e n hx)
    exact ⟨sl', e2⟩
  · obtain ⟨o', e1⟩ := I.base.there b o e hx
    exact free b o' (neC b o e hx) e1 (I.base.free b o e n hx)
  · obtain ⟨o', e1⟩ := I.base.there b o e hx
    exact there b o' (neC b o e hx) e1
  · obtain ⟨m1, e1⟩ := I.base.tbls b ps e
    obtain ⟨m2, e2⟩ := tbls b _ e1
    exact ⟨m1 ++ m2, by rw [e2, Array.append_assoc]⟩
  · obtain ⟨m, hn, hl⟩ := I.loc
    refine ⟨m, ns m hn, fun i x v e1 e2 e3 => ?_⟩
    obtain ⟨u, r, l⟩ := hl i x v e1 e2 e3
    refine ⟨u, r, ?_⟩
    rcases l with l | ⟨k, c, e, z⟩
    · exact .inl l
    · exact .inr ⟨k, c, e, cellK x c e _ z⟩
  · obtain ⟨v, z⟩ := I.cell x c e
    exact ⟨v, cellK x c e v z⟩
  · obtain ⟨m, ⟨o, _, _, ho, _⟩, _⟩ := I.loc
    exact free _ o (fun z => (hch _ z).2.1 rfl) ho I.free
  · obtain ⟨v, o, ho, hd⟩ := I.cell x c e
    exact free c o (fun z => (hch c z).2.2.1 x c e rfl) ho (I.freeC x c e)
  · obtain ⟨e, n, ne, nf, d⟩ := I.pin p hp
    have nch : p.1 ∉ ch := fun z => (hch p.1 z).2.2.2 p hp rfl
    exact ⟨keep p.1 p.2 ne nf nch e n, free p.1 p.2 nch e n, ne, nf, d⟩
/-- .. where the frame's own object is kept too -/
theorem Inv.un {t' : Nat} (I : Inv X pins σ H s) (u : Un X.fs [] H H' s.heap h') (hok : HOk X.prog X.w H' h') : Inv X pins σ H' { s with heap := h', toks := t' } := by
  obtain ⟨m, ⟨o, es, ep, ho, r⟩, _⟩ := id I.loc
  obtain ⟨sl, hL⟩ := u.any ho I.free (by simp)
  exact I.step (g' := s.gens) (d' := s.drawn) (ch := []) (fun _ z => nomatch z) (fun b o _ hb _ e n => u.keep b o e n hb (by simp)) (fun b o _ hb _ e n => u.slot b o e n hb (by simp)) (fun b o _ e n => u.free b o e n (by simp)) (fun b o _ e => u.there b o e (by simp)) u.tups u.frzs u.tbls (fun m' hm => by
    obtain ⟨o', es', ep', ho', r'⟩ := hm
    rw [ho] at ho'; cases ho'
    exact ⟨_, es', ep', hL, r'⟩) hok I.bare
/-- behind a call (or a comprehension's block): the slots of this frame may have changed too, the records at ch may have turned -/
theorem Inv.call {g' : Array GenState} {t' : Nat} {d' : Drawn} {ch : List Addr} (I : Inv X pins σ H s) (u : Un (frs X.stack) ch H H' s.heap h') (hok : HOk X.prog X.w H' h') (hg : AllBare g')
    (hch : ∀ b ∈ ch, (b ∈ X.ex ∨ X.s₀.heap.objs.size ≤ b) ∧ b ≠ X.env.locals ∧ (∀ x c, X.env.cells.lookup x = some c → c ≠ b) ∧ ∀ p ∈ X.pn ++ pins, p.1 ≠ b) :
    Inv X pins σ H' { s with heap := h', gens := g', drawn := d', toks := t' } := by
  obtain ⟨m, ⟨o, es, ep, ho, r⟩, _⟩ := id I.loc
  obtain ⟨sl, hL⟩ := u.any ho I.free fun z => (hch _ z).2.1 rfl
  exact I.step (ch := ch) hch (fun b o hL hb hc e n => u.keep b o e n (fun z => (List.mem_cons.mp (I.stkSub b z)).elim hL hb) hc) (fun b o _ _ hc e n => u.any e n hc) (fun b o hc e n => u.free b o e n hc) (fun b o hc e => u.there b o e hc) u.tups u.frzs u.tbls (fun m' hm => by
    obtain ⟨o', es', ep', ho', r'⟩ := hm
    rw [ho] at ho'; cases ho'
    exact ⟨_, es', ep', hL, r'⟩) hok hg
/-- an untracked record of ours (an iterator) has turned -/
theorem Inv.turned {t' : Nat} {it : Addr} (I : Inv X pins σ H s) (k : ∀ b o, b ≠ it → s.heap.get? b = some o → h'.get? b = some o) (hn : H it = none) (hL : it ≠ X.env.locals)
    (h1 : it ∈ X.ex ∨ X.s₀.heap.objs.size ≤ it) (h2 : ∀ x c, X.env.cells.lookup x = some c → c ≠ it) (h3 : ∀ p ∈ X.pn ++ pins, p.1 ≠ it) : Inv X pins σ H { s with heap := h', toks := t' } := by
  have nit : ∀ b u, H b = some u → b ≠ it := fun b u e z => by rw [z, hn] at e; cases e
  refine I.step (g' := s.gens) (d' := s.drawn) (ch := [it]) (fun b hb => ?_) (fun b o _ _ hc e _ => k b o (fun z => hc (by simp [z])) e) (fun b o _ _ hc e _ => ⟨o.slots, k b o (fun z => hc (by simp [z])) e⟩) (fun _ _ _ _ n => n)
    (fun b o hc e => ⟨o, k b o (fun z => hc (by simp [z])) e⟩) (fun _ _ e => e) (fun _ _ _ e => e) (fun b ps e => ⟨#[], by rw [e]; simp⟩) (fun m hm => ?_) (fun b u e => ?_) I.bare
  · have e : b = it := by simpa using hb
    subst e
    exact ⟨h1, hL, h2, h3⟩
  · obtain ⟨o, es, ep, ho, r⟩ := hm
    exact ⟨o, es, ep, k _ o (Ne.symm hL) ho, r⟩
  · refine (I.hok b u e).stay (fun c v hc q => k c v ?_ q) (fun _ q => q) fun _ _ q => q
    rcases hc with z | z
    · rw [z]; exact nit b u e
    · exact nit c _ z
theorem Inv.tok (I : Inv X pins σ H s) (t : Nat) : Inv X pins σ H { s with toks := t } := I.un (h' := s.heap) (t' := t) Un.refl I.hok
/-- all objects kept -/
theorem Inv.kept {t' : Nat} (I : Inv X pins σ H s) (k : ∀ b u, s.heap.get? b = some u → h'.get? b = some u) : Inv X pins σ H { s with heap := h', toks := t' } := I.un (Un.kept k) (I.hok.kept k)
/-- a new object laid and tracked -/
theorem Inv.laid {a : Addr} {o : HO} {t' : Nat} (I : Inv X pins σ H s) (k : ∀ b u, s.heap.get? b = some u → h'.get? b = some u) (hp : s.heap.objs.size ≤ a) (new : ObjOk X.prog X.w (upd H a o) h' a o) :
    Inv X pins σ (upd H a o) { s with heap := h', toks := t' } := I.un (Un.laid k hp (I.hok.fresh hp)) (I.hok.laid k hp new)
/-- an object written -/
theorem Inv.write {x e : Addr} {o : HO} {t' : Nat} (I : Inv X pins σ H s) (mu : Mut (H x)) (he : e = x ∨ H e = some (.own x)) (k : ∀ b u, b ≠ e → s.heap.get? b = some u → h'.get? b = some u) (heo : ∃ u, h'.get? e = some u)
    (new : ObjOk X.prog X.w (upd H x o) h' x o) : Inv X pins σ (upd H x o) { s with heap := h', toks := t' } := I.un (Un.write mu he k heo) (I.hok.write mu he k heo new)
theorem Inv.pins_of {pins' : List (Addr × Obj)} (I : Inv X pins σ H s) (h : ∀ p ∈ pins', s.heap.get? p.1 = some p.2 ∧ H p.1 = none ∧ p.1 ≠ X.env.locals ∧ p.1 ∉ X.fs ∧ ∀ v, p.2.data ≠ .cell v) : Inv X pins' σ H s :=
  ⟨I.ok, I.os, I.bare, I.base, I.loc, I.cell, I.free, I.freeC, fun p hp => (List.mem_append.mp hp).elim (fun z => I.pin p (List.mem_append_left _ z)) (h p), I.hok, I.len⟩

theorem nodup_ix {N : List Str} (hN : N.Nodup) {i j : Nat} {x : Str} (a : N[i]? = some x) (b : N[j]? = some x) : i = j := by
  obtain ⟨h1, e1⟩ := List.getElem?_eq_some_iff.mp a
  obtain ⟨h2, e2⟩ := List.getElem?_eq_some_iff.mp b
  exact (List.getElem_inj hN).mp (e1.trans e2.symm)

/-- a name is stored; what changed -/
theorem store_ok2 {M : Model} {A : Around} {E : Value → Shared → Prop} {i : Nat} {x : Str} {v : V} {u : Value} {Q : Unit → Shared → Prop} (I : Inv X pins σ H s) (hN : X.N.Nodup) (hi : X.N[i]? = some x) (hx : Loc X.env.scope x) (r : RelV v u)
    (h : ∀ s', Inv X pins (σ.set i (some v)) H s' → (∃ a, Heap.SameBut a s.heap s'.heap ∧ (a = X.env.locals ∨ X.env.cells.lookup x = some a)) → Q () s') (hf : X.fn x = true ∨ X.env.scope.names.lookup x = some .local := by first | exact .inl rfl | exact .inr rfl | assumption) : wpAny M A (storeName X.env x u) Q E s := by
  obtain ⟨m, hn, hl⟩ := id I.loc
  have hcls : (X.env.scope.kind == .class || (X.env.scope.kind == .module && X.env.locals != X.env.globals)) = false := by rw [I.ok.kind]; rfl
  have hiσ : i < σ.length := by rw [I.len]; exact (List.getElem?_eq_some_iff.mp hi).1
  have cne := I.cne
  have tracked : ∀ {a : Addr} {h' : Heap}, (∃ o, s.heap.get? a = some o ∧ H a = none) → Heap.SameBut a s.heap h' → HOk X.prog X.w H h' := fun {a h'} ha hs b ob e => by
    obtain ⟨_, _, hfree⟩ := ha
    refine (I.hok b ob e).stay (fun c w' hc q => (hs.2 c ?_).trans q) (fun _ q => q) fun _ _ q => q
    rintro rfl
    rcases hc with rfl | hc
    · rw [hfree] at e; cases e
    · rw [hfree] at hc; cases hc
  rcases hx with hk | hk
  · refine wpAny_storeName_local hk hn (fun h' hn' hs => ?_) hcls
    obtain ⟨oL, _, _, hoL, _⟩ := id hn
    refine h _ ⟨I.ok, I.os, I.bare, ⟨fun b o e n hb hx => ?_, fun b o e n hb hx => ?_, I.base.free, fun b o e hx => ?_, I.base.tups, I.base.frzs, I.base.tbls⟩, ⟨_, hn', fun j y v' e1 e2 e3 => ?_⟩, fun y c e => ?_, I.free, I.freeC, fun p hp => ?_, tracked ⟨oL, hoL, I.free⟩ hs, by simpa using I.len⟩ ⟨_, hs, .inl rfl⟩
    · exact (hs.2 b (Nat.ne_of_lt (Nat.lt_of_lt_of_le (Heap.lt_size e) I.ok.above))).trans (I.base.keep b o e n hb hx)
    · obtain ⟨sl, e1⟩ := I.base.slot b o e n hb hx
      exact ⟨sl, (hs.2 b (Nat.ne_of_lt (Nat.lt_of_lt_of_le (Heap.lt_size e) I.ok.above))).trans e1⟩
    · obtain ⟨o', e1⟩ := I.base.there b o e hx
      exact ⟨o', (hs.2 b (Nat.ne_of_lt (Nat.lt_of_lt_of_le (Heap.lt_size e) I.ok.above))).trans e1⟩
    · by_cases hj : j = i
      · subst hj
        rw [hi] at e1; cases e1
        rw [List.getElem?_set_self hiσ] at e2
        cases e2
        exact ⟨u, r, .inl ⟨hk, by simp⟩⟩
      · rw [List.getElem?_set_ne (Ne.symm hj)] at e2
        obtain ⟨u', r', q⟩ := hl j y v' e1 e2 e3
        refine ⟨u', r', ?_⟩
        rcases q with ⟨k, e⟩ | ⟨k, c, e, z⟩
        · refine .inl ⟨k, ?_⟩
          have : y ≠ x := fun e => hj (nodup_ix hN e1 (e ▸ hi))
          simp [this, e]
        · exact .inr ⟨k, c, e, z.sameBut hs (cne y c e)⟩
    · obtain ⟨w', z⟩ := I.cell y c e
      exact ⟨w', z.sameBut hs (cne y c e)⟩
    · obtain ⟨e, n, ne, nf, d⟩ := I.pin p hp
      exact ⟨(hs.2 p.1 ne).trans e, n, ne, nf, d⟩
  · have hfn : X.fn x = true := by
      rcases hf with z | z
      · exact z
      · rw [z] at hk; cases hk
    obtain ⟨c, hc⟩ := I.ok.has x (.inl hk)
    obtain ⟨w', z⟩ := I.cell x c hc
    refine wpAny_storeName_cell I.ok.kind hk hc z (fun h' hc' hs => ?_)
    obtain ⟨oc, hoc, hocd⟩ := id z
    refine h { s with heap := h' } ⟨I.ok, I.os, I.bare, ⟨fun b o e n hb hx => ?_, fun b o e n hb hx => ?_, I.base.free, fun b o e hx => ?_, I.base.tups, I.base.frzs, I.base.tbls⟩, ⟨m, hn.sameBut hs (Ne.symm (cne x c hc)), fun j y v' e1 e2 e3 => ?_⟩, fun y c' e => ?_, I.free, I.freeC, fun p hp => ?_, tracked ⟨oc, hoc, I.freeC x c hc⟩ hs, by simpa using I.len⟩ ⟨c, hs, .inr hc⟩
    · exact (hs.2 b (Nat.ne_of_lt (Nat.lt_of_lt_of_le (Heap.lt_size e) (I.ok.cab x c hfn hc)))).trans (I.base.keep b o e n hb hx)
    · obtain ⟨sl, e1⟩ := I.base.slot b o e n hb hx
      exact ⟨sl, (hs.2 b (Nat.ne_of_lt (Nat.lt_of_lt_of_le (Heap.lt_size e) (I.ok.cab x c hfn hc)))).trans e1⟩
    · obtain ⟨o', e1⟩ := I.base.there b o e hx
      exact ⟨o', (hs.2 b (Nat.ne_of_lt (Nat.lt_of_lt_of_le (Heap.lt_size e) (I.ok.cab x c hfn hc)))).trans e1⟩
    · by_cases hj : j = i
      · subst hj
        rw [hi] at e1; cases e1
        rw [List.getElem?_set_self hiσ] at e2
        cases e2
        exact ⟨u, r, .inr ⟨.inl hk, c, hc, hc'⟩⟩
      · rw [List.getElem?_set_ne (Ne.symm hj)] at e2
        obtain ⟨u', r', q⟩ := hl j y v' e1 e2 e3
        refine ⟨u', r', ?_⟩
        rcases q with q | ⟨k, c', e, z'⟩
        · exact .inl q
        · refine .inr ⟨k, c', e, z'.sameBut hs ?_⟩
          rintro rfl
          exact hj (nodup_ix hN e1 (I.ok.inj _ _ _ e hc ▸ hi))
    · by_cases hcc : c' = c
      · subst hcc; exact ⟨_, hc'⟩
      · obtain ⟨w2, z2⟩ := I.cell y c' e
        exact ⟨w2, z2.sameBut hs hcc⟩
    · obtain ⟨e, n, ne, nf, d⟩ := I.pin p hp
      refine ⟨(hs.2 p.1 ?_).trans e, n, ne, nf, d⟩
      intro q
      rw [q, hoc] at e
      have q' : oc = p.2 := Option.some.inj e
      exact d w' (by rw [← q']; exact hocd)
theorem store_ok {M : Model} {A : Around} {E : Value → Shared → Prop} {i : Nat} {x : Str} {v : V} {u : Value} {Q : Unit → Shared → Prop} (I : Inv X pins σ H s) (hN : X.N.Nodup) (hi : X.N[i]? = some x) (hx : Loc X.env.scope x) (r : RelV v u)
    (h : ∀ s', Inv X pins (σ.set i (some v)) H s' → Q () s') (hf : X.fn x = true ∨ X.env.scope.names.lookup x = some .local := by first | exact .inl rfl | exact .inr rfl | assumption) : wpAny M A (storeName X.env x u) Q E s :=
  store_ok2 I hN hi hx r (fun s' I' _ => h s' I') hf
/-- behind a call or a block, the state as it is -/
theorem Inv.call' {s' : Shared} {ch : List Addr} (I : Inv X pins σ H s) (ho : s'.os = s.os) (u : Un (frs X.stack) ch H H' s.heap s'.heap) (hok : HOk X.prog X.w H' s'.heap) (hg : AllBare s'.gens)
    (hch : ∀ b ∈ ch, (b ∈ X.ex ∨ X.s₀.heap.objs.size ≤ b) ∧ b ≠ X.env.locals ∧ (∀ x c, X.env.cells.lookup x = some c → c ≠ b) ∧ ∀ p ∈ X.pn ++ pins, p.1 ≠ b) : Inv X pins σ H' s' := by
  obtain ⟨h', g', d', t', o'⟩ := s'
  have e : o' = s.os := ho
  subst e
  exact I.call (g' := g') (t' := t') (d' := d') u hok hg hch
end

/-- an exception: its class, its own dict's address (where it has one), the abstract heap behind it -/
abbrev XK := Value → Option Addr → Hp → Prop
abbrev St := List (Option V)
abbrev VK := V → Hp → Prop
/-- an expression's reading; a test's; an argument list's -/
abbrev TE := St → Hp → VK → Prop
abbrev TT := St → Hp → (Bool → Hp → Prop) → Prop
abbrev TA := St → Hp → (List V → Hp → Prop) → Prop
/-- what is wanted behind a statement -/
structure Ends where
  nx : St → Hp → Prop
  rt : VK
  bk : St → Hp → Prop := fun _ _ => False
  ct : St → Hp → Prop := fun _ _ => False
abbrev TS := Ends → St → Hp → Prop

def EP (X : Cx) (pins : List (Addr × Obj)) (σ : St) (Q : VK) (u : Value) (s' : Shared) : Prop := ∃ v H', Inv X pins σ H' s' ∧ RelV v u ∧ Q v H'
def TP (X : Cx) (pins : List (Addr × Obj)) (σ : St) (Q : Bool → Hp → Prop) (b : Bool) (s' : Shared) : Prop := ∃ H', Inv X pins σ H' s' ∧ Q b H'
def AP (X : Cx) (pins : List (Addr × Obj)) (σ : St) (Q : List V → Hp → Prop) (us : List Value) (s' : Shared) : Prop := ∃ vs H', Inv X pins σ H' s' ∧ Vals vs us ∧ Q vs H'
def SP (X : Cx) (pins : List (Addr × Obj)) (D : Ends) (f : Flow) (s' : Shared) : Prop :=
  match f with
  | .next => ∃ σ' H', Inv X pins σ' H' s' ∧ D.nx σ' H'
  | .brk => ∃ σ' H', Inv X pins σ' H' s' ∧ D.bk σ' H'
  | .cont => ∃ σ' H', Inv X pins σ' H' s' ∧ D.ct σ' H'
  | .ret u => ∃ v σ' H', Inv X pins σ' H' s' ∧ RelV v u ∧ D.rt v H'

def PE (X : Cx) (e : Expr) (t : TE) : Prop :=
  ∀ (pins : List (Addr × Obj)) (s : Shared) (σ : St) (H : Hp) (Q : VK), Inv X pins σ H s → t σ H Q → wpAny (model X.prog X.w) X.A (eval e X.env) (EP X pins σ Q) X.xe s
def PT (X : Cx) (e : Expr) (t : TT) : Prop :=
  ∀ (pins : List (Addr × Obj)) (s : Shared) (σ : St) (H : Hp) (Q : Bool → Hp → Prop), Inv X pins σ H s → t σ H Q → wpAny (model X.prog X.w) X.A (isTrue e X.env (eval e X.env)) (TP X pins σ Q) X.xe s
/-- a test whatever its 'whole' is (and, or) -/
def PW (X : Cx) (e : Expr) (t : TT) : Prop :=
  ∀ (whole : Sem Value) (pins : List (Addr × Obj)) (s : Shared) (σ : St) (H : Hp) (Q : Bool → Hp → Prop), Inv X pins σ H s → t σ H Q → wpAny (model X.prog X.w) X.A (isTrue e X.env whole) (TP X pins σ Q) X.xe s
theorem PW.pt {X : Cx} {e : Expr} {t : TT} (h : PW X e t) : PT X e t := h _
/-- an argument list (no star), from the left -/
def PA (X : Cx) (es : List Expr) (t : TA) : Prop :=
  ∀ (pos : Pos) (pins : List (Addr × Obj)) (s : Shared) (σ : St) (H : Hp) (Q : List V → Hp → Prop), Inv X pins σ H s → t σ H Q → wpAny (model X.prog X.w) X.A (spliced (backTo pos (starEach es X.env))) (AP X pins σ Q) X.xe s
def PS (X : Cx) (st : Stmt) (t : TS) : Prop :=
  ∀ (pins : List (Addr × Obj)) (s : Shared) (σ : St) (H : Hp) (D : Ends), Inv X pins σ H s → t D σ H → wpAny (model X.prog X.w) X.A (exec st X.env) (SP X pins D) X.xe s
def PSs (X : Cx) (st : List Stmt) (t : TS) : Prop :=
  ∀ (pins : List (Addr × Obj)) (s : Shared) (σ : St) (H : Hp) (D : Ends), Inv X pins σ H s → t D σ H → wpAny (model X.prog X.w) X.A (execs st X.env) (SP X pins D) X.xe s
/-- weaken the end -/
theorem thn {α : Type} {t : Sem α} {Q Q' : α → Shared → Prop} {M : Model} {A : Around} {E : Value → Shared → Prop} {s : Shared} (h : wpAny M A t Q E s) (hQ : ∀ a s, Q a s → Q' a s) : wpAny M A t Q' E s := wpAny_mono h hQ fun _ _ x => x
end L2

namespace L2
open PySem PySem.Spec PyProof.Rows
section
variable {X : Cx}

def tVar (i : Nat) : TE := fun σ H Q => ∃ v, σ[i]? = some (some v) ∧ Q v H
def tC (v : V) : TE := fun _ H Q => Q v H
theorem pe_var {i : Nat} {x : Str} {pos : Pos} (hN : X.N[i]? = some x) (hv : Vis X.env.scope x) (hd : (x == ("__debug__" : Str)) = false := by decide) (hcd : (x == ("__classdict__" : Str)) = false := by decide) : PE X (.Name x pos) (tVar i) := by
  intro pins s σ H Q I h
  obtain ⟨v, e, h⟩ := h
  obtain ⟨m, hn, hl⟩ := I.loc
  obtain ⟨u, r, l⟩ := hl i x v hN e hv
  have fin : EP X pins σ Q u s := ⟨v, H, I, r, h⟩
  rcases l with ⟨hk, hm⟩ | ⟨hk, c, hc, hcell⟩
  · exact wpAny_Name (wpAny_loadName_local I.ok.kind hk hn hm fin) hd
  · rcases hk with hk | hk
    · exact wpAny_Name (wpAny_loadName_cell I.ok.kind hk hc hcell fin) hd
    · exact wpAny_Name (wpAny_loadName_free I.ok.kind hk hc hcell fin hcd) hd
theorem pe_int {i j pos} : PE X (.Constant (.int i) j pos) (tC (.int i)) := fun _ _ _ H _ I h => wpAny_Constant_int ⟨.int i, H, I.tok _, ⟨_, rfl⟩, h⟩
theorem pe_bl {b j pos} : PE X (.Constant (.bool b) j pos) (tC (.bl b)) := fun _ _ _ H _ I h => Constant_bool ⟨.bl b, H, I, rfl, h⟩
theorem pe_non {j pos} : PE X (.Constant .none j pos) (tC .non) := fun _ _ _ H _ I h => Constant_none ⟨.non, H, I, rfl, h⟩
theorem pe_str {x j pos} : PE X (.Constant (.str x) j pos) (tC (.str x)) := fun _ _ _ H _ I h => Calls.Constant_str ⟨.str x, H, I.tok _, ⟨_, rfl⟩, h⟩

/-- a global name of the def -/
def Gl (X : Cx) (x : Str) : Prop := X.env.kindOf x = some .globalImplicit
theorem ld_glob {E : Value → Shared → Prop} {pins : List (Addr × Obj)} {s : Shared} {σ : St} {H : Hp} {x : Str} {u : Value} {pos : Pos} {Q : Value → Shared → Prop} (I : Inv X pins σ H s) (hg : Gl X x) (hm : X.mg x = some u) (h : Q u s)
    (hd : (x == ("__debug__" : Str)) = false := by decide) : wpAny (model X.prog X.w) X.A (eval (.Name x pos) X.env) Q E s :=
  Calls.Name_function_global I.ok.kind hg (Calls.loadGlobal_global (by rw [I.ok.glob]; exact I.mod.glob.keeps I.bk) hm h) hd
theorem ld_blt {E : Value → Shared → Prop} {pins : List (Addr × Obj)} {s : Shared} {σ : St} {H : Hp} {x : Str} {u : Value} {pos : Pos} {Q : Value → Shared → Prop} (I : Inv X pins σ H s) (hg : Gl X x) (hm : X.mg x = none) (hv : bootBuiltins x = some u) (h : Q u s)
    (hn : x ≠ "__name__" := by decide) (hd : (x == ("__debug__" : Str)) = false := by decide) : wpAny (model X.prog X.w) X.A (eval (.Name x pos) X.env) Q E s := by
  obtain ⟨mb, h1, h2⟩ := I.mod.blt
  exact Calls.Name_function_global I.ok.kind hg (Calls.loadGlobal_builtin (by rw [I.ok.glob]; exact I.mod.glob.keeps I.bk) hm (by rw [I.ok.blt]; exact h1.keeps I.bk) ((h2 x hn).trans hv) h) hd
/-- a module's constant, a class, a function, as a value -/
theorem pe_glob {x : Str} {v : V} {u : Value} {pos : Pos} (hg : Gl X x) (hm : X.mg x = some u) (r : RelV v u) (hd : (x == ("__debug__" : Str)) = false := by decide) : PE X (.Name x pos) (tC v) :=
  fun _ _ _ H _ I h => ld_glob I hg hm ⟨v, H, I, r, h⟩ hd
theorem pe_bltn {x : Str} {v : V} {u : Value} {pos : Pos} (hg : Gl X x) (hm : X.mg x = none) (hv : bootBuiltins x = some u) (r : RelV v u) (hn : x ≠ "__name__" := by decide) (hd : (x == ("__debug__" : Str)) = false := by decide) : PE X (.Name x pos) (tC v) :=
  fun _ _ _ H _ I h => ld_blt I hg hm hv ⟨v, H, I, r, h⟩ hn hd

variable {a b : Expr} {ta tb : TE} {pos : Pos}

variable {tA tB' : TT} {rest : List Expr}
def tAnd (t u : TT) : TT := fun σ H Q => t σ H fun c H1 => if c = true then u σ H1 Q else Q false H1
def tOr (t u : TT) : TT := fun σ H Q => t σ H fun c H1 => if c = true then Q true H1 else u σ H1 Q
def tNot (t : TT) : TT := fun σ H Q => t σ H fun c H1 => Q (!c) H1
theorem pw_and1 (ha : PT X a tA) : PW X (.BoolOp .And [a] pos) tA := by
  intro wh pins s σ H Q I h
  refine isTrue_and (thn (ha pins s σ H Q I h) fun c s1 e => ?_)
  cases c with
  | true => exact isTrue_and_nil e
  | false => exact e
theorem pw_or1 (ha : PT X a tA) : PW X (.BoolOp .Or [a] pos) tA := by
  intro wh pins s σ H Q I h
  refine isTrue_or (thn (ha pins s σ H Q I h) fun c s1 e => ?_)
  cases c with
  | false => exact isTrue_or_nil e
  | true => exact e
theorem pw_and (ha : PT X a tA) (hb : PW X (.BoolOp .And (b :: rest) pos) tB') : PW X (.BoolOp .And (a :: b :: rest) pos) (tAnd tA tB') := by
  intro wh pins s σ H Q I h
  refine isTrue_and (thn (ha pins s σ H _ I h) fun c s1 ⟨H1, I1, q1⟩ => ?_)
  cases c with
  | true => exact hb wh pins s1 σ H1 Q I1 q1
  | false => exact ⟨H1, I1, q1⟩
theorem pw_or (ha : PT X a tA) (hb : PW X (.BoolOp .Or (b :: rest) pos) tB') : PW X (.BoolOp .Or (a :: b :: rest) pos) (tOr tA tB') := by
  intro wh pins s σ H Q I h
  refine isTrue_or (thn (ha pins s σ H _ I h) fun c s1 ⟨H1, I1, q1⟩ => ?_)
  cases c with
  | true => exact ⟨H1, I1, q1⟩
  | false => exact hb wh pins s1 σ H1 Q I1 q1
theorem pt_not (ha : PT X a tA) : PT X (.UnaryOp .Not a pos) (tNot tA) := by
  intro pins s σ H Q I h
  exact isTrue_not (ha pins s σ H (fun c H1 => Q (!c) H1) I h)
theorem pe_one {op} {t : TE} (h : PE X a t) : PE X (.BoolOp op [a] pos) t := fun pins s σ H Q I hw => BoolOp_one (h pins s σ H Q I hw)
/-- a if t else b -/
def tIf (t : TT) (ta tb : TE) : TE := fun σ H Q => t σ H fun c H1 => if c = true then ta σ H1 Q else tb σ H1 Q
theorem pe_ifExp {c : Expr} (hc : PT X c tA) (ha : PE X a ta) (hb : PE X b tb) : PE X (.IfExp c a b pos) (tIf tA ta tb) := by
  intro pins s σ H Q I h
  refine wpAny_IfExp (thn (hc pins s σ H _ I h) fun d s1 ⟨H1, I1, q1⟩ => ?_)
  cases d with
  | true => exact ha pins s1 σ H1 Q I1 q1
  | false => exact hb pins s1 σ H1 Q I1 q1
end
end L2

namespace L2
open PySem PySem.Spec PyProof.Rows

def SqL (K : PySem.W.Frag) (H : Hp) (a : Addr) (xs : List V) : Prop :=
  Rd H a (.lst xs) ∨
    ∃ (o : Obj) (its : Array Value) (n : Nat), K.lookup a = some o ∧ o.cls = .type "list" ∧ o.dict = none ∧ o.data = .seq its n ∧ its.size ≤ sizeLine ∧ Vals xs its.toList
def SqT (K : PySem.W.Frag) (H : Hp) (a : Addr) (xs : List V) : Prop :=
  Rd H a (.tup xs) ∨
    ∃ (o : Obj) (its : Array Value) (n : Nat), K.lookup a = some o ∧ o.cls = .type "tuple" ∧ o.data = .seq its n ∧ its.size ≤ sizeLine ∧ Vals xs its.toList
def absV : Value → Option V
  | .none => some .non
  | .bool b => some (.bl b)
  | .int i _ => some (.int i)
  | .str x _ => some (.str x)
  | .bytes b _ => some (.byt b)
  | .float b _ => some (.flt b)
  | .ref a => some (.ref a)
  | .type n => some (.ty n)
  | _ => none
theorem RelV.abs {x : V} {u : Value} (r : RelV x u) : absV u = some x := by
  cases x with
  | non => cases r; rfl
  | bl _ => cases r; rfl
  | int _ => obtain ⟨t, rfl⟩ := r; rfl
  | str _ => obtain ⟨t, rfl⟩ := r; rfl
  | byt _ => obtain ⟨t, rfl⟩ := r; rfl
  | flt _ => obtain ⟨t, rfl⟩ := r; rfl
  | ref _ => cases r; rfl
  | ty _ => cases r; rfl
theorem RelV.inj {x y : V} {u : Value} (r : RelV x u) (q : RelV y u) : x = y := Option.some.inj (r.abs.symm.trans q.abs)
theorem Vals.inj : ∀ {xs ys : List V} {us : List Value}, Vals xs us → Vals ys us → xs = ys
  | _, _, _, .nil, .nil => rfl
  | _, _, _, .cons r t, .cons r' t' => by rw [r.inj r', Vals.inj t t']
section
variable {X : Cx} {pins : List (Addr × Obj)} {σ : St} {H : Hp} {s : Shared} {a : Addr} {xs ys : List V}
theorem SqL.of {K : PySem.W.Frag} (h : H a = some (.lst xs)) : SqL K H a xs := .inl (.inl h)
theorem SqT.of {K : PySem.W.Frag} (h : H a = some (.tup xs)) : SqT K H a xs := .inl (.inl h)
theorem Inv.list (I : Inv X pins σ H s) (h : SqL X.K H a xs) : ∃ its : List Value, Vals xs its ∧ PlainL s.heap a its.toArray ∧ xs.length ≤ sizeLine := by
  rcases h with h | ⟨o, its, n, hk, hc, hd, hs, hz, r⟩
  · obtain ⟨z, its, n, r, e⟩ := h.ok I.hok
    exact ⟨its, r, ⟨_, n, e, rfl, rfl, rfl⟩, z⟩
  · refine ⟨its.toList, r, ⟨o, n, I.kIn a o hk, hc, hd, by simpa using hs⟩, ?_⟩
    have e := r.length
    simp only [Array.length_toList] at e
    omega
theorem Inv.tuple (I : Inv X pins σ H s) (h : SqT X.K H a xs) : ∃ its : List Value, Vals xs its ∧ IsTup s.heap a its.toArray ∧ xs.length ≤ sizeLine := by
  rcases h with h | ⟨o, its, n, hk, hc, hs, hz, r⟩
  · obtain ⟨z, its, r, p⟩ := h.ok I.hok
    exact ⟨its, r, p, z⟩
  · refine ⟨its.toList, r, ⟨o, I.kIn a o hk, hc, n, by simpa using hs⟩, ?_⟩
    have e := r.length
    simp only [Array.length_toList] at e
    omega
theorem Inv.list_inj (I : Inv X pins σ H s) (h : SqL X.K H a xs) (h' : SqL X.K H a ys) : xs = ys := by
  obtain ⟨its, r, ⟨o, n, e, _, _, d⟩, _⟩ := I.list h
  obtain ⟨its', r', ⟨o', n', e', _, _, d'⟩, _⟩ := I.list h'
  rw [e] at e'; cases e'
  rw [d] at d'
  injection d' with d1 _
  have : its = its' := by simpa using congrArg Array.toList d1
  subst this
  exact r.inj r'
theorem Inv.tuple_inj (I : Inv X pins σ H s) (h : SqT X.K H a xs) (h' : SqT X.K H a ys) : xs = ys := by
  obtain ⟨its, r, ⟨o, e, _, n, d⟩, _⟩ := I.tuple h
  obtain ⟨its', r', ⟨o', e', _, n', d'⟩, _⟩ := I.tuple h'
  rw [e] at e'; cases e'
  rw [d] at d'
  injection d' with d1 _
  have : its = its' := by simpa using congrArg Array.toList d1
  subst this
  exact r.inj r'
end

abbrev Cx.wish (X : Cx) (E : Value → Shared → Prop) : Cx := { X with xe := E }
/-- no exception leaves -/
abbrev Cx.nox (X : Cx) : Cx := X.wish fun _ _ => False
theorem Cx.Ok.wish {X : Cx} (ok : X.Ok) (E : Value → Shared → Prop) : (X.wish E).Ok :=
  ⟨ok.mod, ok.kind, ok.glob, ok.blt, ok.above, ok.inj, ok.has, ok.cab, ok.hd, ok.frames, ok.stk, ok.exf, ok.bs, ok.bsz, ok.noex, ok.exfs, ok.funs, ok.frf⟩
theorem Cx.Ok.unwish {X : Cx} {E : Value → Shared → Prop} (ok : (X.wish E).Ok) : X.Ok :=
  ⟨ok.mod, ok.kind, ok.glob, ok.blt, ok.above, ok.inj, ok.has, ok.cab, ok.hd, ok.frames, ok.stk, ok.exf, ok.bs, ok.bsz, ok.noex, ok.exfs, ok.funs, ok.frf⟩
section
variable {X : Cx} {pins : List (Addr × Obj)} {σ : St} {H : Hp} {s : Shared} {E : Value → Shared → Prop}
theorem Inv.wish (I : Inv X pins σ H s) (E : Value → Shared → Prop) : Inv (X.wish E) pins σ H s := ⟨I.ok.wish E, I.os, I.bare, I.base, I.loc, I.cell, I.free, I.freeC, I.pin, I.hok, I.len⟩
theorem Inv.unwish (I : Inv (X.wish E) pins σ H s) : Inv X pins σ H s := ⟨I.ok.unwish, I.os, I.bare, I.base, I.loc, I.cell, I.free, I.freeC, I.pin, I.hok, I.len⟩
theorem SP.unwish {D : Ends} {f : Flow} {s' : Shared} (h : SP (X.wish E) pins D f s') : SP X pins D f s' := by
  cases f with
  | next => obtain ⟨σ', H', I, q⟩ := h; exact ⟨σ', H', I.unwish, q⟩
  | brk => obtain ⟨σ', H', I, q⟩ := h; exact ⟨σ', H', I.unwish, q⟩
  | cont => obtain ⟨σ', H', I, q⟩ := h; exact ⟨σ', H', I.unwish, q⟩
  | ret u => obtain ⟨v, σ', H', I, r, q⟩ := h; exact ⟨v, σ', H', I.unwish, r, q⟩
theorem PSs.nox {st : List Stmt} {t : TS} (h : PSs X.nox st t) : PSs X st t := fun pins s σ H D I hw =>
  wpAny_mono (h pins s σ H D (I.wish _) hw) (fun _ _ q => q.unwish) fun _ _ z => False.elim z
end

section
variable {X : Cx} {st : Stmt} {rest : List Stmt} {t u : TS} {e : Expr} {te : TE} {pos : Pos}
def tNext : TS := fun D σ H => D.nx σ H
def tSeq (t u : TS) : TS := fun D σ H => t { D with nx := u D } σ H
theorem pss_nil : PSs X [] tNext := fun _ _ σ H _ I h => wpAny_execs_nil ⟨σ, H, I, h⟩
theorem pss_cons (h1 : PS X st t) (h2 : PSs X rest u) : PSs X (st :: rest) (tSeq t u) := by
  intro pins s σ H D I h
  refine wpAny_execs_cons (thn (h1 pins s σ H { D with nx := u D } I h) fun f s1 q => ?_)
  cases f with
  | next =>
    obtain ⟨σ', H', I', q⟩ := q
    exact h2 pins s1 σ' H' D I' q
  | ret v => exact q
  | brk => exact q
  | cont => exact q
def tBreak : TS := fun D σ H => D.bk σ H
def tCont : TS := fun D σ H => D.ct σ H
theorem ps_pass : PS X (.Pass pos) tNext := fun _ _ σ H _ I h => wpAny_Pass ⟨σ, H, I, h⟩
theorem ps_break : PS X (.Break pos) tBreak := fun _ _ σ H _ I h => wpAny_Break ⟨σ, H, I, h⟩
theorem ps_continue : PS X (.Continue pos) tCont := fun _ _ σ H _ I h => wpAny_Continue ⟨σ, H, I, h⟩
/-- in a def's body nothing is shown -/
theorem Inv.quiet {pins : List (Addr × Obj)} {σ : St} {H : Hp} {s : Shared} (I : Inv X pins σ H s) : interactive X.env = false := by simp [interactive, I.ok.kind]
/-- an expression whose value is dropped -/
def tDrop (te : TE) : TS := fun D σ H => te σ H fun _ H1 => D.nx σ H1
theorem ps_expr (he : PE X e te) (hs : swapsWith e none pos.line X.env = pure false := by rfl) : PS X (.Expr e pos) (tDrop te) := by
  intro pins s σ H D I h
  exact wpAny_Expr_any (thn (he pins s σ H _ I h) fun v s1 ⟨x, H1, I1, r1, q1⟩ => ⟨σ, H1, I1, q1⟩) I.quiet hs
def tRet (te : TE) : TS := fun D σ H => te σ H D.rt
theorem ps_ret (he : PE X e te) : PS X (.Return (some e) pos) (tRet te) := by
  intro pins s σ H D I h
  exact wpAny_Return_some (thn (he pins s σ H _ I h) fun v s1 ⟨x, H1, I1, r1, q1⟩ => ⟨x, σ, H1, I1, r1, q1⟩)
def tRetN : TS := fun D _ H => D.rt .non H
theorem ps_retN : PS X (.Return none pos) tRetN := fun _ _ σ H _ I h => wpAny_Return_none ⟨.non, σ, H, I, rfl, h⟩
def tIfS (c : TT) (t u : TS) : TS := fun D σ H => c σ H fun b H1 => if b = true then t D σ H1 else u D σ H1
theorem ps_if {c : Expr} {a b : List Stmt} {tc : TT} (hc : PT X c tc) (ha : PSs X a t) (hb : PSs X b u) : PS X (.If c a b pos) (tIfS tc t u) := by
  intro pins s σ H D I h
  refine wpAny_If (thn (hc pins s σ H _ I h) fun d s1 ⟨H1, I1, q1⟩ => ?_)
  cases d with
  | true => exact ha pins s1 σ H1 D I1 q1
  | false => exact hb pins s1 σ H1 D I1 q1
end

abbrev TG := V → St → Hp → (St → Hp → Prop) → Prop
abbrev TGs := List V → St → Hp → (St → Hp → Prop) → Prop
def PG (X : Cx) (target : Expr) (t : TG) : Prop :=
  ∀ (pins : List (Addr × Obj)) (s : Shared) (σ : St) (H : Hp) (v : V) (u : Value) (Q : St → Hp → Prop), Inv X pins σ H s → RelV v u → t v σ H Q →
    wpAny (model X.prog X.w) X.A (assign target X.env u) (fun _ s' => ∃ σ' H', Inv X pins σ' H' s' ∧ Q σ' H') X.xe s
/-- several targets, one after another -/
def PGs (X : Cx) (ts : List Expr) (t : TGs) : Prop :=
  ∀ (pins : List (Addr × Obj)) (s : Shared) (σ : St) (H : Hp) (vs : List V) (us : List Value) (Q : St → Hp → Prop), Inv X pins σ H s → Vals vs us → t vs σ H Q →
    wpAny (model X.prog X.w) X.A (assignInOrder ((assignEach ts X.env).map (·.2)) us) (fun _ s' => ∃ σ' H', Inv X pins σ' H' s' ∧ Q σ' H') X.xe s
section
variable {X : Cx} {pos : Pos}
def gName (i : Nat) : TG := fun v σ H Q => Q (σ.set i (some v)) H
theorem pg_name {i : Nat} {x : Str} (hN : X.N.Nodup) (hi : X.N[i]? = some x) (hx : Loc X.env.scope x) (hf : X.fn x = true ∨ X.env.scope.names.lookup x = some .local := by first | exact .inl rfl | exact .inr rfl | assumption) : PG X (.Name x pos) (gName i) := by
  intro pins s σ H v u Q I r h
  exact wpAny_assign_Name (store_ok I hN hi hx r (fun s' I' => ⟨_, H, I', h⟩) hf)
def gNil : TGs := fun vs σ H Q => vs = [] ∧ Q σ H
def gCons (t : TG) (u : TGs) : TGs := fun vs σ H Q => ∃ v r, vs = v :: r ∧ t v σ H fun σ' H' => u r σ' H' Q
theorem pgs_nil : PGs X [] gNil := by
  intro pins s σ H vs us Q I r h
  obtain ⟨e, h⟩ := h
  subst e
  cases r
  exact assignInOrder_nil ⟨σ, H, I, h⟩
theorem pgs_cons {e : Expr} {es : List Expr} {t : TG} {u : TGs} (h1 : PG X e t) (h2 : PGs X es u)
    (hs : (assignEach (e :: es) X.env).map (·.2) = assign e X.env :: (assignEach es X.env).map (·.2) := by rfl) : PGs X (e :: es) (gCons t u) := by
  intro pins s σ H vs us Q I r h
  obtain ⟨v, vr, e1, h⟩ := h
  subst e1
  cases r with
  | cons r rr =>
    rw [hs]
    refine assignInOrder_cons (thn (h1 pins s σ H _ _ _ I r h) fun _ s1 ⟨σ1, H1, I1, q1⟩ => ?_)
    exact h2 pins s1 σ1 H1 _ _ Q I1 rr q1
/-- (a, b, ..) = a tuple of that length -/
def gTup (K : PySem.W.Frag) (n : Nat) (t : TGs) : TG := fun v σ H Q => ∃ a xs, v = .ref a ∧ SqT K H a xs ∧ xs.length = n ∧ t xs σ H Q
theorem pg_tup {es : List Expr} {k : Nat} {t : TGs} {n : Nat} (hc : X.calm = true) (h : PGs X es t)
    (hn : (assignEach es X.env).length = n := by rfl) (hst : (assignEach es X.env).findIdx? (·.1) = none := by rfl) : PG X (.Tuple es k pos) (gTup X.K n t) := by
  intro pins s σ H v u Q I r hw
  obtain ⟨a, xs, e1, hq, hl, hw⟩ := hw
  subst e1
  cases r
  obtain ⟨its, rv, ht, hz⟩ := I.tuple hq
  refine assign_Tuple_tuple (I.ok.hd hc) ht (by simp [hn, ← hl, rv.length]) hst fun h' hx => ?_
  have I1 : Inv X pins σ H { s with heap := h' } := I.kept (t' := s.toks) fun b o e => hx b o (Nat.ne_of_lt (Heap.lt_size e)) e
  exact h pins _ σ H xs _ Q I1 (by simpa using rv) hw
/-- target = value -/
def tAsg (te : TE) (g : TG) : TS := fun D σ H => te σ H fun x H1 => g x σ H1 D.nx
theorem ps_asg {tg e : Expr} {te : TE} {g : TG} (he : PE X e te) (hg : PG X tg g) (hs : swapsWithSole [tg] e pos.line X.env = pure false := by rfl) (hw : swappedStores [tg] e X.env = pure none := by rfl)
    (h1 : (assignEach [tg] X.env).map (·.2) = [assign tg X.env] := by rfl) : PS X (.Assign [tg] e pos) (tAsg te g) := by
  intro pins s σ H D I h
  refine wpAny_Assign_stores (thn (he pins s σ H _ I h) fun v s1 ⟨x, H1, I1, r1, q1⟩ => ?_) hs hw
  rw [h1]
  exact thn (hg pins s1 σ H1 x v _ I1 r1 q1) fun _ s2 q => q
/-- name = value -/
theorem ps_set {i : Nat} {x : Str} {e : Expr} {te : TE} {pos' : Pos} (hN : X.N.Nodup) (hi : X.N[i]? = some x) (hx : Loc X.env.scope x) (he : PE X e te) (hs : swapsWith e (some (.Name x pos')) pos.line X.env = pure false := by rfl) (hf : X.fn x = true ∨ X.env.scope.names.lookup x = some .local := by first | exact .inl rfl | exact .inr rfl | assumption) :
    PS X (.Assign [.Name x pos'] e pos) (tAsg te (gName i)) := by
  intro pins s σ H D I h
  refine wpAny_Assign_Name (thn (he pins s σ H _ I h) fun v s1 ⟨y, H1, I1, r1, q1⟩ => ?_) hs
  exact store_ok I1 hN hi hx r1 (fun s2 I2 => ⟨_, H1, I2, q1⟩) hf
end

section
variable {X : Cx} {pos : Pos}
/-- the invariant W with its measure -/
def tWhile (c : TT) (tb : TS) : TS := fun D σ H => ∃ W : Nat → St → Hp → Prop, (∃ m, W m σ H) ∧ ∀ m σ H, W m σ H →
  c σ H fun b H1 => if b = true then ∃ N : St → Hp → Prop, (∀ σ' H', N σ' H' → ∃ m', m' < m ∧ W m' σ' H') ∧ tb { D with nx := N, ct := N, bk := D.nx } σ H1 else D.nx σ H1
theorem ps_while {c : Expr} {body : List Stmt} {tc : TT} {tb : TS} (hp : PassesOwn (model X.prog X.w) X.A X.env X.xe) (hc : PT X c tc) (hb : PSs X body tb) : PS X (.While c body [] pos) (tWhile tc tb) := by
  intro pins s σ H D I h
  obtain ⟨W, ⟨m0, w0⟩, turn⟩ := h
  refine wpAny_While (codeAny_whileLoop (fun n s' => ∃ σ' H', Inv X pins σ' H' s' ∧ W n σ' H') ?_ m0 ⟨σ, H, I, w0⟩)
  rintro n s1 ⟨σ1, H1, I1, w1⟩
  refine wpAny_passesOwn hp (thn (hc pins s1 σ1 H1 _ I1 (turn n σ1 H1 w1)) fun b s2 ⟨H2, I2, q2⟩ => ?_)
  cases b with
  | true =>
    obtain ⟨N, hN, q2⟩ := q2
    rw [if_pos rfl]
    refine wpAny_passesOwn hp (thn (hb pins s2 σ1 H2 _ I2 q2) fun f s3 q3 => ?_)
    cases f with
    | next =>
      obtain ⟨σ3, H3, I3, n3⟩ := q3
      obtain ⟨m', hm, w3⟩ := hN σ3 H3 n3
      exact ⟨m', hm, σ3, H3, I3, w3⟩
    | cont =>
      obtain ⟨σ3, H3, I3, n3⟩ := q3
      obtain ⟨m', hm, w3⟩ := hN σ3 H3 n3
      exact ⟨m', hm, σ3, H3, I3, w3⟩
    | brk => exact q3
    | ret v => exact q3
  | false =>
    rw [if_neg Bool.false_ne_true]
    exact wpAny_execs_nil ⟨σ1, H2, I2, q2⟩
end

/-- at turn i: it yields x (the heap may grow), or it stops -/
structure It where
  go : Nat → Hp → Prop
  yld : Nat → Hp → V → Hp → Prop
  stop : Nat → Hp → Prop
/-- the iterator's own objects may turn: they are not the frame's, not pinned, younger than the entry (or a comprehension's own) -/
def FpOk (X : Cx) (pins : List (Addr × Obj)) (H : Hp) (b : Addr) : Prop :=
  H b = none ∧ b ≠ X.env.locals ∧ b ∉ X.fs ∧ (b ∈ X.ex ∨ X.s₀.heap.objs.size ≤ b) ∧ (∀ x c, X.env.cells.lookup x = some c → c ≠ b) ∧ ∀ p ∈ X.pn ++ pins, p.1 ≠ b
theorem Inv.fpOk {X : Cx} {pins : List (Addr × Obj)} {σ : St} {H H' : Hp} {s : Shared} {b : Addr} (I : Inv X pins σ H s) (hb : s.heap.objs.size ≤ b) (hn : H' b = none) : FpOk X pins H' b := by
  refine ⟨hn, Nat.ne_of_gt (Nat.lt_of_lt_of_le I.lt hb), I.nofs hb, .inr (Nat.le_trans I.sz hb), fun x c e z => ?_, fun p hp z => ?_⟩
  · obtain ⟨v, q⟩ := I.cell x c e
    exact absurd (Nat.lt_of_lt_of_le q.lt (by rw [z]; exact hb)) (Nat.lt_irrefl _)
  · exact absurd (Nat.lt_of_lt_of_le (Heap.lt_size (I.pin p hp).1) (by rw [z]; exact hb)) (Nat.lt_irrefl _)
structure Turn (P : Program) (w : World) (K : PySem.W.Frag) (tg : Expr) (J : It) (fp : List Addr) (it : Addr) (tn : Nat → Heap → Prop) : Prop where
  mem : it ∈ fp
  obj : ∀ i h, tn i h → ∀ b ∈ fp, ∃ o, h.get? b = some o ∧ ∀ v, o.data ≠ .cell v
  keep : ∀ i h h', tn i h → (∀ b ∈ fp, ∀ o, h.get? b = some o → h'.get? b = some o) → tn i h'
  item : ∀ (X : Cx), X.prog = P → X.w = w → X.K = K → X.calm = true → ∀ (i : Nat) (pins : List (Addr × Obj)) (s : Shared) (σ : St) (H : Hp) (E : Value → Shared → Prop), Inv X pins σ H s → (∀ b ∈ fp, FpOk X pins H b) → tn i s.heap → J.go i H →
    wpAny (model P w) X.A (pyNext (.ref it)) (fun r s1 => ∃ u, r = some u ∧
      wpAny (model P w) X.A (letOwnedTupleGo tg (.ref it) u) (fun _ s2 => ∃ x H', Inv X pins σ H' s2 ∧ RelV x u ∧ J.yld i H x H' ∧ tn (i + 1) s2.heap ∧ ∀ b ∈ fp, H' b = none) E s1) E s
  done : ∀ (X : Cx), X.prog = P → X.w = w → X.K = K → X.calm = true → ∀ (i : Nat) (pins : List (Addr × Obj)) (s : Shared) (σ : St) (H : Hp) (E : Value → Shared → Prop), Inv X pins σ H s → (∀ b ∈ fp, FpOk X pins H b) → tn i s.heap → J.stop i H →
    wpAny (model P w) X.A (pyNext (.ref it)) (fun r s1 => r = none ∧ Inv X pins σ H s1) E s
  self : ∀ (A : Around) (i : Nat) (s : Shared) (Q : Value → Shared → Prop) (E : Value → Shared → Prop), tn i s.heap → Q (.ref it) s → wpAny (model P w) A (pyIter (.ref it)) Q E s
abbrev TI := St → Hp → (It → Hp → Prop) → Prop
/-- an iterator has come -/
def PIE (X : Cx) (pins : List (Addr × Obj)) (σ : St) (tg : Expr) (R : It → Hp → Prop) (itv : Value) (s2 : Shared) : Prop :=
  ∃ (it : Addr) (fp : List Addr) (tn : Nat → Heap → Prop) (J : It) (H' : Hp), itv = .ref it ∧ Inv X pins σ H' s2 ∧ Turn X.prog X.w X.K tg J fp it tn ∧ tn 0 s2.heap ∧ (∀ b ∈ fp, FpOk X pins H' b) ∧ R J H'
def PI (X : Cx) (tg iter : Expr) (wi : TI) : Prop :=
  ∀ (pins : List (Addr × Obj)) (s : Shared) (σ : St) (H : Hp) (R : It → Hp → Prop), Inv X pins σ H s → wi σ H R →
    wpAny (model X.prog X.w) X.A (eval iter X.env) (fun v s1 => wpAny (model X.prog X.w) X.A (pyIter v) (PIE X pins σ tg R) X.xe s1) X.xe s

/-- the step ahead of the store is nothing for an iterator that keeps no tuple -/
theorem go_of {M : Model} {A : Around} {E : Value → Shared → Prop} {s : Shared} {tg : Expr} {it : Addr} {u : Value} {o : Obj} {n : String} {vs : Array Value} {Q : Unit → Shared → Prop} (ho : s.heap.get? it = some o) (hc : o.cls = .type n) (hd : o.data = .fields vs)
    (hn : ["enumerate", "zip", "dict_itemiterator", "dict_reverseitemiterator", "odict_iterator", "itertools.zip_longest", "itertools.pairwise"].contains n = false) (hQ : Q () s) : wpAny M A (letOwnedTupleGo tg (.ref it) u) Q E s := by
  unfold letOwnedTupleGo
  cases tg <;> first
    | exact wpAny_pure hQ
    | (cases u <;> first
        | exact wpAny_pure hQ
        | (refine wpAny_bind (wpAny_load ho ?_)
           rw [hc, hd]
           show wpAny M A (if (["enumerate", "zip", "dict_itemiterator", "dict_reverseitemiterator", "odict_iterator", "itertools.zip_longest", "itertools.pairwise"].contains n && vs[0]? == some (rawInt _)) = true then _ else _) Q E s
           rw [if_neg (by intro h; rw [hn, Bool.false_and] at h; cases h)]
           exact wpAny_pure hQ))

/-- the list at a, as it stands at each turn (a loop may append to it) -/
def Itl (K : PySem.W.Frag) (a : Addr) : It :=
  ⟨fun i H => ∃ xs x, SqL K H a xs ∧ xs[i]? = some x, fun i H x H' => H' = H ∧ ∀ xs, SqL K H a xs → xs[i]? = some x, fun i H => ∃ xs, SqL K H a xs ∧ xs.length ≤ i⟩
def Itt (K : PySem.W.Frag) (a : Addr) : It :=
  ⟨fun i H => ∃ xs x, SqT K H a xs ∧ xs[i]? = some x, fun i H x H' => H' = H ∧ ∀ xs, SqT K H a xs → xs[i]? = some x, fun i H => ∃ xs, SqT K H a xs ∧ xs.length ≤ i⟩
/-- lo, lo + 1, .. (n of them) -/
def Itr (lo : Int) (n : Nat) : It := ⟨fun i _ => i < n, fun i H x H' => H' = H ∧ x = .int (lo + i), fun i _ => n ≤ i⟩
theorem turn_list {P : Program} {w : World} {K : PySem.W.Frag} {tg : Expr} (a it : Addr) : Turn P w K tg (Itl K a) [it] it (fun i h => h.IsListIter it a i) where
  mem := by simp
  obj := fun i h st b hb => by
    have e : b = it := by simpa using hb
    subst e
    obtain ⟨o, e, c, d⟩ := st
    exact ⟨o, e, fun v z => by rw [d] at z; cases z⟩
  keep := fun i h h' st k => st.at fun o e => k it (by simp) o e
  item := by
    intro X hP hw hK hc i pins s σ H E I hf st hg
    subst hP hw hK
    obtain ⟨xs, x, hq, hx⟩ := hg
    obtain ⟨its, rv, p, hz⟩ := I.list hq
    obtain ⟨u, hu, ru⟩ := rv.get hx
    obtain ⟨f0, f1, f2, f3, f4, f5⟩ := hf it (by simp)
    refine wpAny_pyNext_list_item st p.isList (x := u) (by simpa using hu) fun h' st' sb => ?_
    have I1 : Inv X pins σ H { s with heap := h' } := I.turned (t' := s.toks) (fun b o hb e => (sb.2 b hb).trans e) f0 f1 f3 f4 f5
    obtain ⟨o, e, c, d⟩ := id st'
    exact ⟨u, rfl, go_of (s := { s with heap := h' }) e c d (by decide) ⟨x, H, I1, ru, ⟨rfl, fun ys hy => by rw [I.list_inj hy hq]; exact hx⟩, st', fun b hb => (hf b hb).1⟩⟩
  done := by
    intro X hP hw hK hc i pins s σ H E I hf st hg
    subst hP hw hK
    obtain ⟨xs, hq, hx⟩ := hg
    obtain ⟨its, rv, p, hz⟩ := I.list hq
    obtain ⟨f0, f1, f2, f3, f4, f5⟩ := hf it (by simp)
    have hl := rv.length
    exact wpAny_pyNext_list_end (I.ok.hd hc) st p.isList (by simp; omega) fun h' eb => ⟨rfl, I.turned (t' := s.toks) (fun b o hb e => eb b o hb e) f0 f1 f3 f4 f5⟩
  self := fun _ _ _ _ _ st h => wpAny_pyIter_listiter st h
theorem turn_tuple {P : Program} {w : World} {K : PySem.W.Frag} {tg : Expr} (a it : Addr) : Turn P w K tg (Itt K a) [it] it (fun i h => h.IsTupleIter it a i) where
  mem := by simp
  obj := fun i h st b hb => by
    have e : b = it := by simpa using hb
    subst e
    obtain ⟨o, e, c, d⟩ := st
    exact ⟨o, e, fun v z => by rw [d] at z; cases z⟩
  keep := fun i h h' st k => st.at fun o e => k it (by simp) o e
  item := by
    intro X hP hw hK hc i pins s σ H E I hf st hg
    subst hP hw hK
    obtain ⟨xs, x, hq, hx⟩ := hg
    obtain ⟨its, rv, p, hz⟩ := I.tuple hq
    obtain ⟨u, hu, ru⟩ := rv.get hx
    obtain ⟨f0, f1, f2, f3, f4, f5⟩ := hf it (by simp)
    refine wpAny_pyNext_tuple_item st (show s.heap.IsTuple a its.toArray from p) (x := u) (by simpa using hu) fun h' st' sb => ?_
    have I1 : Inv X pins σ H { s with heap := h' } := I.turned (t' := s.toks) (fun b o hb e => (sb.2 b hb).trans e) f0 f1 f3 f4 f5
    obtain ⟨o, e, c, d⟩ := id st'
    exact ⟨u, rfl, go_of (s := { s with heap := h' }) e c d (by decide) ⟨x, H, I1, ru, ⟨rfl, fun ys hy => by rw [I.tuple_inj hy hq]; exact hx⟩, st', fun b hb => (hf b hb).1⟩⟩
  done := by
    intro X hP hw hK hc i pins s σ H E I hf st hg
    subst hP hw hK
    obtain ⟨xs, hq, hx⟩ := hg
    obtain ⟨its, rv, p, hz⟩ := I.tuple hq
    obtain ⟨f0, f1, f2, f3, f4, f5⟩ := hf it (by simp)
    have hl := rv.length
    exact wpAny_pyNext_tuple_end (I.ok.hd hc) st (show s.heap.IsTuple a its.toArray from p) (by simp; omega) fun h' eb => ⟨rfl, I.turned (t' := s.toks) (fun b o hb e => eb b o hb e) f0 f1 f3 f4 f5⟩
  self := fun _ _ _ _ _ st h => wpAny_pyIter_tupleiter st h
theorem turn_range {P : Program} {w : World} {K : PySem.W.Frag} {tg : Expr} (it : Addr) (lo : Int) (n : Nat) : Turn P w K tg (Itr lo n) [it] it (fun i h => IsRangeIter h it (lo + (i : Nat) * 1) ((n : Int) - (i : Nat)) 1) where
  mem := by simp
  obj := fun i h st b hb => by
    have e : b = it := by simpa using hb
    subst e
    exact ⟨_, st, fun v z => by
      have z' : Data.fields _ = Data.cell v := z
      cases z'⟩
  keep := fun i h h' st k => k it (by simp) _ st
  item := by
    intro X hP hw hK hc i pins s σ H E I hf st hg
    subst hP hw hK
    obtain ⟨f0, f1, f2, f3, f4, f5⟩ := hf it (by simp)
    have W := Walks.range (prog := X.prog) (w := X.w) (I.ok.hd hc) it lo 1 n
    refine W.item i s _ _ hg st fun v h' tk hv st' kk => ?_
    obtain ⟨t, rfl⟩ := hv
    have I1 : Inv X pins σ H { s with heap := h', toks := tk } := I.turned (fun b o hb e => kk b o (by simpa using hb) e) f0 f1 f3 f4 f5
    refine ⟨_, rfl, go_of (s := { s with heap := h', toks := tk }) (n := "range_iterator") st' rfl rfl (by decide) ⟨.int (lo + i), H, I1, ⟨t, ?_⟩, ⟨rfl, rfl⟩, st', fun b hb => (hf b hb).1⟩⟩
    rw [Int.mul_one]
  done := by
    intro X hP hw hK hc i pins s σ H E I hf st hg
    subst hP hw hK
    obtain ⟨f0, f1, f2, f3, f4, f5⟩ := hf it (by simp)
    exact wpAny_pyNext_range_end (I.ok.hd hc) st (by have : n ≤ i := hg; omega) fun h' eb => ⟨rfl, I.turned (t' := s.toks) (fun b o hb e => eb b o hb e) f0 f1 f3 f4 f5⟩
  self := fun _ _ _ _ _ st h => wpAny_pyIter_rangeiter st h
end L2

namespace L2
open PySem PySem.Spec PyProof.Rows
section
variable {X : Cx} {tg : Expr}
/-- a range object just made, walked -/
theorem range_it {pins : List (Addr × Obj)} {σ : St} {H : Hp} {s : Shared} {R : It → Hp → Prop} {E : Value → Shared → Prop} {lo hi : Int} {t u v : Tok} {tk : Nat} (I : Inv X pins σ H s) (h1 : -(2 ^ 62) ≤ lo) (h2 : lo < 2 ^ 62) (h3 : -(2 ^ 62) ≤ hi) (h4 : hi < 2 ^ 62)
    (q : R (Itr lo (hi - lo).toNat) H) : wpAny (model X.prog X.w) X.A (pyIter (.ref s.heap.objs.size)) (PIE X pins σ tg R) E { s with heap := s.heap.push { cls := .type "range", data := .fields #[.int lo t, .int hi u, .int 1 v] }, toks := tk } := by
  refine wpAny_pyIter_range (IsRange.new ..) (small_one h1 h2 h3 h4) ?_
  have I1 : Inv X pins σ H { s with heap := s.heap.push { cls := .type "range", data := .fields #[.int lo t, .int hi u, .int 1 v] }, toks := tk } := I.kept fun b o e => Heap.get?_push_of_some _ e
  refine ⟨(s.heap.push { cls := .type "range", data := .fields #[.int lo t, .int hi u, .int 1 v] }).objs.size, [(s.heap.push { cls := .type "range", data := .fields #[.int lo t, .int hi u, .int 1 v] }).objs.size], _, _, H, rfl,
    I1.kept (t' := tk) fun b o e => Heap.get?_push_of_some _ e, turn_range _ lo (hi - lo).toNat, ?_, fun b hb => ?_, q⟩
  · have e1 : lo + ((0 : Nat) : Int) * 1 = lo := by simp
    have e2 : (((hi - lo).toNat : Nat) : Int) - ((0 : Nat) : Int) = Builtin.Range.rangeSize lo hi 1 := by rw [rangeSize_one]; split <;> omega
    show IsRangeIter _ _ (lo + ((0 : Nat) : Int) * 1) ((((hi - lo).toNat : Nat) : Int) - ((0 : Nat) : Int)) 1
    rw [e1, e2]
    exact Heap.get?_push_size _ rfl
  · have e : b = (s.heap.push { cls := .type "range", data := .fields #[.int lo t, .int hi u, .int 1 v] }).objs.size := by simpa using hb
    subst e
    exact I1.fpOk (Nat.le_refl _) (I1.hok.fresh (Nat.le_refl _))

/-- W: the invariant by the turn and a measure; N: what the body is to reach -/
def tFor (wi : TI) (g : TG) (tb : TS) : TS := fun D σ H => wi σ H fun J H1 => ∃ W : Nat → Nat → St → Hp → Prop, (∃ m, W 0 m σ H1) ∧ ∀ i m σ H, W i m σ H →
  (J.stop i H ∧ D.nx σ H) ∨ (J.go i H ∧ ∃ N : St → Hp → Prop, (∀ σ' H', N σ' H' → ∃ m', m' < m ∧ W (i + 1) m' σ' H') ∧ ∀ x H', J.yld i H x H' → g x σ H' fun σ2 H2 => tb { D with nx := N, ct := N, bk := D.nx } σ2 H2)
/-- the records at fp as they stand -/
def pinsAt (fp : List Addr) (h : Heap) : List (Addr × Obj) := fp.filterMap fun b => (h.get? b).map fun o => (b, o)
theorem mem_pinsAt {fp : List Addr} {h : Heap} {b : Addr} {o : Obj} (hb : b ∈ fp) (e : h.get? b = some o) : (b, o) ∈ pinsAt fp h := List.mem_filterMap.mpr ⟨b, hb, by rw [e]; rfl⟩
theorem of_pinsAt {fp : List Addr} {h : Heap} {p : Addr × Obj} (hp : p ∈ pinsAt fp h) : p.1 ∈ fp ∧ h.get? p.1 = some p.2 := by
  obtain ⟨b, hb, e⟩ := List.mem_filterMap.mp hp
  cases q : h.get? b with
  | none => rw [q] at e; cases e
  | some o =>
    rw [q] at e
    have e' : (b, o) = p := Option.some.inj e
    subst e'
    exact ⟨hb, q⟩
theorem Inv.pinned {pins : List (Addr × Obj)} {σ : St} {H : Hp} {s : Shared} {fp : List Addr} (I : Inv X pins σ H s) (hf : ∀ b ∈ fp, FpOk X pins H b) (ho : ∀ b ∈ fp, ∃ o, s.heap.get? b = some o ∧ ∀ v, o.data ≠ .cell v) : Inv X (pins ++ pinsAt fp s.heap) σ H s :=
  I.pins_of fun p hp => (List.mem_append.mp hp).elim (fun z => I.pin p (List.mem_append_right _ z)) fun z => by
    obtain ⟨hb, e⟩ := of_pinsAt z
    obtain ⟨f0, f1, f2, _⟩ := hf p.1 hb
    obtain ⟨o, e', d⟩ := ho p.1 hb
    rw [e] at e'; cases e'
    exact ⟨e, f0, f1, f2, d⟩
theorem Inv.unpinned {pins pl : List (Addr × Obj)} {σ : St} {H : Hp} {s : Shared} (I : Inv X (pins ++ pl) σ H s) : Inv X pins σ H s := I.pins_of fun p hp => I.pin p (List.mem_append_right _ (List.mem_append_left _ hp))
theorem ps_for {iter : Expr} {body : List Stmt} {wi : TI} {g : TG} {tb : TS} {pos : Pos} (hp : PassesOwn (model X.prog X.w) X.A X.env X.xe) (hc : X.calm = true) (hi : PI X tg iter wi) (hg : PG X tg g) (hb : PSs X body tb)
    (hs : ∀ x, foldedSetIterable iter X.env x = pure x := by intro _; rfl) : PS X (.For tg iter body [] pos) (tFor wi g tb) := by
  intro pins s σ H D I h
  refine wpAny_For (thn (hi pins s σ H _ I h) fun v s1 h1 => thn h1 fun itv s2 h2 => ?_) hs
  obtain ⟨it, fp, tn, J, H2, e, I2, T, st2, f2, W, ⟨m0, w0⟩, turn⟩ := h2
  subst e
  -- what stays true of the iterator's objects through the loop
  have stat : ∀ {H' : Hp}, (∀ b ∈ fp, H' b = none) → ∀ b ∈ fp, FpOk X pins H' b := fun hn b hb => ⟨hn b hb, (f2 b hb).2⟩
  refine codeAny_forLoop_any (fun n s' => ∃ i σ' H', Inv X pins σ' H' s' ∧ tn i s'.heap ∧ (∀ b ∈ fp, H' b = none) ∧ W i n σ' H') ?_ m0 ⟨0, σ, H2, I2, st2, fun b hb => (f2 b hb).1, w0⟩
  rintro n s3 ⟨i, σ3, H3, I3, st3, fr3, w3⟩
  rcases turn i n σ3 H3 w3 with ⟨stop, qn⟩ | ⟨go, N, hN, step⟩
  · refine wpAny_passesOwn hp (thn (T.done X rfl rfl rfl hc i pins s3 σ3 H3 X.xe I3 (stat fr3) st3 stop) fun r s4 ⟨hr, I4⟩ => ?_)
    subst hr
    exact wpAny_execs_nil ⟨σ3, H3, I4, qn⟩
  · refine wpAny_passesOwn hp (thn (T.item X rfl rfl rfl hc i pins s3 σ3 H3 X.xe I3 (stat fr3) st3 go) fun r s4 ⟨u, hr, h4⟩ => ?_)
    subst hr
    refine wpAny_passesOwn hp (thn h4 fun _ s5 ⟨x, H5, I5, r5, y5, st5, fr5⟩ => ?_)
    have I5' := I5.pinned (stat fr5) (T.obj _ _ st5)
    refine wpAny_passesOwn hp (thn (hg _ s5 σ3 H5 x u _ I5' r5 (step x H5 y5)) fun _ s6 ⟨σ6, H6, I6, q6⟩ => ?_)
    refine wpAny_passesOwn hp (thn (hb _ s6 σ6 H6 _ I6 q6) fun f s7 q7 => ?_)
    have again : ∀ {σ7 : St} {H7 : Hp}, Inv X (pins ++ pinsAt fp s5.heap) σ7 H7 s7 → N σ7 H7 → ∃ m, m < n ∧ ∃ i σ' H', Inv X pins σ' H' s7 ∧ tn i s7.heap ∧ (∀ b ∈ fp, H' b = none) ∧ W i m σ' H' := fun {σ7 H7} I7 n7 => by
      obtain ⟨m', hm, w7⟩ := hN σ7 H7 n7
      refine ⟨m', hm, i + 1, σ7, H7, I7.unpinned, T.keep _ _ _ st5 fun b hb o e => (I7.pin (b, o) (List.mem_append_right _ (List.mem_append_right _ (mem_pinsAt hb e)))).1, fun b hb => ?_, w7⟩
      obtain ⟨o, e, d⟩ := T.obj _ _ st5 b hb
      exact (I7.pin (b, o) (List.mem_append_right _ (List.mem_append_right _ (mem_pinsAt hb e)))).2.1
    cases f with
    | next => obtain ⟨σ7, H7, I7, n7⟩ := q7; exact again I7 n7
    | cont => obtain ⟨σ7, H7, I7, n7⟩ := q7; exact again I7 n7
    | brk => obtain ⟨σ7, H7, I7, q7⟩ := q7; exact ⟨σ7, H7, I7.unpinned, q7⟩
    | ret v => obtain ⟨x7, σ7, H7, I7, r7, q7⟩ := q7; exact ⟨x7, σ7, H7, I7.unpinned, r7, q7⟩
end

end L2

namespace L2
open PySem PySem.Spec PyProof.Rows

abbrev R2 := V → V → Hp → VK → Prop
/-- a two-place operation on values: f is binaryOp op, inplaceOp op or compareOp op -/
def OpR (X : Cx) (f : Value → Value → Sem Value) (r : R2) : Prop :=
  ∀ (pins : List (Addr × Obj)) (s : Shared) (σ : St) (H : Hp) (x y : V) (v u : Value) (Q : VK), Inv X pins σ H s → RelV x v → RelV y u → r x y H Q →
    wpAny (model X.prog X.w) X.A (f v u) (EP X pins σ Q) X.xe s
/-- a one-place operation -/
def UnR (X : Cx) (f : Value → Sem Value) (r : V → Hp → VK → Prop) : Prop :=
  ∀ (pins : List (Addr × Obj)) (s : Shared) (σ : St) (H : Hp) (x : V) (v : Value) (Q : VK), Inv X pins σ H s → RelV x v → r x H Q →
    wpAny (model X.prog X.w) X.A (f v) (EP X pins σ Q) X.xe s
/-- a call of a value that is known (a builtin, a type) with values -/
def CallR (X : Cx) (f : Value) (r : List V → Hp → VK → Prop) : Prop :=
  ∀ (pins : List (Addr × Obj)) (s : Shared) (σ : St) (H : Hp) (xs : List V) (us : List Value) (Q : VK), Inv X pins σ H s → Vals xs us → r xs H Q →
    wpAny (model X.prog X.w) X.A (call f us) (EP X pins σ Q) X.xe s
/-- a value's truth -/
def TruR (X : Cx) (r : V → Hp → (Bool → Hp → Prop) → Prop) : Prop :=
  ∀ (pins : List (Addr × Obj)) (s : Shared) (σ : St) (H : Hp) (x : V) (v : Value) (Q : Bool → Hp → Prop), Inv X pins σ H s → RelV x v → r x H Q →
    wpAny (model X.prog X.w) X.A (truthy v) (TP X pins σ Q) X.xe s

def tOp (r : R2) (ta tb : TE) : TE := fun σ H Q => ta σ H fun x H1 => tb σ H1 fun y H2 => r x y H2 Q
def tUn (r : V → Hp → VK → Prop) (ta : TE) : TE := fun σ H Q => ta σ H fun x H1 => r x H1 Q
/-- ints in, under C, and a value out -/
def rI (C : Int → Int → Prop) (g : Int → Int → V) : R2 := fun x y H Q => ∃ i j, x = .int i ∧ y = .int j ∧ C i j ∧ Q (g i j) H
def rI0 (g : Int → Int → V) : R2 := fun x y H Q => ∃ i j, x = .int i ∧ y = .int j ∧ Q (g i j) H
def rU (g : Int → V) : V → Hp → VK → Prop := fun x H Q => ∃ i, x = .int i ∧ Q (g i) H

section
variable {X : Cx} {a b c : Expr} {ta tb tc : TE} {pos : Pos}

theorem binT (ha : PE X a ta) (hb : PE X b tb) {pins : List (Addr × Obj)} {s : Shared} {σ : St} {H : Hp} {R : V → V → Hp → Prop} (I : Inv X pins σ H s)
    (h : ta σ H fun x H1 => tb σ H1 fun y H2 => R x y H2) {Q : Value → Shared → Prop} {f : Value → Value → Sem Value}
    (hf : ∀ v u s2 x y H2, Inv X pins σ H2 s2 → RelV x v → RelV y u → R x y H2 → wpAny (model X.prog X.w) X.A (f v u) Q X.xe s2) :
    wpAny (model X.prog X.w) X.A (eval a X.env) (fun v s₁ => wpAny (model X.prog X.w) X.A (eval b X.env) (fun u s₂ => wpAny (model X.prog X.w) X.A (f v u) Q X.xe s₂) X.xe s₁) X.xe s := by
  refine thn (ha pins s σ H _ I h) fun v s1 ⟨x, H1, I1, r1, q1⟩ => ?_
  refine thn (hb pins s1 σ H1 _ I1 q1) fun u s2 ⟨y, H2, I2, r2, q2⟩ => ?_
  exact hf v u s2 x y H2 I2 r1 r2 q2

theorem pe_op {op : Operator} {r : R2} (ho : OpR X (binaryOp op) r) (ha : PE X a ta) (hb : PE X b tb) : PE X (.BinOp a op b pos) (tOp r ta tb) := by
  intro pins s σ H Q I h
  exact wpAny_BinOp (binT ha hb I h fun v u s2 x y H2 I2 rx ry q => ho pins s2 σ H2 x y v u Q I2 rx ry q)
theorem pe_un {op : UnaryOp} {r : V → Hp → VK → Prop} (ho : UnR X (unaryOp op) r) (ha : PE X a ta) : PE X (.UnaryOp op a pos) (tUn r ta) := by
  intro pins s σ H Q I h
  exact UnaryOp_ (thn (ha pins s σ H _ I h) fun v s1 ⟨x, H1, I1, r1, q1⟩ => ho pins s1 σ H1 x v Q I1 r1 q1)

theorem opI {f : Value → Value → Sem Value} {C : Int → Int → Prop} {g : Int → Int → Int}
    (rule : ∀ (i j : Int) (t u : Tok) (s : Shared) (Q : Value → Shared → Prop) (E : Value → Shared → Prop), C i j → Q (.int (g i j) s.toks) { s with toks := s.toks + 1 } → wpAny (model X.prog X.w) X.A (f (.int i t) (.int j u)) Q E s) :
    OpR X f (rI C fun i j => .int (g i j)) := by
  intro pins s σ H x y v u Q I rx ry h
  obtain ⟨i, j, rfl, rfl, hc, q⟩ := h
  obtain ⟨t, rfl⟩ := rx
  obtain ⟨t', rfl⟩ := ry
  exact rule i j t t' s _ _ hc ⟨.int (g i j), H, I.tok _, ⟨_, rfl⟩, q⟩
theorem opI0 {f : Value → Value → Sem Value} {g : Int → Int → Int}
    (rule : ∀ (i j : Int) (t u : Tok) (s : Shared) (Q : Value → Shared → Prop) (E : Value → Shared → Prop), Q (.int (g i j) s.toks) { s with toks := s.toks + 1 } → wpAny (model X.prog X.w) X.A (f (.int i t) (.int j u)) Q E s) :
    OpR X f (rI0 fun i j => .int (g i j)) := by
  intro pins s σ H x y v u Q I rx ry h
  obtain ⟨i, j, rfl, rfl, q⟩ := h
  obtain ⟨t, rfl⟩ := rx
  obtain ⟨t', rfl⟩ := ry
  exact rule i j t t' s _ _ ⟨.int (g i j), H, I.tok _, ⟨_, rfl⟩, q⟩
theorem opB0 {f : Value → Value → Sem Value} {g : Int → Int → Bool}
    (rule : ∀ (i j : Int) (t u : Tok) (s : Shared) (Q : Value → Shared → Prop) (E : Value → Shared → Prop), Q (.bool (g i j)) s → wpAny (model X.prog X.w) X.A (f (.int i t) (.int j u)) Q E s) :
    OpR X f (rI0 fun i j => .bl (g i j)) := by
  intro pins s σ H x y v u Q I rx ry h
  obtain ⟨i, j, rfl, rfl, q⟩ := h
  obtain ⟨t, rfl⟩ := rx
  obtain ⟨t', rfl⟩ := ry
  exact rule i j t t' s _ _ ⟨.bl (g i j), H, I, rfl, q⟩

def CDiv (i j : Int) : Prop := 0 < j ∧ j < 1073741824
def CPow (i j : Int) : Prop := 0 ≤ j ∧ j ≤ 1000000 ∧ i.natAbs < 2 ^ 64
def CMul (i j : Int) : Prop := (-(2 ^ 64) < i ∧ i < 2 ^ 64) ∨ (-(2 ^ 64) < j ∧ j < 2 ^ 64)
theorem CMul.ok {i j : Int} (h : CMul i j) : IntMulOk i j := by
  rcases h with ⟨h1, h2⟩ | ⟨h1, h2⟩
  · exact .of_left (intBits_le_64 h1 h2)
  · exact .of_right (intBits_le_64 h1 h2)
theorem two_pow_nn (k : Nat) : (0 : Int) ≤ 2 ^ k := by
  rw [two_pow_cast]
  exact Int.natCast_nonneg _

theorem op_add : OpR X (binaryOp .Add) (rI0 fun i j => .int (i + j)) := opI0 fun _ _ _ _ _ _ _ q => add_int q
theorem op_sub : OpR X (binaryOp .Sub) (rI0 fun i j => .int (i - j)) := opI0 fun _ _ _ _ _ _ _ q => sub_int q
theorem op_mul : OpR X (binaryOp .Mult) (rI CMul fun i j => .int (i * j)) := opI fun _ _ _ _ _ _ _ hc q => mul_int q hc.ok
/-- // by a positive divisor -/
theorem op_fdiv : OpR X (binaryOp .FloorDiv) (rI CDiv fun i j => .int (i / j)) := opI fun i j _ _ _ _ _ hc q => by
  have h1 : (0 : Int) < j := hc.1
  have h2 : j < 1073741824 := hc.2
  exact floordiv_int (by omega) (by rw [Int.fdiv_eq_ediv_of_nonneg i (by omega)]; exact q) (.inl (PyProof.noPylong_small (by omega)))
/-- % by a positive divisor of any size -/
theorem op_mod : OpR X (binaryOp .Mod) (rI (fun _ j => 0 < j) fun i j => .int (i % j)) := opI fun i j _ _ _ _ _ hc q => by
  have h1 : (0 : Int) < j := hc
  exact mod_int' (by omega) (by rw [Int.fmod_eq_emod_of_nonneg i (by omega)]; exact q)
theorem op_pow : OpR X (binaryOp .Pow) (rI CPow fun i j => .int (i ^ j.toNat)) := opI fun _ _ _ _ _ _ _ hc q => pow_int_small hc.1 hc.2.1 hc.2.2 q
theorem op_shl : OpR X (binaryOp .LShift) (rI CPow fun i j => .int (i * 2 ^ j.toNat)) := opI fun _ _ _ _ _ _ _ hc q => lshift_int_small hc.1 hc.2.1 hc.2.2 q
theorem op_shr : OpR X (binaryOp .RShift) (rI (fun _ j => 0 ≤ j) fun i j => .int (i / 2 ^ j.toNat)) := opI fun i j _ _ _ _ _ hc q =>
  rshift_int hc (by rw [Int.fdiv_eq_ediv_of_nonneg i (two_pow_nn _)]; exact q)
theorem op_and : OpR X (binaryOp .BitAnd) (rI0 fun i j => .int (Builtin.bitAnd i j)) := opI0 fun _ _ _ _ _ _ _ q => and_int q
theorem op_or : OpR X (binaryOp .BitOr) (rI0 fun i j => .int (Builtin.bitOr i j)) := opI0 fun _ _ _ _ _ _ _ q => or_int q
theorem op_xor : OpR X (binaryOp .BitXor) (rI0 fun i j => .int (Builtin.bitXor i j)) := opI0 fun _ _ _ _ _ _ _ q => xor_int q

theorem unI {f : Value → Sem Value} {g : Int → Int}
    (rule : ∀ (i : Int) (t : Tok) (s : Shared) (Q : Value → Shared → Prop) (E : Value → Shared → Prop), Q (.int (g i) s.toks) { s with toks := s.toks + 1 } → wpAny (model X.prog X.w) X.A (f (.int i t)) Q E s) :
    UnR X f (rU fun i => .int (g i)) := by
  intro pins s σ H x v Q I rx h
  obtain ⟨i, rfl, q⟩ := h
  obtain ⟨t, rfl⟩ := rx
  exact rule i t s _ _ ⟨.int (g i), H, I.tok _, ⟨_, rfl⟩, q⟩
theorem un_neg : UnR X (unaryOp .USub) (rU fun i => .int (-i)) := unI fun _ _ _ _ _ q => neg_int q

end

/-- the scalars that == tells apart as data does -/
def scal : V → V → Bool
  | .non, .non => true | .non, .int _ => true | .int _, .non => true | .non, .bl _ => true | .bl _, .non => true | .non, .str _ => true | .str _, .non => true
  | .int _, .int _ => true | .bl _, .bl _ => true | .str _, .str _ => true | .byt _, .byt _ => true
  | .int _, .str _ => true | .str _, .int _ => true | .bl _, .str _ => true | .str _, .bl _ => true
  | _, _ => false
def rEq : R2 := fun x y H Q => scal x y = true ∧ Q (.bl (decide (x = y))) H
def rNe : R2 := fun x y H Q => scal x y = true ∧ Q (.bl (!decide (x = y))) H

theorem dec_int {i j : Int} : decide (V.int i = V.int j) = (i == j) := by
  rw [Bool.eq_iff_iff]
  simp
theorem dec_bl {i j : Bool} : decide (V.bl i = V.bl j) = (i == j) := by
  rw [Bool.eq_iff_iff]
  simp
theorem dec_str {i j : Str} : decide (V.str i = V.str j) = (i == j) := by
  rw [Bool.eq_iff_iff]
  simp
theorem dec_byt {i j : Array UInt8} : decide (V.byt i = V.byt j) = (i.toList == j.toList) := by
  rw [Bool.eq_iff_iff]
  cases i
  cases j
  simp

section
variable {X : Cx} {a b c : Expr} {ta tb tc : TE} {pos : Pos}
theorem fin_bl {pins : List (Addr × Obj)} {σ : St} {H : Hp} {s : Shared} {Q : VK} {k k' : Bool} (I : Inv X pins σ H s) (q : Q (.bl k) H) (e : k = k') : EP X pins σ Q (.bool k') s := by
  subst e
  exact ⟨.bl k, H, I, rfl, q⟩
theorem op_eq : OpR X (compareOp .Eq) rEq := by
  intro pins s σ H x y v u Q I rx ry h
  obtain ⟨hs, q⟩ := h
  cases x with
  | non =>
    cases rx
    cases y with
    | non => cases ry; exact PySem.EqNone.eq_none_none (fin_bl I q (by simp))
    | bl j => cases ry; exact PySem.EqNone.eq_none_bool (fin_bl I q (by simp))
    | int j => obtain ⟨t', rfl⟩ := ry; exact PySem.EqNone.eq_none_int (fin_bl I q (by simp))
    | str j => obtain ⟨t', rfl⟩ := ry; exact PySem.EqNone.eq_none_str (fin_bl I q (by simp))
    | _ => exact absurd (show false = true from hs) Bool.false_ne_true
  | bl i =>
    cases rx
    cases y with
    | non => cases ry; exact PySem.EqNone.eq_bool_none (fin_bl I q (by simp))
    | bl j => cases ry; exact eq_bool (fin_bl I q dec_bl)
    | str j => obtain ⟨t', rfl⟩ := ry; exact PySem.EqMixed.eq_bool_str (fin_bl I q (by simp))
    | _ => exact absurd (show false = true from hs) Bool.false_ne_true
  | int i =>
    obtain ⟨t, rfl⟩ := rx
    cases y with
    | non => cases ry; exact PySem.EqNone.eq_int_none (fin_bl I q (by simp))
    | int j => obtain ⟨t', rfl⟩ := ry; exact eq_int (fin_bl I q dec_int)
    | str j => obtain ⟨t', rfl⟩ := ry; exact PySem.EqMixed.eq_int_str (fin_bl I q (by simp))
    | _ => exact absurd (show false = true from hs) Bool.false_ne_true
  | str i =>
    obtain ⟨t, rfl⟩ := rx
    cases y with
    | non => cases ry; exact PySem.EqNone.eq_str_none (fin_bl I q (by simp))
    | bl j => cases ry; exact PySem.EqMixed.eq_str_bool (fin_bl I q (by simp))
    | int j => obtain ⟨t', rfl⟩ := ry; exact PySem.EqMixed.eq_str_int (fin_bl I q (by simp))
    | str j => obtain ⟨t', rfl⟩ := ry; exact eq_str (fin_bl I q dec_str)
    | _ => exact absurd (show false = true from hs) Bool.false_ne_true
  | byt i =>
    obtain ⟨t, rfl⟩ := rx
    cases y with
    | byt j => obtain ⟨t', rfl⟩ := ry; exact PySem.W.eq_bytes (fin_bl I q dec_byt)
    | _ => exact absurd (show false = true from hs) Bool.false_ne_true
  | _ => cases y <;> exact absurd (show false = true from hs) Bool.false_ne_true
theorem op_ne : OpR X (compareOp .NotEq) rNe := by
  intro pins s σ H x y v u Q I rx ry h
  obtain ⟨hs, q⟩ := h
  cases x with
  | non =>
    cases rx
    cases y with
    | non => cases ry; exact PySem.EqNone.ne_none_none (fin_bl I q (by simp))
    | bl j => cases ry; exact PySem.EqNone.ne_none_bool (fin_bl I q (by simp))
    | int j => obtain ⟨t', rfl⟩ := ry; exact PySem.EqNone.ne_none_int (fin_bl I q (by simp))
    | str j => obtain ⟨t', rfl⟩ := ry; exact PySem.EqNone.ne_none_str (fin_bl I q (by simp))
    | _ => exact absurd (show false = true from hs) Bool.false_ne_true
  | bl i =>
    cases rx
    cases y with
    | non => cases ry; exact PySem.EqNone.ne_bool_none (fin_bl I q (by simp))
    | bl j => cases ry; exact ne_bool (fin_bl I q (congrArg not dec_bl))
    | str j => obtain ⟨t', rfl⟩ := ry; exact PySem.EqMixed.ne_bool_str (fin_bl I q (by simp))
    | _ => exact absurd (show false = true from hs) Bool.false_ne_true
  | int i =>
    obtain ⟨t, rfl⟩ := rx
    cases y with
    | non => cases ry; exact PySem.EqNone.ne_int_none (fin_bl I q (by simp))
    | int j => obtain ⟨t', rfl⟩ := ry; exact ne_int (fin_bl I q (congrArg not dec_int))
    | str j => obtain ⟨t', rfl⟩ := ry; exact PySem.EqMixed.ne_int_str (fin_bl I q (by simp))
    | _ => exact absurd (show false = true from hs) Bool.false_ne_true
  | str i =>
    obtain ⟨t, rfl⟩ := rx
    cases y with
    | non => cases ry; exact PySem.EqNone.ne_str_none (fin_bl I q (by simp))
    | bl j => cases ry; exact PySem.EqMixed.ne_str_bool (fin_bl I q (by simp))
    | int j => obtain ⟨t', rfl⟩ := ry; exact PySem.EqMixed.ne_str_int (fin_bl I q (by simp))
    | str j => obtain ⟨t', rfl⟩ := ry; exact ne_str (fin_bl I q (congrArg not dec_str))
    | _ => exact absurd (show false = true from hs) Bool.false_ne_true
  | byt i =>
    obtain ⟨t, rfl⟩ := rx
    cases y with
    | byt j => obtain ⟨t', rfl⟩ := ry; exact PySem.W.ne_bytes (fin_bl I q (congrArg not dec_byt))
    | _ => exact absurd (show false = true from hs) Bool.false_ne_true
  | _ => cases y <;> exact absurd (show false = true from hs) Bool.false_ne_true

theorem op_lt : OpR X (compareOp .Lt) (rI0 fun i j => .bl (decide (i < j))) := opB0 fun _ _ _ _ _ _ _ q => lt_int q
theorem op_le : OpR X (compareOp .LtE) (rI0 fun i j => .bl (decide (i ≤ j))) := opB0 fun _ _ _ _ _ _ _ q => le_int q
theorem op_gt : OpR X (compareOp .Gt) (rI0 fun i j => .bl (decide (j < i))) := opB0 fun _ _ _ _ _ _ _ q => gt_int q
theorem op_ge : OpR X (compareOp .GtE) (rI0 fun i j => .bl (decide (j ≤ i))) := opB0 fun _ _ _ _ _ _ _ q => ge_int q
theorem op_lt_str : OpR X (compareOp .Lt) (fun x y H Q => ∃ i j, x = .str i ∧ y = .str j ∧ Q (.bl (decide (i.cps.toList < j.cps.toList))) H) := by
  intro pins s σ H x y v u Q I rx ry h
  obtain ⟨i, j, rfl, rfl, q⟩ := h
  obtain ⟨t, rfl⟩ := rx
  obtain ⟨t', rfl⟩ := ry
  exact lt_str (fin_bl I q rfl)
/-- the one string within the other -/
theorem op_in_str : OpR X (compareOp .In) (fun x y H Q => ∃ i j, x = .str i ∧ y = .str j ∧ Q (.bl (!(Builtin.Str.occurrences j i 0 j.length 1).isEmpty)) H) := by
  intro pins s σ H x y v u Q I rx ry h
  obtain ⟨i, j, rfl, rfl, q⟩ := h
  obtain ⟨t, rfl⟩ := rx
  obtain ⟨t', rfl⟩ := ry
  exact in_str (fin_bl I q rfl)

/-- is None, is not None: the right side a value none -/
theorem op_isN : OpR X (compareOp .Is) (fun x y H Q => y = .non ∧ Q (.bl (decide (x = .non))) H) := by
  intro pins s σ H x y v u Q I rx ry h
  obtain ⟨rfl, q⟩ := h
  cases ry
  refine is_none_gen (fin_bl I q ?_)
  cases x <;> first
    | (cases rx; rfl)
    | (obtain ⟨t, rfl⟩ := rx; rfl)
theorem op_notN : OpR X (compareOp .IsNot) (fun x y H Q => y = .non ∧ Q (.bl (!decide (x = .non))) H) := by
  intro pins s σ H x y v u Q I rx ry h
  obtain ⟨rfl, q⟩ := h
  cases ry
  refine isnot_none_gen (fin_bl I q ?_)
  cases x <;> first
    | (cases rx; rfl)
    | (obtain ⟨t, rfl⟩ := rx; rfl)

theorem op_notin_str : OpR X (compareOp .NotIn) (fun x y H Q => ∃ i j, x = .str i ∧ y = .str j ∧ Q (.bl (!(!(Builtin.Str.occurrences j i 0 j.length 1).isEmpty))) H) := by
  intro pins s σ H x y v u Q I rx ry h
  obtain ⟨i, j, rfl, rfl, q⟩ := h
  obtain ⟨t, rfl⟩ := rx
  obtain ⟨t', rfl⟩ := ry
  exact notIn_str (fin_bl I q rfl)

/-- two rules for one operation: by cases -/
theorem OpR.or {f : Value → Value → Sem Value} {r r' : R2} (h : OpR X f r) (h' : OpR X f r') : OpR X f (fun x y H Q => r x y H Q ∨ r' x y H Q) := by
  intro pins s σ H x y v u Q I rx ry q
  rcases q with q | q
  · exact h pins s σ H x y v u Q I rx ry q
  · exact h' pins s σ H x y v u Q I rx ry q

/-- a comparison as a value; hm: nomark b, or (for in, not in) by with_unfolding_all rfl -/
theorem pe_cmpR {op : CmpOp} {r : R2} (ho : OpR X (compareOp op) r) (ha : PE X a ta) (hb : PE X b tb) (hm : behindInMarks op b = false) : PE X (.Compare a [op] [b] pos) (tOp r ta tb) := by
  intro pins s σ H Q I h
  exact wpAny_Compare1 (binT ha hb I h fun v u s2 x y H2 I2 rx ry q => ho pins s2 σ H2 x y v u Q I2 rx ry q) hm

/-- a value's truth by the abstract heap -/
def TruV (K : PySem.W.Frag) (x : V) (H : Hp) (k : Bool) : Prop :=
  match x with
  | .non => k = false
  | .bl b => k = b
  | .int i => k = (i != 0)
  | .str y => y.length ≤ sizeLine ∧ k = ((y.length : Int) != 0)
  | .byt y => y.size ≤ sizeLine ∧ k = ((y.size : Int) != 0)
  | .ref p => (∃ xs, SqL K H p xs ∧ k = !xs.isEmpty) ∨ (∃ xs, SqT K H p xs ∧ k = !xs.isEmpty) ∨ ∃ kvs, H p = some (.dK kvs) ∧ k = !kvs.isEmpty
  | _ => False
theorem isEmpty_kv {κ : Type} {kvs : List (κ × V)} {vs : List (κ × Value)} (r : KV kvs vs) : (!vs.isEmpty) = !kvs.isEmpty := by
  cases r <;> rfl
theorem isEmpty_of {xs : List V} {its : List Value} (r : Vals xs its) : (!its.toArray.isEmpty) = !xs.isEmpty := by
  cases r <;> simp
theorem line63 : (sizeLine : Nat) < 2 ^ 63 := by rw [sizeLine_eq]; decide
theorem tru_ok : TruR X (fun x H Q => ∃ k, TruV X.K x H k ∧ Q k H) := by
  intro pins s σ H x v Q I rx h
  obtain ⟨k, e, q⟩ := h
  have hl := line63
  have hs : sizeLine = 16777216 := sizeLine_eq
  cases x with
  | non =>
    cases rx
    have e' : k = false := e
    subst e'
    exact truthy_none ⟨H, I, q⟩
  | bl b =>
    cases rx
    have e' : k = b := e
    subst e'
    exact wpAny_truthy_bool ⟨H, I, q⟩
  | int i =>
    obtain ⟨t, rfl⟩ := rx
    have e' : k = (i != 0) := e
    subst e'
    exact PySem.P.truthy_int ⟨H, I, q⟩
  | str y =>
    obtain ⟨t, rfl⟩ := rx
    obtain ⟨hy, e'⟩ : y.length ≤ sizeLine ∧ k = ((y.length : Int) != 0) := e
    subst e'
    exact PySem.P.truthy_str (by omega) ⟨H, I.tok _, q⟩
  | byt y =>
    obtain ⟨t, rfl⟩ := rx
    obtain ⟨hy, e'⟩ : y.size ≤ sizeLine ∧ k = ((y.size : Int) != 0) := e
    subst e'
    exact PySem.W.truthy_bytes (by omega) ⟨H, I.tok _, q⟩
  | ref p =>
    cases rx
    have e' : (∃ xs, SqL X.K H p xs ∧ k = !xs.isEmpty) ∨ (∃ xs, SqT X.K H p xs ∧ k = !xs.isEmpty) ∨ ∃ kvs, H p = some (.dK kvs) ∧ k = !kvs.isEmpty := e
    rcases e' with ⟨xs, hx, e'⟩ | ⟨xs, hx, e'⟩ | ⟨kvs, hx, e'⟩
    · subst e'
      obtain ⟨its, r, pl, hz⟩ := I.list hx
      have hlen := r.length
      exact wpAny_truthy_list pl.isList (by simp only [List.size_toArray]; omega) ⟨H, I.tok _, by rw [isEmpty_of r]; exact q⟩
    · subst e'
      obtain ⟨its, r, pl, hz⟩ := I.tuple hx
      have hlen := r.length
      exact truthy_tuple pl (by simp only [List.size_toArray]; omega) ⟨H, I.tok _, by rw [isEmpty_of r]; exact q⟩
    · subst e'
      obtain ⟨hz, hS, vs, r, m⟩ : kvs.length ≤ sizeLine ∧ (p == sysModules) = false ∧ ∃ vs, KV kvs vs ∧ s.heap.DictOf (mixKind X.prog X.w) p vs := I.hok p _ hx
      have hlen : kvs.length = vs.length := Paired.length r
      exact wpAny_truthy_dict hS m (by omega) ⟨H, I.tok _, by rw [isEmpty_kv r]; exact q⟩
  | _ => exact (show False from e).elim

theorem op_add_str : OpR X (binaryOp .Add) (fun x y H Q => ∃ i j, x = .str i ∧ y = .str j ∧ i.length + j.length ≤ sizeLine ∧ Q (.str (i ++ j)) H) := by
  intro pins s σ H x y v u Q I rx ry h
  obtain ⟨i, j, rfl, rfl, hz, q⟩ := h
  obtain ⟨t, rfl⟩ := rx
  obtain ⟨t', rfl⟩ := ry
  exact add_str (fun t' tk => ⟨.str (i ++ j), H, I.tok _, ⟨_, rfl⟩, q⟩) hz

theorem vals1 {x : V} {us : List Value} (r : Vals [x] us) : ∃ u, us = [u] ∧ RelV x u := by
  cases r with
  | cons r1 r2 => cases r2; exact ⟨_, rfl, r1⟩
theorem vals2 {x y : V} {us : List Value} (r : Vals [x, y] us) : ∃ u w', us = [u, w'] ∧ RelV x u ∧ RelV y w' := by
  cases r with
  | cons r1 r2 =>
    cases r2 with
    | cons r3 r4 => cases r4; exact ⟨_, _, rfl, r1, r3⟩
theorem call_int1 : CallR X (.type "int") (fun xs H Q => (∃ i, xs = [.int i] ∧ Q (.int i) H) ∨ ∃ k, xs = [.bl k] ∧ Q (.int (if k then 1 else 0)) H) := by
  intro pins s σ H xs us Q I r h
  rcases h with ⟨i, rfl, q⟩ | ⟨k, rfl, q⟩
  · obtain ⟨u, rfl, t, rfl⟩ := vals1 r
    exact call_int_int ⟨.int i, H, I, ⟨_, rfl⟩, q⟩
  · obtain ⟨u, rfl, r1⟩ := vals1 r
    cases r1
    exact call_int_bool ⟨.int (if k then 1 else 0), H, I.tok _, ⟨_, rfl⟩, q⟩
theorem call_ord : CallR X (.builtin "ord") (fun xs H Q => ∃ x, xs = [.str x] ∧ x.length = 1 ∧ Q (.int (x.cps.getD 0 0 : Nat)) H) := by
  intro pins s σ H xs us Q I r h
  obtain ⟨x, rfl, hz, q⟩ := h
  obtain ⟨u, rfl, t, rfl⟩ := vals1 r
  exact ord_of_one hz ⟨.int _, H, I.tok _, ⟨_, rfl⟩, q⟩
end
end L2

namespace L2
open PySem PySem.Spec PyProof.Rows

structure ObjM (h : Heap) (x dx C : Addr) (mA : Str → Option Value) : Prop where
  obj : h.get? x = some (PySem.W.instObj C dx)
  ns : h.Ns1 dx mA
  ne : dx ≠ x

theorem lookIn_ns {h : Heap} {dx : Addr} {mA : Str → Option Value} (n : h.Ns1 dx mA) : ∃ od, h.get? dx = some od ∧ ∀ name, PySem.W.lookIn name od = some (mA name) := by
  obtain ⟨o, es, ep, ho, hd, hk, _, hm⟩ := n
  refine ⟨o, ho, fun name => ?_⟩
  have e := hm name
  unfold nsFind findBy at e
  rw [← Array.find?_toList] at e
  unfold PySem.W.lookIn
  rw [hd]
  dsimp only
  split
  · rename_i y q
    rw [q] at e
    exact congrArg some e
  · rename_i q
    rw [q] at e
    have a : es.toList.any (·.refKey) = false := by
      rw [List.any_eq_false]
      intro y hy
      obtain ⟨z, t, hkey⟩ := hk y (Array.mem_toList_iff.mp hy)
      simp [DictEntry.refKey, hkey]
    have a' : ¬ es.toList.any (·.refKey) = true := by rw [a]; exact Bool.false_ne_true
    rw [if_neg a']
    exact congrArg some e

theorem ObjM.look {h : Heap} {x dx C : Addr} {mA : Str → Option Value} (I : ObjM h x dx C mA) : ∃ od, PySem.W.InstAt h x (PySem.W.instObj C dx) C (some od) ∧ ∀ name, PySem.W.lookIn name od = some (mA name) :=
  let ⟨od, ho, hl⟩ := lookIn_ns I.ns
  ⟨od, ⟨I.obj, rfl, rfl, ho⟩, hl⟩

section
variable {prog : Program} {w : World} {A : Around} {E : Value → Shared → Prop} {s : Shared} {K : PySem.W.Frag} {x dx C f : Addr} {mA : Str → Option Value} {name : Str} {v : Value}

theorem get_map {expr : Bool} {Q : Value → Shared → Prop} (X : K.In s.heap) (I : ObjM s.heap x dx C mA) (hg : PySem.W.plainGet K C name = true) (hh : PySem.W.hasDictIn K C = true)
    (ha : PySem.W.findIn K (.ref C) name = some none) (hv : mA name = some v) (hv' : PySem.W.handedIn v = true) (h : Q v { s with toks := s.toks + 1 }) :
    wpAny (model prog w) A (getAttr (.ref x) name expr) Q E s := by
  obtain ⟨od, J, hl⟩ := I.look
  exact PySem.W.get_value X J (PySem.W.plainGet_of hg).1 (PySem.W.findObj_own hh ha rfl (by rw [hl, hv])) hv' h

theorem get_meth {pl : Sem Bool} {Q : Value × List Value → Shared → Prop} (X : K.In s.heap) (I : ObjM s.heap x dx C mA) (hg : PySem.W.plainGet K C name = true)
    (hf : PySem.W.findIn K (.ref C) name = some (some (.ref f))) (ht : PySem.W.isFn K (.ref f) = true) (hv : mA name = none) (h : Q (.ref f, [.ref x]) s) :
    wpAny (model prog w) A (getMethod (.ref x) name pl) Q E s := by
  obtain ⟨od, J, hl⟩ := I.look
  exact PySem.W.method_fn X J (PySem.W.plainGet_of hg).1 (PySem.W.plainGet_of hg).2 hf (beq_iff_eq.mp ht) (by show (PySem.W.lookIn name od).map (·.isSome) = some false; rw [hl, hv]; rfl) h

theorem set_map {ns : List Str} {Q : Unit → Shared → Prop} (X : K.In s.heap) (I : ObjM s.heap x dx C mA)
    (hs : PySem.W.findIn K (.ref C) "__setattr__" = some (some (.builtin "object.__setattr__"))) (hp : PySem.W.plainOver K C = true) (ht : PySem.W.takerIn K C name = some none) (hh : PySem.W.hasDictIn K C = true)
    (hw : PySem.Within mA ns) (hsz : ns.length ≤ sizeLine)
    (h : ∀ h', ObjM h' x dx C (fun y => if y = name then some v else mA y) → Heap.SameBut dx s.heap h' → Q () { s with heap := h', toks := s.toks + 2 }) :
    wpAny (model prog w) A (setAttr (.ref x) name v) Q E s := by
  obtain ⟨od, J, hl⟩ := I.look
  refine PySem.W.set_plain X J hs (PySem.W.osa_open (s := { s with toks := s.toks + 1 }) (r := none) X J hp ht fun b => ?_)
  obtain ⟨cd, hc, hd'⟩ := PySem.W.any_some hh
  have hx : s.heap.get? x = some ⟨.ref C, some dx, .plain, #[]⟩ := I.obj
  refine wpAny_bind (wpAny_pure (wpAny_bind (wpAny_bind (wpAny_loadPart hx (wpAny_bind (PySem.W.Looks.here (s := { s with toks := s.toks + 1 }) (PySem.W.looks_clsIn X hc) ?_))))))
  rw [hd']
  refine wpAny_pure (a := some dx) (wpAny_bind (wpAny_pure (wpAny_bind ?_)))
  refine wpAny_nsSet1 (s := { s with toks := s.toks + 1 }) I.ns fun h' hn2 hs2 => ?_
  obtain ⟨oD, esD, epD, hoD, hdD, hcD⟩ := hn2.count (PySem.Within.cons name v hw)
  refine wpAny_bind (wpAny_lookBehind hoD (by rw [hdD]; exact pastItsLine_dict (Nat.le_trans hcD (by rw [List.length_cons]; omega))) ?_)
  exact wpAny_pure (h _ ⟨(hs2.2 _ (Ne.symm I.ne)).trans I.obj, hn2, I.ne⟩ hs2)

/-- C(..): the dict at the heap's end, the instance behind it; then its __init__ -/
theorem make_map {R : Result → Shared → Prop} {vs : List Value} {kw : List (Str × Value)} (X : K.In s.heap) (hm : PySem.W.makesIn K C = true)
    (hi : PySem.W.findIn K (.ref C) "__init__" = some (some (.ref f))) (hf : PySem.W.typeIn K (.ref f) = some (.type "function"))
    (h : codeAny (model prog w) (A.under (.builtin "type.__call__" ⟨.ref C :: vs, kw⟩)) (.call (.ref f) ⟨.ref (s.heap.objs.size + 1) :: vs, kw⟩) (PySem.W.InitBack (s.heap.objs.size + 1) R)
      { s with heap := (s.heap.push PySem.W.emptyDict).push (PySem.W.instObj C s.heap.objs.size) }) :
    codeAny (model prog w) A (.call (.ref C) ⟨vs, kw⟩) R s := by
  obtain ⟨hh, g, d, t, os⟩ := s
  exact PySem.W.make_core (PySem.W.makes_of X hm) (PySem.W.looks_findIn X hi) (fun self => PySem.W.bind_fn X self hf) (.inl rfl) h
/-- C() where there is no __init__ but object's -/
theorem make_map0 {R : Result → Shared → Prop} (X : K.In s.heap) (hm : PySem.W.makesIn K C = true)
    (hi : PySem.W.findIn K (.ref C) "__init__" = some (some (.builtin "object.__init__")))
    (hb : ∀ self, PySem.W.Looks (model prog w) s.heap (bindSpecial (.builtin "object.__init__") self) (.builtin "object.__init__", [self]))
    (h : codeAny (model prog w) (A.under (.builtin "type.__call__" ⟨[.ref C], []⟩)) (.call (.builtin "object.__init__") ⟨[.ref (s.heap.objs.size + 1)], []⟩) (PySem.W.InitBack (s.heap.objs.size + 1) R)
      { s with heap := (s.heap.push PySem.W.emptyDict).push (PySem.W.instObj C s.heap.objs.size) }) :
    codeAny (model prog w) A (.call (.ref C) ⟨[], []⟩) R s := by
  obtain ⟨hh, g, d, t, os⟩ := s
  exact PySem.W.make_core (PySem.W.makes_of X hm) (PySem.W.looks_findIn X hi) hb (.inr ⟨rfl, rfl⟩) h
end

def putF (f : Str) (v : V) : List (Str × V) → List (Str × V)
  | [] => [(f, v)]
  | (g, x) :: r => if g = f then (g, v) :: r else (g, x) :: putF f v r
theorem lookup_putF (f g : Str) (v : V) : ∀ fs : List (Str × V), (putF f v fs).lookup g = if g = f then some v else fs.lookup g
  | [] => by
    show List.lookup g [(f, v)] = _
    by_cases h : g = f
    · have hb : (g == f) = true := beq_iff_eq.mpr h
      simp only [List.lookup, hb, if_pos h]
    · have hb : (g == f) = false := beq_eq_false_iff_ne.mpr h
      simp only [List.lookup, hb, if_neg h]
  | (k, x) :: r => by
    have ih := lookup_putF f g v r
    rw [show putF f v ((k, x) :: r) = (if k = f then (k, v) :: r else (k, x) :: putF f v r) from rfl]
    by_cases hk : k = f
    · rw [if_pos hk]
      by_cases h : g = k
      · have hb : (g == k) = true := beq_iff_eq.mpr h
        simp only [List.lookup, hb, if_pos (h.trans hk)]
      · have hb : (g == k) = false := beq_eq_false_iff_ne.mpr h
        simp only [List.lookup, hb, if_neg (fun e : g = f => h (e.trans hk.symm))]
    · rw [if_neg hk]
      by_cases h : g = k
      · have hb : (g == k) = true := beq_iff_eq.mpr h
        simp only [List.lookup, hb, if_neg (fun e : g = f => hk (h.symm.trans e))]
      · have hb : (g == k) = false := beq_eq_false_iff_ne.mpr h
        simp only [List.lookup, hb]
        exact ih
theorem keys_putF (f : Str) (v : V) : ∀ fs : List (Str × V), f ∈ (putF f v fs).map (·.1) ∧ ∀ g, g ∈ fs.map (·.1) → g ∈ (putF f v fs).map (·.1)
  | [] => ⟨by simp [putF], fun g h => by simp at h⟩
  | (k, x) :: r => by
    obtain ⟨i1, i2⟩ := keys_putF f v r
    rw [show putF f v ((k, x) :: r) = (if k = f then (k, v) :: r else (k, x) :: putF f v r) from rfl]
    by_cases hk : k = f
    · rw [if_pos hk]
      subst hk
      exact ⟨by simp, fun g h => by simpa using h⟩
    · rw [if_neg hk]
      refine ⟨?_, fun g h => ?_⟩
      · rw [List.map_cons]
        exact List.mem_cons_of_mem _ i1
      · rw [List.map_cons] at h ⊢
        rcases List.mem_cons.mp h with e | e
        · exact List.mem_cons.mpr (.inl e)
        · exact List.mem_cons_of_mem _ (i2 g e)
theorem length_putF (f : Str) (v : V) : ∀ fs : List (Str × V), (putF f v fs).length ≤ fs.length + 1
  | [] => by simp [putF]
  | (k, x) :: r => by
    have ih := length_putF f v r
    rw [show putF f v ((k, x) :: r) = (if k = f then (k, v) :: r else (k, x) :: putF f v r) from rfl]
    by_cases hk : k = f
    · rw [if_pos hk, List.length_cons, List.length_cons]; omega
    · rw [if_neg hk, List.length_cons, List.length_cons]; omega

theorem RelO.some_of {v : V} {o : Option Value} (r : RelO (some v) o) : ∃ u, o = some u ∧ RelV v u := by
  cases o with
  | none => exact (show False from r).elim
  | some u => exact ⟨u, rfl, r⟩
theorem RelO.none_of {o : Option Value} (r : RelO none o) : o = none := by
  cases o with
  | none => rfl
  | some u => exact (show False from r).elim
theorem handed_of {v : V} {u : Value} (r : RelV v u) : PySem.W.handedIn u = true := by
  cases v with
  | non => cases (show u = Value.none from r); rfl
  | bl b => cases (show u = Value.bool b from r); rfl
  | int i => obtain ⟨t, e⟩ := (show ∃ t, u = Value.int i t from r); cases e; rfl
  | str x => obtain ⟨t, e⟩ := (show ∃ t, u = Value.str x t from r); cases e; rfl
  | byt b => obtain ⟨t, e⟩ := (show ∃ t, u = Value.bytes b t from r); cases e; rfl
  | flt b => obtain ⟨t, e⟩ := (show ∃ t, u = Value.float b t from r); cases e; rfl
  | ref a => cases (show u = Value.ref a from r); rfl
  | ty n => cases (show u = Value.type n from r); rfl

section
variable {P : Program} {w : World} {H H' : Hp} {h h' : Heap} {a C dx : Addr} {fs fs' : List (Str × V)}
theorem ins_get (hok : HOk P w H h) (e : H a = some (.ins C dx fs)) : ∃ mA, ObjM h a dx C mA ∧ (∀ f, RelO (fs.lookup f) (mA f)) ∧ PySem.Within mA (fs.map (·.1)) ∧ fs.length ≤ 1000 ∧ H dx = some (.own a) := by
  obtain ⟨d, z, ne, ob, mA, n, r, q⟩ := (show ObjOk P w H h a (.ins C dx fs) from hok a _ e)
  exact ⟨mA, ⟨ob, n, ne⟩, r, q, z, d⟩
end

structure Cls (K : PySem.W.Frag) (C : Addr) : Prop where
  pg : PySem.W.plainGet K C Str.empty = true
  hd : PySem.W.hasDictIn K C = true
  po : PySem.W.plainOver K C = true
  sa : PySem.W.findIn K (.ref C) "__setattr__" = some (some (.builtin "object.__setattr__"))
theorem Cls.get {K : PySem.W.Frag} {C : Addr} (c : Cls K C) (f : Str) : PySem.W.plainGet K C f = true := c.pg
/-- no class of it has the name -/
def NoAttr (K : PySem.W.Frag) (C : Addr) (f : Str) : Prop := PySem.W.findIn K (.ref C) f = some none
theorem NoAttr.taker {K : PySem.W.Frag} {C : Addr} {f : Str} (n : NoAttr K C f) : PySem.W.takerIn K C f = some none := by
  unfold PySem.W.takerIn
  rw [show PySem.W.findIn K (.ref C) f = some none from n]
  rfl
/-- a method: a plain def of the class or of one above it -/
structure Meth (K : PySem.W.Frag) (C : Addr) (m : Str) (f : Addr) : Prop where
  at_ : PySem.W.findIn K (.ref C) m = some (some (.ref f))
  fn : PySem.W.isFn K (.ref f) = true
  kp : PySem.W.keepIn K (.ref f) = true

section
variable {X : Cx} {pins : List (Addr × Obj)} {σ : St} {H : Hp} {s : Shared} {a C dx : Addr} {fs : List (Str × V)} {f : Str} {v : V} {A : Around} {E : Value → Shared → Prop}

theorem getattr_ok {b : Bool} {Q : Value → Shared → Prop} (I : Inv X pins σ H s) (e : H a = some (.ins C dx fs)) (c : Cls X.K C) (n : NoAttr X.K C f) (l : fs.lookup f = some v)
    (h : ∀ u s', Inv X pins σ H s' → RelV v u → Q u s') : wpAny (model X.prog X.w) A (getAttr (.ref a) f b) Q E s := by
  obtain ⟨mA, O, r, _, _, _⟩ := ins_get I.hok e
  obtain ⟨u, hu, ru⟩ := RelO.some_of (v := v) (o := mA f) (by rw [← l]; exact r f)
  exact get_map I.kIn O (c.get f) c.hd n hu (handed_of ru) (h u _ (I.tok _) ru)

theorem getmeth_ok {m : Str} {g : Addr} {pl : Sem Bool} {Q : Value × List Value → Shared → Prop} (I : Inv X pins σ H s) (e : H a = some (.ins C dx fs)) (c : Cls X.K C) (k : Meth X.K C m g) (l : fs.lookup m = none)
    (h : Q (.ref g, [.ref a]) s) : wpAny (model X.prog X.w) A (getMethod (.ref a) m pl) Q E s := by
  obtain ⟨mA, O, r, _, _, _⟩ := ins_get I.hok e
  have hn : mA m = none := RelO.none_of (by rw [← l]; exact r m)
  exact get_meth I.kIn O (c.get m) k.at_ k.fn hn h

theorem setattr_ok {y : V} {u : Value} {Q : Unit → Shared → Prop} (I : Inv X pins σ H s) (e : H a = some (.ins C dx fs)) (c : Cls X.K C) (n : NoAttr X.K C f) (hl : fs.length < 1000) (ry : RelV y u)
    (h : ∀ s', Inv X pins σ (upd H a (.ins C dx (putF f y fs))) s' → Q () s') : wpAny (model X.prog X.w) A (setAttr (.ref a) f u) Q E s := by
  obtain ⟨mA, O, r, wi, _, ho⟩ := ins_get I.hok e
  have hz : (fs.map (·.1)).length ≤ sizeLine := by rw [List.length_map, sizeLine_eq]; omega
  refine set_map I.kIn O c.sa c.po n.taker c.hd wi hz fun h' O' sb => h _ ?_
  have hd : ∃ o, h'.get? dx = some o := let ⟨o, _, _, e', _⟩ := O'.ns; ⟨o, e'⟩
  refine I.write (x := a) (e := dx) (by rw [e]; exact True.intro) (.inr ho) (fun b q hb z => (sb.2 b hb).trans z) hd ?_
  refine ⟨by rw [upd_ne O.ne]; exact ho, ?_, O.ne, O'.obj, _, O'.ns, fun g => ?_, fun g hg => ?_⟩
  · have := length_putF f y fs; omega
  · show RelO ((putF f y fs).lookup g) (if g = f then some u else mA g)
    rw [lookup_putF]
    by_cases q : g = f
    · rw [if_pos q, if_pos q]; exact ry
    · rw [if_neg q, if_neg q]; exact r g
  · by_cases q : g = f
    · rw [q]; exact (keys_putF f y fs).1
    · refine (keys_putF f y fs).2 g (wi g fun z => hg ?_)
      show (if g = f then some u else mA g) = none
      rw [if_neg q]; exact z

/-- a new instance, tracked, without attributes -/
theorem Inv.made (I : Inv X pins σ H s) : Inv X pins σ (upd (upd H s.heap.objs.size (.own (s.heap.objs.size + 1))) (s.heap.objs.size + 1) (.ins C s.heap.objs.size []))
    { s with heap := (s.heap.push PySem.W.emptyDict).push (PySem.W.instObj C s.heap.objs.size) } := by
  have e1 : (s.heap.push PySem.W.emptyDict).get? s.heap.objs.size = some PySem.W.emptyDict := Heap.get?_push_size s.heap rfl
  have e2 : ((s.heap.push PySem.W.emptyDict).push (PySem.W.instObj C s.heap.objs.size)).get? (s.heap.objs.size + 1) = some (PySem.W.instObj C s.heap.objs.size) := by
    have := Heap.get?_push_size (s.heap.push PySem.W.emptyDict) (o := PySem.W.instObj C s.heap.objs.size) rfl
    rwa [Heap.size_push] at this
  have e3 : (s.heap.push PySem.W.emptyDict).Ns s.heap.objs.size (fun _ => none) := ⟨PySem.W.emptyDict, #[], _, e1, rfl, (fun e he => absurd he (by simp)), fun _ => rfl⟩
  have I1 := I.laid (a := s.heap.objs.size) (o := .own (s.heap.objs.size + 1)) (h' := s.heap.push PySem.W.emptyDict) (t' := s.toks) (fun b u q => Heap.get?_push_of_some _ q) (Nat.le_refl _) ⟨_, e1⟩
  refine I1.laid (a := s.heap.objs.size + 1) (o := .ins C s.heap.objs.size []) (t' := s.toks) (fun b u q => Heap.get?_push_of_some _ q) (Nat.le_of_eq (Heap.size_push _ _)) ?_
  have ne : s.heap.objs.size ≠ s.heap.objs.size + 1 := Nat.ne_of_lt (Nat.lt_succ_self _)
  refine ⟨by rw [upd_ne ne, upd_same], Nat.zero_le _, ne, e2, fun _ => none, (Heap.Ns1.of_empty e3).at fun o q => Heap.get?_push_of_some _ q, fun _ => True.intro, fun y hy => absurd rfl hy⟩

/-- e.f where nothing but the object is asked: through attributeBase (super) and the last hold -/
theorem attr_of {prog : Program} {w : World} {env : Env} {e : Expr} {f : Str} {pos : Pos} {s : Shared} {Q : Value → Shared → Prop} (hb : attributeBase e f env (eval e env) = eval e env)
    (h : wpAny (model prog w) A (eval e env) (fun o s₁ => wpAny (model prog w) A (getAttr o f true) Q E s₁) E s) : wpAny (model prog w) A (eval (.Attribute e f pos) env) Q E s :=
  Attribute_any_ h (by rw [arm_eval_Attribute, hb])
end

section
variable {X : Cx} {o e value : Expr} {f : Str} {pos pos' tpos : Pos} {ta tv : TE}

end

section
variable {X : Cx} {pins : List (Addr × Obj)} {σ : St} {H : Hp} {s : Shared} {A : Around} {E : Value → Shared → Prop} {Q : Value → Shared → Prop} {c : Value} {b : Bool}
/-- the type of a value, as the fragment's deciders take it; for an instance its class -/
inductive TyOf (K : PySem.W.Frag) (H : Hp) : V → Value → Prop where
  | non : TyOf K H .non (.type "NoneType")
  | bl (x : Bool) : TyOf K H (.bl x) (.type "bool")
  | int (i : Int) : TyOf K H (.int i) (.type "int")
  | str (x : Str) : TyOf K H (.str x) (.type "str")
  | flt (x : UInt64) : TyOf K H (.flt x) (.type "float")
  | lst {a : Addr} {xs : List V} (e : H a = some (.lst xs)) : TyOf K H (.ref a) (.type "list")
  | frz {a : Addr} {o : Obj} {xs : List V} (e : H a = some (.frz o (.lst xs))) : TyOf K H (.ref a) (.type "list")
  | tup {a : Addr} {xs : List V} (e : H a = some (.tup xs)) : TyOf K H (.ref a) (.type "tuple")
  | dK {a : Addr} {kvs : List (Key × V)} (e : H a = some (.dK kvs)) : TyOf K H (.ref a) (.type "dict")
  | dT {a : Addr} {kvs : List (List Key × V)} (e : H a = some (.dT kvs)) : TyOf K H (.ref a) (.type "dict")
  | ins {a C dx : Addr} {fs : List (Str × V)} (e : H a = some (.ins C dx fs)) (cl : Cls K C) (ha : PySem.W.findIn K (.ref C) "__class__" = some (some (.builtin "object.__class__")))
      (hn : PySem.W.specialIn K (.builtin "object.__class__") "__get__" = some (some (.builtin "getset_descriptor.__get__"))) (htk : PySem.W.takesIn K (.builtin "object.__class__") = some true)
      (hm : PySem.W.mroIn K C (.type "object") = some true) : TyOf K H (.ref a) (.ref C)
/-- isinstance(x, c) for one class c, a built-in or an own one: kitOne's answer -/
theorem isinst_ok {x : V} {u t : Value} (I : Inv X pins σ H s) (rx : RelV x u) (ty : TyOf X.K H x t) (e : PySem.W.kitOne X.K t c = some b) (h : ∀ tk, Q (.bool b) { s with toks := tk }) :
    wpAny (model X.prog X.w) A (call (.builtin "isinstance") [u, c]) Q E s := by
  cases ty with
  | non => cases (show u = Value.none from rx); exact PySem.W.kia_one PySem.W.kitx_none I.kIn True.intro e (fun z => nomatch z) h
  | bl y => cases (show u = Value.bool y from rx); exact PySem.W.kia_one PySem.W.kitx_bool I.kIn True.intro e (fun z => nomatch z) h
  | int i => obtain ⟨t, q⟩ := (show ∃ t, u = Value.int i t from rx); cases q; exact PySem.W.kia_one PySem.W.kitx_int I.kIn True.intro e (fun z => nomatch z) h
  | str y => obtain ⟨t, q⟩ := (show ∃ t, u = Value.str y t from rx); cases q; exact PySem.W.kia_one PySem.W.kitx_str I.kIn True.intro e (fun z => nomatch z) h
  | flt y => obtain ⟨t, q⟩ := (show ∃ t, u = Value.float y t from rx); cases q; exact PySem.W.kia_one PySem.W.kitx_float I.kIn True.intro e (fun z => nomatch z) h
  | @lst a xs ea =>
    cases (show u = Value.ref a from rx)
    obtain ⟨_, _, n, _, h1⟩ := (show ObjOk X.prog X.w H s.heap a (.lst xs) from I.hok a _ ea)
    exact PySem.W.kia_one PySem.W.kitx_list I.kIn ⟨_, h1, rfl⟩ e (fun z => nomatch z) h
  | @frz a ob xs ea =>
    cases (show u = Value.ref a from rx)
    obtain ⟨_, _, _, n, _, h1⟩ := (show ObjOk X.prog X.w H s.heap a (.frz ob (.lst xs)) from I.hok a _ ea)
    exact PySem.W.kia_one PySem.W.kitx_list I.kIn ⟨_, h1, rfl⟩ e (fun z => nomatch z) h
  | @tup a xs ea =>
    cases (show u = Value.ref a from rx)
    obtain ⟨_, _, _, p⟩ := (show ObjOk X.prog X.w H s.heap a (.tup xs) from I.hok a _ ea)
    obtain ⟨o, h1, h2, _⟩ := p
    exact PySem.W.kia_one PySem.W.kitx_tuple I.kIn ⟨o, h1, h2⟩ e (fun z => nomatch z) h
  | @dK a kvs ea =>
    cases (show u = Value.ref a from rx)
    obtain ⟨_, _, vs, _, p⟩ := (show ObjOk X.prog X.w H s.heap a (.dK kvs) from I.hok a _ ea)
    obtain ⟨o, es, ep, h1, h2, _⟩ := p
    exact PySem.W.kia_one PySem.W.kitx_dict I.kIn ⟨o, h1, h2.1⟩ e (fun z => nomatch z) h
  | @dT a kvs ea =>
    cases (show u = Value.ref a from rx)
    obtain ⟨_, _, xs, _, o, es, ep, h1, h2, _⟩ := (show ObjOk X.prog X.w H s.heap a (.dT kvs) from I.hok a _ ea)
    exact PySem.W.kia_one PySem.W.kitx_dict I.kIn ⟨o, h1, h2.1⟩ e (fun z => nomatch z) h
  | @ins a C dx fs ea cl ha hn htk hm =>
    cases (show u = Value.ref a from rx)
    obtain ⟨mA, O, _⟩ := ins_get I.hok ea
    obtain ⟨od, J, _⟩ := O.look
    exact PySem.W.kia_one (PySem.W.kitx_own (cl.get _) cl.hd ha hn htk hm) I.kIn J e (fun z => nomatch z) h
end
end L2

namespace L2
open PySem PySem.Spec PyProof.Rows

structure Room (k : Nat) (A : Around) : Prop where
  hd : A.handled = none
  dp : A.depth + 3 * k + 5 < recursionLimit
  un : A.units + 16 * k + 200 < cLine
theorem Room.mono {j k : Nat} {A : Around} (r : Room k A) (h : j ≤ k) : Room j A := ⟨r.hd, by have := r.dp; omega, by have := r.un; omega⟩
theorem Room.deeper {k : Nat} {A : Around} (r : Room (k + 1) A) (env : Env) : Room k (A.deeper env) :=
  ⟨r.hd, by have := r.dp; show A.depth + 1 + 3 * k + 5 < _; omega, by have := r.un; show A.units + 3 + 16 * k + 200 < _; omega⟩
theorem make_depth {A : Around} {C : Addr} {us : List Value} {kw : List (Str × Value)} : (A.under (.builtin "type.__call__" ⟨.ref C :: us, kw⟩)).depth = A.depth + 1 := by
  first | rfl | simp [Around.under, Code.weight, Code.isCreation, Code.isGuard, Code.isCaller, Code.frames, Code.isFrame, guardIds]
theorem make_units {A : Around} {C : Addr} {us : List Value} {kw : List (Str × Value)} : (A.under (.builtin "type.__call__" ⟨.ref C :: us, kw⟩)).units = A.units + 1 := by
  first | rfl | simp [Around.under, Code.cUnits, Code.frames, Code.isFrame]
theorem Room.make {k : Nat} {A : Around} (r : Room (k + 1) A) (C : Addr) (us : List Value) (kw : List (Str × Value)) : Room k (A.under (.builtin "type.__call__" ⟨.ref C :: us, kw⟩)) :=
  ⟨r.hd, by have := r.dp; rw [make_depth]; omega, by have := r.un; rw [make_units]; omega⟩
theorem Room.depth {k : Nat} {A : Around} (r : Room k A) : A.depth < recursionLimit := by have := r.dp; omega
theorem Room.units {k : Nat} {A : Around} (r : Room k A) : A.units + 64 < cLine := by have := r.un; omega

def tNil : TA := fun _ H Q => Q [] H
def tCons (ta : TE) (tr : TA) : TA := fun σ H Q => ta σ H fun x H1 => tr σ H1 fun xs H2 => Q (x :: xs) H2
section
variable {X : Cx} {e : Expr} {es : List Expr} {te : TE} {t : TA} {pos : Pos}
theorem pa_nil : PA X [] tNil := fun _ _ _ _ H Q I h => Calls.spliced_nil ⟨[], H, I, .nil, h⟩
theorem pa_cons (ha : PE X e te) (hr : PA X es t) (hs : starEach (e :: es) X.env = (false, eval e X.env) :: starEach es X.env := by rfl) : PA X (e :: es) (tCons te t) := by
  intro pos pins s σ H Q I h
  rw [hs]
  show wpAny _ _ (spliced ((false, eval e X.env) :: backTo pos (starEach es X.env))) _ _ s
  refine Calls.spliced_cons (thn (ha pins s σ H _ I h) fun u s1 ⟨x, H1, I1, r1, q1⟩ => ?_)
  exact thn (hr pos pins s1 σ H1 _ I1 q1) fun us s2 ⟨xs, H2, I2, r2, q2⟩ => ⟨x :: xs, H2, I2, .cons r1 r2, q2⟩

/-- a tuple, a list of written items -/
def tTup (t : TA) : TE := fun σ H Q => t σ H fun xs H1 => xs.length ≤ sizeLine ∧ ∀ p, H1 p = none → Q (.ref p) (upd H1 p (.tup xs))
def tLst (t : TA) : TE := fun σ H Q => t σ H fun xs H1 => xs.length ≤ sizeLine ∧ ∀ p, H1 p = none → Q (.ref p) (upd H1 p (.lst xs))
theorem pe_tup {x1} (h : PA X es t) : PE X (.Tuple es x1 pos) (tTup t) := by
  intro pins s σ H Q I hq
  refine wpAny_Tuple_spliced (thn (h pos pins s σ H _ I hq) fun us s1 ⟨xs, H1, I1, r, z, q⟩ => ⟨by rw [← r.length]; exact z, ?_⟩)
  have hf : H1 s1.heap.objs.size = none := I1.hok.fresh (Nat.le_refl _)
  refine ⟨.ref s1.heap.objs.size, upd H1 s1.heap.objs.size (.tup xs), I1.laid (t' := s1.toks) (fun b u e => Heap.get?_push_of_some _ e) (Nat.le_refl _) ?_, rfl, q _ hf⟩
  exact ⟨z, us, r, ⟨_, Heap.get?_push_size _ rfl, rfl, _, rfl⟩⟩
theorem pe_lst (h : PA X es t) : PE X (.List es pos) (tLst t) := by
  intro pins s σ H Q I hq
  refine wpAny_List_spliced (thn (h pos pins s σ H _ I hq) fun us s1 ⟨xs, H1, I1, r, z, q⟩ => ⟨by rw [← r.length]; exact z, ?_⟩)
  have hf : H1 s1.heap.objs.size = none := I1.hok.fresh (Nat.le_refl _)
  refine ⟨.ref s1.heap.objs.size, upd H1 s1.heap.objs.size (.lst xs), I1.laid (t' := s1.toks) (fun b u e => Heap.get?_push_of_some _ e) (Nat.le_refl _) ?_, rfl, q _ hf⟩
  exact ⟨z, us, 0, r, Heap.get?_push_size _ rfl⟩
end

/-- a def's promise: the bound arguments in the parameters' order, the heap, the wanted end, the wanted exception -/
abbrev Sp := List V → Hp → VK → XK → Prop
/-- how an exception lies behind a call (file 08 gives it): the callers' frames, abstract heap and state ahead of the call, the wish, the exception, the state -/
abbrev CXT := List Env → Hp → Shared → XK → Value → Shared → Prop

/-- the state at a call -/
structure Env0 (P : Program) (w : World) (K : PySem.W.Frag) (mg : Str → Option Value) (base : Heap) (A : Around) (outer : List Env) (s : Shared) (H : Hp) : Prop where
  frames : A.frames = some outer
  mod : Mod K mg base
  bs : ∀ b o, base.get? b = some o → s.heap.get? b = some o ∧ H b = none
  bsz : base.objs.size ≤ s.heap.objs.size
  funs : s.heap.FunFrames base outer
  frf : ∀ b ∈ frs outer, H b = none
  hok : HOk P w H s.heap
  bare : AllBare s.gens
/-- a call's end -/
def CE (outer : List Env) (P : Program) (w : World) (H : Hp) (s : Shared) (Q : VK) (u : Value) (s' : Shared) : Prop :=
  ∃ v H', s'.os = s.os ∧ AllBare s'.gens ∧ Un (frs outer) [] H H' s.heap s'.heap ∧ HOk P w H' s'.heap ∧ RelV v u ∧ Q v H'
def CR (CX : CXT) (outer : List Env) (P : Program) (w : World) (H : Hp) (s : Shared) (Q : VK) (E : XK) (r : Result) (s' : Shared) : Prop :=
  match r with
  | .ok (.ret u) => CE outer P w H s Q u s'
  | .ok _ => False
  | .error e => CX outer H s E e s'
structure FnOk (P : Program) (w : World) (K : PySem.W.Frag) (mg : Str → Option Value) (base : Heap) (CX : CXT) (k : Nat) (f : Addr) (fd : FuncData) (ps : List Str) (sp : Sp) : Prop where
  len : ∀ vs H Q E, sp vs H Q E → vs.length = ps.length
  run : ∀ (A : Around) (outer : List Env) (s : Shared) (H : Hp) (args : Args) (us : List Value) (vs : List V) (Q : VK) (E : XK), Room k A → Env0 P w K mg base A outer s H → BindsTo s fd args (ps.zip us) → Vals vs us → sp vs H Q E →
    codeAny (model P w) A (.call (.ref f) args) (CR CX outer P w H s Q E) s
/-- a weaker promise -/
theorem FnOk.imp {P : Program} {w : World} {K : PySem.W.Frag} {mg : Str → Option Value} {base : Heap} {CX : CXT} {k : Nat} {f : Addr} {fd : FuncData} {ps : List Str} {sp sp' : Sp} (F : FnOk P w K mg base CX k f fd ps sp)
    (h : ∀ vs H Q E, sp' vs H Q E → sp vs H Q E) : FnOk P w K mg base CX k f fd ps sp' :=
  ⟨fun vs H Q E q => F.len vs H Q E (h _ _ _ _ q), fun A outer s H args us vs Q E hr he hb hv hs => F.run A outer s H args us vs Q E hr he hb hv (h _ _ _ _ hs)⟩

theorem Env0.make {P : Program} {w : World} {K : PySem.W.Frag} {mg : Str → Option Value} {base : Heap} {A : Around} {outer : List Env} {s : Shared} {H : Hp} (e : Env0 P w K mg base A outer s H) (C : Addr) (us : List Value) (kw : List (Str × Value)) :
    Env0 P w K mg base (A.under (.builtin "type.__call__" ⟨.ref C :: us, kw⟩)) outer s H := ⟨by first | exact e.frames | (simpa [Around.under, Code.envs, Code.isFrame, pushEnvs] using e.frames), e.mod, e.bs, e.bsz, e.funs, e.frf, e.hok, e.bare⟩

section
variable {X : Cx} {pins : List (Addr × Obj)} {σ : St} {H : Hp} {s s' : Shared}
/-- from a body: what a callee wants -/
theorem Inv.env0 (I : Inv X pins σ H s) : Env0 X.prog X.w X.K X.mg X.base X.A X.stack s H :=
  ⟨I.ok.frames, I.ok.mod, I.bs, Nat.le_trans I.ok.bsz I.sz, I.stack, I.stkFree, I.hok, I.bare⟩
/-- behind a call -/
theorem Inv.after {Q : VK} {u : Value} (I : Inv X pins σ H s) (h : CE X.stack X.prog X.w H s Q u s') : EP X pins σ Q u s' := by
  obtain ⟨v, H', os, bare, un, hok, r, q⟩ := h
  obtain ⟨hh, g, d, t, os'⟩ := s'
  obtain rfl : os' = s.os := os
  exact ⟨v, H', I.call (h' := hh) (g' := g) (d' := d) (t' := t) (ch := []) un hok bare (fun b z => absurd z (by simp)), r, q⟩
end

/-- how the parameters are bound: us the positional arguments, kw the keywords' values by name, ds the defaults that fill up -/
def Binds (K : PySem.W.Frag) (fd : FuncData) (ps : List Str) (ds : List Value) : Prop :=
  ∀ (s : Shared) (us : List Value), K.In s.heap → (us ++ ds).length = ps.length → BindsTo s fd ⟨us, []⟩ (ps.zip (us ++ ds))
/-- every parameter is given -/
theorem Binds.all {K : PySem.W.Frag} {fd : FuncData} {ps : List Str} (h : ∀ us : List Value, us.length = ps.length → bindArgs fd ⟨us, []⟩ = pure (ps.zip us)) : Binds K fd ps [] := fun s us _ hl => by
  rw [List.append_nil] at hl ⊢
  exact .of_eq (h us hl)

section
variable {X : Cx} {CX : CXT} {k : Nat} {f C : Addr} {fd : FuncData} {ps : List Str} {sp : Sp} {dvs : List V} {ds : List Value} {E : XK} {x m : Str} {p pos apos : Pos} {e o : Expr} {es : List Expr} {ta : TE} {t : TA}

/-- what a class must have to be made -/
structure Mk (K : PySem.W.Frag) (C f : Addr) : Prop where
  makes : PySem.W.makesIn K C = true
  init : PySem.W.findIn K (.ref C) "__init__" = some (some (.ref f))
  fn : PySem.W.isFn K (.ref f) = true
  kp : PySem.W.keepIn K (.ref C) = true

end

section
variable {X : Cx} {CX : CXT} {k : Nat} {f C : Addr} {fd : FuncData} {ps ks : List Str} {sp : Sp} {E : XK} {x m : Str} {p pos apos kpos : Pos} {e o : Expr} {es : List Expr} {kws : List Keyword} {te ta : TE} {t tk : TA} {nm : Option Str}

variable {g : List Value → List Value → List Value} {gV : List V → List V → List V}
end

/-- names: the parameters first -/
structure FnScope (N P : List Str) (sc : Scope) : Prop where
  kind : sc.kind = .function
  co : sc.isCoroutine = false
  gen : sc.isGenerator = false
  nd : N.Nodup
  pre : N.take P.length = P
  par : ∀ x ∈ P, sc.names.lookup x = some .local ∨ sc.names.lookup x = some .cell
  nofree : ∀ y ∈ sc.names, y.2 ≠ .free

theorem bindL_out {kindOf : Str → Option NameKind} {x : Str} : ∀ {binds : List (Str × Value)} {m : Str → Option Value}, (∀ v, (x, v) ∉ binds) → bindL kindOf binds m x = m x
  | [], _, _ => rfl
  | (n, v) :: r, m, h => by
    unfold bindL
    rw [bindL_out fun w hw => h w (List.mem_cons_of_mem _ hw)]
    split
    · have : x ≠ n := by rintro rfl; exact h v List.mem_cons_self
      simp [this]
    · rfl
theorem bindC_out {kindOf : Str → Option NameKind} {x : Str} : ∀ {binds : List (Str × Value)} {m : Str → Option Value}, (∀ v, (x, v) ∉ binds) → bindC kindOf binds m x = m x
  | [], _, _ => rfl
  | (n, v) :: r, m, h => by
    unfold bindC
    rw [bindC_out fun w hw => h w (List.mem_cons_of_mem _ hw)]
    split
    · rfl
    · have : x ≠ n := by rintro rfl; exact h v List.mem_cons_self
      simp [this]
theorem bindL_get {kindOf : Str → Option NameKind} {x : Str} {v : Value} : ∀ {P : List Str} {vs : List Value} {i : Nat} {m : Str → Option Value}, P.Nodup → P[i]? = some x → vs[i]? = some v → kindOf x = some .local →
    bindL kindOf (P.zip vs) m x = some v
  | [], _, _, _, _, h, _, _ => by simp at h
  | _ :: _, [], _, _, _, _, h, _ => by simp at h
  | p :: P, w :: vs, 0, m, nd, h1, h2, hk => by
    simp at h1 h2; subst h1; subst h2
    show bindL kindOf ((p, w) :: P.zip vs) m p = _
    unfold bindL
    rw [bindL_out fun v hv => (List.nodup_cons.mp nd).1 (List.of_mem_zip hv).1, if_pos hk]
    simp
  | p :: P, w :: vs, i + 1, m, nd, h1, h2, hk => by
    show bindL kindOf ((p, w) :: P.zip vs) m x = _
    unfold bindL
    exact bindL_get (i := i) (List.nodup_cons.mp nd).2 (by simpa using h1) (by simpa using h2) hk
theorem bindC_get {kindOf : Str → Option NameKind} {x : Str} {v : Value} : ∀ {P : List Str} {vs : List Value} {i : Nat} {m : Str → Option Value}, P.Nodup → P[i]? = some x → vs[i]? = some v → kindOf x ≠ some .local →
    bindC kindOf (P.zip vs) m x = some v
  | [], _, _, _, _, h, _, _ => by simp at h
  | _ :: _, [], _, _, _, _, h, _ => by simp at h
  | p :: P, w :: vs, 0, m, nd, h1, h2, hk => by
    simp at h1 h2; subst h1; subst h2
    show bindC kindOf ((p, w) :: P.zip vs) m p = _
    unfold bindC
    rw [bindC_out fun v hv => (List.nodup_cons.mp nd).1 (List.of_mem_zip hv).1, if_neg hk]
    simp
  | p :: P, w :: vs, i + 1, m, nd, h1, h2, hk => by
    show bindC kindOf ((p, w) :: P.zip vs) m x = _
    unfold bindC
    exact bindC_get (i := i) (List.nodup_cons.mp nd).2 (by simpa using h1) (by simpa using h2) hk

/-- the names' values at the entry -/
def start (N : List Str) (vs : List V) : St := vs.map some ++ List.replicate (N.length - vs.length) none

/-- the context of a def's body, at its entry; an exception leaves the frame, then lies as CX says -/
def cxOf (CX : CXT) (P : Program) (w : World) (K : PySem.W.Frag) (mg : Str → Option Value) (base : Heap) (N : List Str) (qual : Str) (scope : Scope) (f : Addr) (cd : Value) (A : Around) (outer : List Env) (s : Shared) (H : Hp) (E : XK) : Cx where
  prog := P
  w := w
  K := K
  mg := mg
  base := base
  A := A.deeper (envOfC qual scope s.heap.objs.size f cd)
  N := N
  s₀ := s
  H₀ := H
  env := envOfC qual scope s.heap.objs.size f cd
  outer := outer
  stack := envOfC qual scope s.heap.objs.size f cd :: outer
  ex := []
  calm := true
  fn := fun _ => true
  pn := []
  xe := fun e s' => wpAny (model P w) (A.deeper (envOfC qual scope s.heap.objs.size f cd)) (leaving (envOfC qual scope s.heap.objs.size f cd) e) (fun _ s'' => CX outer H s E e s'') (fun e' s'' => CX outer H s E e' s'') s'

theorem cell_has {sc : Scope} {n : Nat} {x : Str} (h : sc.names.lookup x = some .cell) : ∃ c, (cellsFrom n sc.names []).lookup x = some c := by
  have q := PySem.W.cellsFrom_some sc.names n [] (.inl h)
  exact Option.isSome_iff_exists.mp q

theorem inv_start {CX : CXT} {P : Program} {w : World} {K : PySem.W.Frag} {mg : Str → Option Value} {base : Heap} {N ps : List Str} {qual : Str} {scope : Scope} {f : Addr} {cd : Value} {A : Around} {outer : List Env} {s s1 : Shared} {H : Hp} {E : XK} {us : List Value} {vs : List V}
    (S : FnScope N ps scope) (hd : A.handled = none) (e0 : Env0 P w K mg base A outer s H) (hl : vs.length = ps.length) (r : Vals vs us)
    (x : InCallC s s.heap.objs.size (bindL (envOfC qual scope s.heap.objs.size f cd).kindOf (ps.zip us) fun _ => none) (cellsFrom (s.heap.objs.size + 1) scope.names []) (bindC (envOfC qual scope s.heap.objs.size f cd).kindOf (ps.zip us) fun _ => none) s1) :
    Inv (cxOf CX P w K mg base N qual scope f cd A outer s H E) [] (start N vs) H s1 := by
  have hpl : ps.length ≤ N.length := by have := congrArg List.length S.pre; rw [List.length_take] at this; omega
  obtain ⟨h1, tk, rfl, hk⟩ := x.done
  have noA : ∀ b : Addr, b ∉ (cxOf CX P w K mg base N qual scope f cd A outer s H E).ex := fun b z => absurd (show b ∈ ([] : List Addr) from z) (by simp)
  refine ⟨⟨e0.mod, S.kind, rfl, rfl, Nat.le_refl _, fun y z c h1 h2 => ?_, fun y hy => ?_, fun y c _ h => ?_, fun _ => hd, Around.frames_deeper e0.frames, .inr ⟨rfl, rfl⟩, fun b z => absurd z (noA b), e0.bs, e0.bsz, fun b _ _ => noA b, fun b z => absurd z (noA b), e0.funs, e0.frf⟩,
    rfl, e0.bare, Un.kept hk, ⟨_, x.toInCall.ns, fun i y v h1 h2 h3 => ?_⟩, fun y c h => ⟨_, x.cell y c h⟩, e0.hok.fresh (Nat.le_refl _), fun y c h => ?_, fun p hp => absurd (show p ∈ ([] : List (Addr × Obj)) from hp) (by simp), e0.hok.kept hk, ?_⟩
  · exact name_of_addr x.apart (PySem.mem_of_lookup h1) (PySem.mem_of_lookup h2)
  · have hy : scope.names.lookup y = some .cell ∨ scope.names.lookup y = some .free := hy
    rcases hy with hy | hy
    · exact cell_has hy
    · exact absurd rfl (S.nofree _ (PySem.mem_of_lookup hy))
  · exact Nat.le_of_lt (x.above y c (PySem.mem_of_lookup h))
  · have hi : i < vs.length := by
      unfold start at h2
      by_cases hi : i < vs.length
      · exact hi
      · rw [List.getElem?_append_right (by simpa using hi)] at h2
        rw [List.getElem?_replicate] at h2
        split at h2 <;> cases h2
    have ha : vs[i]? = some v := by
      unfold start at h2
      rw [List.getElem?_append_left (by simpa using hi), List.getElem?_map] at h2
      cases e : vs[i]? with
      | none => rw [e] at h2; cases h2
      | some a => rw [e] at h2; cases h2; rfl
    obtain ⟨u, hu, rv⟩ := r.get ha
    have hp : ps[i]? = some y := by
      rw [← S.pre, List.getElem?_take_of_lt (by omega)]; exact h1
    have ndP : ps.Nodup := by rw [← S.pre]; exact S.nd.sublist (List.take_sublist _ _)
    refine ⟨u, rv, ?_⟩
    rcases S.par y (List.mem_of_getElem? hp) with k | k
    · exact .inl ⟨k, bindL_get ndP hp hu k⟩
    · obtain ⟨c, e⟩ := cell_has (n := s.heap.objs.size + 1) k
      refine .inr ⟨.inl k, c, e, ?_⟩
      have q := x.cell y c e
      rw [bindC_get ndP hp hu (by show scope.names.lookup y ≠ _; rw [k]; decide)] at q
      exact q
  · exact e0.hok.fresh (Nat.le_of_lt (x.above y c (PySem.mem_of_lookup h)))
  · unfold start
    show _ = N.length
    rw [List.length_append, List.length_map, List.length_replicate]
    omega

/-- THE RULE: a def (or a method) of the text, by its body. The body's reading t is chosen for each entry; it is run at the parameters' values -/
theorem fn_of {CX : CXT} {P : Program} {w : World} {K : PySem.W.Frag} {mg : Str → Option Value} {base : Heap} {k : Nat} {f : Addr} {name qual : Str} {params : Arguments} {body : List Stmt} {scope : Scope} {dV kV doc pm cdv ct oc : Value} {an od : Option Addr}
    {osl : Array (Option Value)} {N ps : List Str} {sp : Sp} (lk : K.lookup f = some ⟨oc, od, .func (PySem.W.fnOf name qual params body scope dV kV doc pm an cdv ct), osl⟩) (hcd : PySem.W.codeIn K cdv qual = true) (S : FnScope N ps scope)
    (len : ∀ vs H Q E, sp vs H Q E → vs.length = ps.length)
    (hbody : ∀ (A : Around) (outer : List Env) (s : Shared) (H : Hp) (vs : List V) (Q : VK) (E : XK), Room k (A.deeper (envOfC qual scope s.heap.objs.size f cdv)) → sp vs H Q E →
      ∃ t, PSs (cxOf CX P w K mg base N qual scope f cdv A outer s H E) body t ∧ t { nx := fun _ H' => Q .non H', rt := Q } (start N vs) H) :
    FnOk P w K mg base CX (k + 1) f (PySem.W.fnOf name qual params body scope dV kV doc pm an cdv ct) ps sp := by
  refine ⟨len, fun A outer s H args us vs Q E hr e0 hb r hsp => ?_⟩
  have hl := len _ _ _ _ hsp
  have KX : K.In s.heap := e0.mod.kin.keeps fun b o e => (e0.bs b o e).1
  have lim : s.heap.NoLimit := e0.mod.nolimit.keeps fun b o e => (e0.bs b o e).1
  have hkind : ∀ y ∈ ps.zip us, scope.names.lookup y.1 = some .local ∨ (scope.names.lookup y.1 = some .cell ∧ ((cellsFrom (s.heap.objs.size + 1) scope.names []).lookup y.1).isSome = true) := fun ⟨n, v⟩ hy => by
    rcases S.par n (List.of_mem_zip hy).1 with q | q
    · exact .inl q
    · exact .inr ⟨q, PySem.W.cellsFrom_some _ _ _ (.inl q)⟩
  refine codeAny_call_function hr.depth (KX _ _ lk) rfl S.co S.gen rfl (PySem.W.codeRec_of KX hcd) (hb _ _ _ _ ?_)
  refine wpAny_newFunctionEnv_cells S.kind hkind fun env he s1 x => ?_
  subst he
  refine ⟨lim.keeps x.toInCall.keep, codeAny_func ?_⟩
  obtain ⟨t, ht, hq⟩ := hbody A outer s H vs Q E (hr.deeper _) hsp
  have I : Inv (cxOf CX P w K mg base N qual scope f cdv A outer s H E) [] (start N vs) H s1 := inv_start S hr.hd e0 hl r x
  refine wpAny_mono (ht [] s1 (start N vs) H _ I hq) (fun fl s' hs => ?_) fun e s' hs => hs
  have fin : ∀ {σ' : St} {H' : Hp} {v : V} {u : Value}, Inv (cxOf CX P w K mg base N qual scope f cdv A outer s H E) [] σ' H' s' → RelV v u → Q v H' → CE outer P w H s Q u s' :=
    fun {σ' H' v u} J rv q => ⟨v, H', J.os, J.bare, J.base, J.hok, rv, q⟩
  cases fl with
  | ret u =>
    obtain ⟨v, σ', H', J, rv, q⟩ := hs
    exact fin J rv q
  | next =>
    obtain ⟨σ', H', J, q⟩ := hs
    exact fin (v := V.non) (u := Value.none) J rfl q
  | brk =>
    obtain ⟨_, _, _, q⟩ := hs
    exact False.elim q
  | cont =>
    obtain ⟨_, _, _, q⟩ := hs
    exact False.elim q
end L2

namespace L2
open PySem PySem.Spec PyProof.Rows
section
variable {X : Cx} {x : Str} {p pos : Pos} {e : Expr} {es : List Expr} {t : TA} {id T : String} {r : List V → Hp → VK → Prop}

def tCB (r : List V → Hp → VK → Prop) (t : TA) : TE := fun σ H Q => t σ H fun vs H1 => r vs H1 Q
/-- f(e, ..), f a built-in function -/
theorem pe_callB (hc : CallR X (.builtin id) r) (hg : Gl X x) (hm : X.mg x = none) (hv : bootBuiltins x = some (.builtin id)) (ha : PA X (e :: es) t) (hn : x ≠ "__name__" := by decide) (hdb : (x == ("__debug__" : Str)) = false := by decide)
    (he : starEach (e :: es) X.env = (false, eval e X.env) :: starEach es X.env := by rfl) (hpl : (backTo pos (starEach es X.env)).any (·.1) = false := by rfl) : PE X (.Call (.Name x p) (e :: es) [] pos) (tCB r t) := by
  intro pins s σ H Q I h
  refine wpAny_Call_Name_kw (ld_blt I hg hm hv ?_ hn hdb)
  exact PyProof.Rows.callWith_builtin1 (thn (ha pos pins s σ H _ I h) fun us s1 ⟨vs, H1, I1, r1, q1⟩ => hc pins s1 σ H1 vs us Q I1 r1 q1) he hpl
/-- T(e, ..), T a built-in type -/
theorem pe_callTy (hc : CallR X (.type T) r) (hg : Gl X x) (hm : X.mg x = none) (hv : bootBuiltins x = some (.type T)) (ha : PA X (e :: es) t) (hn : x ≠ "__name__" := by decide) (hdb : (x == ("__debug__" : Str)) = false := by decide)
    (he : starEach (e :: es) X.env = (false, eval e X.env) :: starEach es X.env := by rfl) (hpl : (backTo pos (starEach es X.env)).any (·.1) = false := by rfl) : PE X (.Call (.Name x p) (e :: es) [] pos) (tCB r t) := by
  intro pins s σ H Q I h
  refine wpAny_Call_Name_kw (ld_blt I hg hm hv ?_ hn hdb)
  exact PyProof.Rows.callWith_type1 (thn (ha pos pins s σ H _ I h) fun us s1 ⟨vs, H1, I1, r1, q1⟩ => hc pins s1 σ H1 vs us Q I1 r1 q1) he hpl
end
end L2

namespace HT
open PySem PyProof.Rows

section
open PySem.SeqAt
open PySem.AutoSeq1 (wpAny_loadPart')
open PySem.MeetsSeq PySem.MeetsSeq2 PySem.MeetsSeq3

end

section
variable {prog : Program} {w : World} {A : Around} {E : Value → Shared → Prop} {s : Shared}

/-- t + u, t not empty -/
theorem cat_tup {t b : Addr} {vs ws : List Value} {Q : Value → Shared → Prop} (ht : IsTup s.heap t vs.toArray) (hb : IsTup s.heap b ws.toArray) (hv : vs ≠ [])
    (h1 : ws = [] → Q (.ref t) s) (h2 : ws ≠ [] → Q (.ref s.heap.objs.size) { s with heap := s.heap.push { cls := .type "tuple", data := .seq (vs ++ ws).toArray } })
    (hsz : vs.length + ws.length ≤ sizeLine) : wpAny (model prog w) A (binaryOp .Add (.ref t) (.ref b)) Q E s := by
  obtain ⟨⟨cls, dd, data, sl⟩, ho, hc, n, hd⟩ := id ht
  obtain ⟨⟨cls2, dd2, data2, sl2⟩, ho2, hc2, n2, hd2⟩ := id hb
  simp only at hc hd hc2 hd2
  subst hc hd hc2 hd2
  have e : vs.toArray ++ ws.toArray = (vs ++ ws).toArray := by simp
  by_cases hw : ws = []
  · exact concat_meets ⟨_, ho, rfl⟩ ⟨_, ho2, rfl⟩ noFill_tuple_add seq_tuple_add PySem.F.slot_tuple_add PySem.F.entry_tuple_add (PySem.F.args_tuple_add_2 _ _)
      (tuple_addW1 t b vs.toArray ws.toArray n n2 dd dd2 sl sl2 (by simpa using hv) (by simp [hw])) ⟨ho, ho2, h1 hw⟩
  · refine concat_meets ⟨_, ho, rfl⟩ ⟨_, ho2, rfl⟩ noFill_tuple_add seq_tuple_add PySem.F.slot_tuple_add PySem.F.entry_tuple_add (PySem.F.args_tuple_add_2 _ _)
      (tuple_addW2 t b vs.toArray ws.toArray n n2 dd dd2 sl sl2 (by simpa using hv) (by simpa using hw) (by rw [List.size_toArray, List.size_toArray]; exact hsz)) ⟨ho, ho2, ?_⟩
    rw [e]
    exact h2 hw

/-- a slice's bound as a place among n (d where it is left out) -/
def sIx (n d : Nat) : Option Int → Nat
  | none => d
  | some v => if v < 0 then (v + (n : Int)).toNat else min v.toNat n
theorem sIx_none (n d : Nat) : sIx n d none = d := rfl
theorem sIx_nat (n d k : Nat) : sIx n d (some (k : Int)) = min k n := by
  show (if (k : Int) < 0 then ((k : Int) + (n : Int)).toNat else min (k : Int).toNat n) = min k n
  rw [if_neg (by omega), Int.toNat_natCast]
theorem sIx_le (n d : Nat) (hd : d ≤ n) (o : Option Int) : sIx n d o ≤ n := by
  cases o with
  | none => exact hd
  | some v =>
    show (if v < 0 then (v + (n : Int)).toNat else min v.toNat n) ≤ n
    by_cases hv : v < 0
    · rw [if_pos hv]; omega
    · rw [if_neg hv]; exact Nat.min_le_right _ _
theorem clip_eq (v : Int) (n d : Nat) : (if v < 0 then max (v + (n : Int)) 0 else min v (n : Int)) = ((sIx n d (some v) : Nat) : Int) := by
  show (if v < 0 then max (v + (n : Int)) 0 else min v (n : Int)) = (((if v < 0 then (v + (n : Int)).toNat else min v.toNat n) : Nat) : Int)
  by_cases hv : v < 0
  · simp only [if_pos hv]; omega
  · simp only [if_neg hv]; omega
theorem adjust_gen (lo hi : Option Int) (n : Nat) : Builtin.Slice.sliceAdjust lo hi 1 (n : Int) = (((sIx n 0 lo : Nat) : Int), ((sIx n n hi : Nat) : Int)) := by
  have h1 : ¬ ((1 : Int) < 0) := by omega
  unfold Builtin.Slice.sliceAdjust
  simp only [h1, if_false]
  refine Prod.ext ?_ ?_
  · cases lo with
    | none => rfl
    | some v => exact clip_eq v n 0
  · cases hi with
    | none => rfl
    | some v => exact clip_eq v n n
theorem places_gen (i j : Nat) : Builtin.Slice.slicePlaces (i : Int) (j : Int) 1 = j - i := by
  unfold Builtin.Slice.slicePlaces
  have h1 : (1 : Int) > 0 := by omega
  simp only [h1, if_true, Int.ediv_one]
  split <;> omega
theorem slicePart_ {v : Value} {o : Option Int} {Q : Option Int → Shared → Prop} (p : IsPart v o) (h : Q o s) : wpAny (model prog w) A (Builtin.Slice.slicePartIndex v) Q E s := by
  cases p with
  | none => exact slicePart_none h
  | int i t => exact slicePart_int h
theorem sliceApplied_gen {sl : Addr} {vl vu : Value} {lo hi : Option Int} {n : Nat} {Q : Int × Int × Nat → Shared → Prop} (hs : s.heap.IsSliceOf sl vl vu .none) (pl : IsPart vl lo) (pu : IsPart vu hi)
    (h : Q (((sIx n 0 lo : Nat) : Int), 1, sIx n n hi - sIx n 0 lo) s) : wpAny (model prog w) A (Builtin.Slice.sliceApplied (.ref sl) (pure (n : Int))) Q E s := by
  obtain ⟨os, hos, hcs, hds⟩ := id hs
  unfold Builtin.Slice.sliceApplied Builtin.Slice.sliceFields
  refine wpAny_bind (wpAny_bind (wpAny_field hos hds (x := vl) rfl (wpAny_bind (wpAny_field hos hds (x := vu) rfl (wpAny_bind (wpAny_field hos hds (x := .none) rfl (wpAny_pure ?_)))))))
  refine wpAny_bind (slicePart_none ?_)
  show wpAny _ _ (if ((1 : Int) == 0) = true then _ else _) _ _ s
  rw [if_neg (by decide)]
  refine wpAny_bind (slicePart_ pl (wpAny_bind (slicePart_ pu (wpAny_bind (wpAny_pure ?_)))))
  show wpAny _ _ (match Builtin.Slice.sliceAdjust lo hi 1 (n : Int) with | (lo, hi) => pure (lo, (1 : Int), Builtin.Slice.slicePlaces lo hi 1)) _ _ s
  rw [adjust_gen lo hi n]
  show wpAny _ _ (pure (((sIx n 0 lo : Nat) : Int), (1 : Int), Builtin.Slice.slicePlaces ((sIx n 0 lo : Nat) : Int) ((sIx n n hi : Nat) : Int) 1)) _ _ s
  rw [places_gen]
  exact wpAny_pure h
theorem pick_gen (xs : Array Value) (i k : Nat) : ((List.range k).filterMap fun (m : Nat) => xs[((i : Int) + (m : Int) * 1).toNat]?).toArray = ((xs.toList.drop i).take k).toArray := by
  have e : (fun (m : Nat) => xs[((i : Int) + (m : Int) * 1).toNat]?) = fun m => xs[i + m]? := by
    funext m
    have : ((i : Int) + (m : Int) * 1).toNat = i + m := by omega
    rw [this]
  rw [e]
  have := pick_run xs i k
  rw [List.filterMap_map] at this
  have e2 : ((fun x => xs[x]?) ∘ fun x => i + x) = fun m => xs[i + m]? := rfl
  rw [e2] at this
  rw [this]

theorem getItem_tuple_cut {t sl : Addr} {items : Array Value} {vl vu : Value} {lo hi : Option Int} {Q : Value → Shared → Prop} (ht : IsTup s.heap t items) (hs : s.heap.IsSliceOf sl vl vu .none) (pl : IsPart vl lo) (pu : IsPart vu hi)
    (hw : ¬ (sIx items.size 0 lo = 0 ∧ sIx items.size items.size hi = items.size))
    (h : Q (.ref s.heap.objs.size) { s with heap := s.heap.push { cls := .type "tuple", data := .seq ((items.toList.drop (sIx items.size 0 lo)).take (sIx items.size items.size hi - sIx items.size 0 lo)).toArray } })
    (hsz : items.size ≤ sizeLine) : wpAny (model prog w) A (getItem (.ref t) (.ref sl)) Q E s := by
  have htake : sizeOk (.seq ((items.toList.drop (sIx items.size 0 lo)).take (sIx items.size items.size hi - sIx items.size 0 lo)).toArray) := by
    show ((items.toList.drop (sIx items.size 0 lo)).take (sIx items.size items.size hi - sIx items.size 0 lo)).toArray.size ≤ sizeLine
    rw [List.size_toArray, List.length_take, List.length_drop, Array.length_toList]
    omega
  have hj : sIx items.size items.size hi ≤ items.size := sIx_le _ _ (Nat.le_refl _) hi
  obtain ⟨os, hos, hcs, hds⟩ := id hs
  have hTs : s.TypeIs (.ref sl) "slice" := ⟨os, hos, hcs⟩
  unfold getItem
  try with_reducible refine wpAny_holding ?_
  first | refine wpAny_bind (wpAny_pure ?_) | skip
  refine wpAny_bind (wpAny_sequenceKey ht.typeIs (by decide) ?_)
  refine wpAny_bind (wpAny_callSpecial?_slot (name := Str.ofString "__getitem__") ht.typeIs PyProof.Rows.slot_tuple_getitem
    (wpAny_call_entry PyProof.Rows.slot_tuple_getitem ht.typeIs entry_tuple_getitem ?_ (args_tuple_getitem _ _)))
  show wpAny _ _ (Builtin.Tuple.tupleItemsOf (.ref t) >>= _) _ _ s
  refine wpAny_bind (tupleItemsOf_ ht ?_)
  refine wpAny_bind (wpAny_typeOf hTs ?_)
  rw [if_pos (by decide)]
  refine wpAny_bind (sliceApplied_gen hs pl pu ?_)
  have hno : ¬ ((((sIx items.size 0 lo : Nat) : Int) == 0 && (1 : Int) == 1 && (sIx items.size items.size hi - sIx items.size 0 lo) == items.size) = true) := by
    intro q
    rw [Bool.and_eq_true, Bool.and_eq_true] at q
    have q1 : ((sIx items.size 0 lo : Nat) : Int) = 0 := eq_of_beq q.1.1
    have q2 : sIx items.size items.size hi - sIx items.size 0 lo = items.size := eq_of_beq q.2
    exact hw ⟨by omega, by omega⟩
  show wpAny _ _ (if (((sIx items.size 0 lo : Nat) : Int) == 0 && (1 : Int) == 1 && (sIx items.size items.size hi - sIx items.size 0 lo) == items.size) = true then _ else _) _ _ s
  rw [if_neg hno, pick_gen]
  first
    | exact wpAny_bind (m := Builtin.Tuple.tupleExact _) (wpAny_newObj_type (wpAny_pure ⟨_, rfl, wpAny_pure h⟩) htake)
    | exact wpAny_bind (m := Builtin.Tuple.tupleExact _) (wpAny_newObj_type (wpAny_bind (wpAny_pure (wpAny_pure ⟨_, rfl, wpAny_pure h⟩))) htake)
    | exact wpAny_bind (wpAny_bind (m := Builtin.Tuple.tupleExact _) (wpAny_newObj_type (wpAny_pure (wpAny_pure ⟨_, rfl, wpAny_pure h⟩)) htake))
    | exact wpAny_bind (wpAny_bind (m := Builtin.Tuple.tupleExact _) (wpAny_newObj_type (wpAny_pure ⟨_, rfl, wpAny_pure h⟩) htake))
end
end HT

namespace L2
open PySem PySem.Spec PyProof.Rows

abbrev TO := St → Hp → (Option Int → Hp → Prop) → Prop
/-- a slice's part (left out, or an int) -/
def PO (X : Cx) (e : Option Expr) (t : TO) : Prop :=
  ∀ (pins : List (Addr × Obj)) (s : Shared) (σ : St) (H : Hp) (Q : Option Int → Hp → Prop), Inv X pins σ H s → t σ H Q →
    wpAny (model X.prog X.w) X.A (evalPart e X.env) (fun u s' => ∃ o H', Inv X pins σ H' s' ∧ IsPart u o ∧ Q o H') X.xe s
def tNoPart : TO := fun _ H Q => Q none H

section
variable {X : Cx} {e : Expr} {te : TE} {lo hi : Option Expr} {tl th : TO} {pos p2 : Pos}

theorem po_none : PO X none tNoPart := by
  intro pins s σ H Q I h
  rw [evalPart_none]
  exact wpAny_pure ⟨none, H, I, .none, h⟩

/-- what a slice of a value is, by values: the slice object stands at sl -/
def SlR (X : Cx) (r : V → Option Int → Option Int → Hp → VK → Prop) : Prop :=
  ∀ (pins : List (Addr × Obj)) (s : Shared) (σ : St) (H : Hp) (x : V) (v vl vu : Value) (lo hi : Option Int) (sl : Addr) (Q : VK), Inv X pins σ H s → RelV x v → s.heap.IsSliceOf sl vl vu .none → IsPart vl lo → IsPart vu hi → r x lo hi H Q →
    ∃ T id, typeLookup (.type T) "__getitem__" = pure (some (.builtin id)) ∧ s.TypeIs v T ∧ wpAny (model X.prog X.w) X.A (getItem v (.ref sl)) (EP X pins σ Q) X.xe s

/-- the items of xs[lo:hi] -/
def cutV (xs : List V) (lo hi : Option Int) : List V := (xs.drop (HT.sIx xs.length 0 lo)).take (HT.sIx xs.length xs.length hi - HT.sIx xs.length 0 lo)
theorem cutV_length (xs : List V) (lo hi : Option Int) : (cutV xs lo hi).length ≤ xs.length := by
  unfold cutV
  rw [List.length_take, List.length_drop]
  omega
/-- t[lo:hi], not the whole of it (the whole would be t itself) -/
def rSlT (K : PySem.W.Frag) : V → Option Int → Option Int → Hp → VK → Prop := fun x lo hi H Q => ∃ a xs, x = .ref a ∧ SqT K H a xs ∧
  ¬ (HT.sIx xs.length 0 lo = 0 ∧ HT.sIx xs.length xs.length hi = xs.length) ∧ ∀ p, H p = none → Q (.ref p) (upd H p (.tup (cutV xs lo hi)))
theorem sl_tup : SlR X (rSlT X.K) := by
  intro pins s σ H x v vl vu lo hi sl Q I rx hs pl pu h
  obtain ⟨a, xs, rfl, hx, hw, q⟩ := h
  cases rx
  obtain ⟨its, r, ht, hz⟩ := I.tuple hx
  have hlen : its.toArray.size = xs.length := by rw [List.size_toArray]; exact r.length.symm
  refine ⟨"tuple", _, PyProof.Rows.slot_tuple_getitem.lookup, ht.typeIs, ?_⟩
  refine HT.getItem_tuple_cut ht hs pl pu (by rw [hlen]; exact hw) ?_ (by rw [hlen]; exact hz)
  rw [hlen]
  refine ⟨.ref s.heap.objs.size, _, I.laid (t' := s.toks) (o := .tup (cutV xs lo hi)) (fun b ob q => Heap.get?_push_of_some _ q) (Nat.le_refl _) ?_, rfl, q _ (I.hok.fresh (Nat.le_refl _))⟩
  exact ⟨Nat.le_trans (cutV_length xs lo hi) hz, _, (r.drop (HT.sIx xs.length 0 lo)).take (HT.sIx xs.length xs.length hi - HT.sIx xs.length 0 lo), IsTup.new _ _⟩

/-- t + u, t not empty: u empty gives t itself -/
def rCatT (K : PySem.W.Frag) : R2 := fun x y H Q => ∃ a b xs ys, x = .ref a ∧ y = .ref b ∧ SqT K H a xs ∧ SqT K H b ys ∧ xs ≠ [] ∧ xs.length + ys.length ≤ sizeLine ∧
  (ys = [] → Q (.ref a) H) ∧ (ys ≠ [] → ∀ p, H p = none → Q (.ref p) (upd H p (.tup (xs ++ ys))))
theorem Vals.nil_iff {xs : List V} {us : List Value} (r : Vals xs us) : us = [] ↔ xs = [] := by
  cases r with
  | nil => simp
  | cons _ _ => simp
theorem op_catT : OpR X (binaryOp .Add) (rCatT X.K) := by
  intro pins s σ H x y v u Q I rx ry h
  obtain ⟨a, b, xs, ys, rfl, rfl, ha, hb, hx, hz, q1, q2⟩ := h
  cases rx
  cases ry
  obtain ⟨its, r1, p1, _⟩ := I.tuple ha
  obtain ⟨its2, r2, p2, _⟩ := I.tuple hb
  refine HT.cat_tup p1 p2 (fun z => hx (r1.nil_iff.mp z)) (fun z => ⟨.ref a, H, I, rfl, q1 (r2.nil_iff.mp z)⟩) (fun z => ?_) (by rw [← r1.length, ← r2.length]; exact hz)
  refine ⟨.ref s.heap.objs.size, _, I.laid (t' := s.toks) (o := .tup (xs ++ ys)) (fun b ob q => Heap.get?_push_of_some _ q) (Nat.le_refl _) ?_, rfl, q2 (fun w => z (r2.nil_iff.mpr w)) _ (I.hok.fresh (Nat.le_refl _))⟩
  exact ⟨by rw [List.length_append]; exact hz, _, r1.append r2, IsTup.new _ _⟩
end
end L2

namespace L2
open PySem PySem.Spec PyProof.Rows

/-- the place that an index of any sign means -/
def ixN (n : Nat) (i : Int) : Option Nat := if 0 ≤ i then (if i < n then some i.toNat else none) else if -(n : Int) ≤ i then some (i + n).toNat else none
def atI {α : Type} (xs : List α) (i : Int) : Option α := (ixN xs.length i).bind fun j => xs[j]?
theorem ixN_seq {n : Nat} {i : Int} {j : Nat} (h : ixN n i = some j) : seqIndex? i n = some j ∧ j < n ∧ -(n : Int) ≤ i ∧ i < n := by
  unfold ixN at h
  by_cases h0 : 0 ≤ i
  · rw [if_pos h0] at h
    by_cases h1 : i < n
    · rw [if_pos h1] at h
      have e : i.toNat = j := Option.some.inj h
      exact ⟨by rw [seqIndex_of h0 h1, e], by omega, by omega, h1⟩
    · rw [if_neg h1] at h; cases h
  · rw [if_neg h0] at h
    by_cases h1 : -(n : Int) ≤ i
    · rw [if_pos h1] at h
      have e : (i + n).toNat = j := Option.some.inj h
      exact ⟨by rw [seqIndex_neg (by omega) h1, e], by omega, h1, by omega⟩
    · rw [if_neg h1] at h; cases h
theorem atI_get {α : Type} {xs : List α} {i : Int} {v : α} (h : atI xs i = some v) : ∃ j, seqIndex? i xs.length = some j ∧ xs[j]? = some v ∧ j < xs.length ∧ -(xs.length : Int) ≤ i ∧ i < xs.length := by
  unfold atI at h
  cases e : ixN xs.length i with
  | none => rw [e] at h; cases h
  | some j =>
    rw [e] at h
    obtain ⟨h1, h2, h3, h4⟩ := ixN_seq e
    exact ⟨j, h1, h, h2, h3, h4⟩

/-- what stands as an index of a plain subscript -/
def PlainIx (b : Expr) : Prop := ∀ o i, subscripted b false o i = operate [o, i] (getItem o i)
/-- a subscript by values -/
def IxR (X : Cx) (r : R2) : Prop :=
  ∀ (value slice : Expr) (pins : List (Addr × Obj)) (s : Shared) (σ : St) (H : Hp) (x y : V) (v u : Value) (Q : VK), Inv X pins σ H s → RelV x v → RelV y u → r x y H Q →
    subscripted slice false v u = operate [v, u] (getItem v u) → wpAny (model X.prog X.w) X.A (subscriptTail value slice v u) (EP X pins σ Q) X.xe s
/-- a call of a builtin's method by values: the receiver, the arguments -/
def MtR (X : Cx) (id : String) (r : V → List V → Hp → VK → Prop) : Prop :=
  ∀ (pins : List (Addr × Obj)) (s : Shared) (σ : St) (H : Hp) (x : V) (xs : List V) (v : Value) (us : List Value) (Q : VK), Inv X pins σ H s → RelV x v → Vals xs us → r x xs H Q →
    wpAny (model X.prog X.w) X.A (call (.builtin id) (v :: us)) (EP X pins σ Q) X.xe s
section
variable {X : Cx} {a b : Expr} {ta tb : TE} {pos : Pos}
/-- a[b] -/
theorem pe_ix {r : R2} (hr : IxR X r) (ha : PE X a ta) (hb : PE X b tb) (hs : PlainIx b) : PE X (.Subscript a b pos) (tOp r ta tb) := by
  intro pins s σ H Q I h
  exact Subscript_ (binT ha hb I h fun v u s2 x y H2 I2 rx ry q => hr a b pins s2 σ H2 x y v u Q I2 rx ry q (hs _ _))

def rIxL (K : PySem.W.Frag) : R2 := fun x y H Q => ∃ p xs i v, x = .ref p ∧ y = .int i ∧ SqL K H p xs ∧ atI xs i = some v ∧ Q v H
def rIxT (K : PySem.W.Frag) : R2 := fun x y H Q => ∃ p xs i v, x = .ref p ∧ y = .int i ∧ SqT K H p xs ∧ atI xs i = some v ∧ Q v H
def rIxS : R2 := fun x y H Q => ∃ z i c, x = .str z ∧ y = .int i ∧ z.length ≤ sizeLine ∧ atI z.cps.toList i = some c ∧ Q (.str ⟨#[c]⟩) H
theorem ix_list : IxR X (rIxL X.K) := by
  intro value slice pins s σ H x y v u Q I rx ry h hs
  obtain ⟨p, xs, i, z, rfl, rfl, hq, he, q⟩ := h
  cases rx
  obtain ⟨t, rfl⟩ := ry
  obtain ⟨its, r, pl, hz⟩ := I.list hq
  obtain ⟨j, h1, h2, h3, h4, h5⟩ := atI_get he
  obtain ⟨w, ew, rw'⟩ := r.get h2
  have hl := r.length
  have hn := line63
  have fin : EP X pins σ Q w s := ⟨z, H, I, rw', q⟩
  by_cases h0 : 0 ≤ i
  · have hj : i.toNat = j := by
      rw [seqIndex_of h0 h5] at h1
      exact Option.some.inj h1
    exact item_listR pl.isList h0 (by omega) (by rw [hj]; simpa using ew) fin hs
  · have hj : (i + (its.toArray.size : Int)).toNat = j := by
      rw [seqIndex_neg (by omega) h4] at h1
      rw [List.size_toArray, ← hl]
      exact Option.some.inj h1
    exact subscriptTail_builtinR (x := w) pl.isList.typeIs slot_list_getitem.lookup
      (wpAny_getItem_list_neg (Q := fun r s' => r = w ∧ EP X pins σ Q r s') pl.isList (by omega) (by rw [List.size_toArray] <;> omega) (by omega) (by rw [hj]; simpa using ew) ⟨rfl, fin⟩) hs
theorem ix_tup : IxR X (rIxT X.K) := by
  intro value slice pins s σ H x y v u Q I rx ry h hs
  obtain ⟨p, xs, i, z, rfl, rfl, hq, he, q⟩ := h
  cases rx
  obtain ⟨t, rfl⟩ := ry
  obtain ⟨its, r, pl, hz⟩ := I.tuple hq
  obtain ⟨j, h1, h2, h3, h4, h5⟩ := atI_get he
  obtain ⟨w, ew, rw'⟩ := r.get h2
  have hl := r.length
  have hn := line63
  have fin : EP X pins σ Q w s := ⟨z, H, I, rw', q⟩
  exact subscriptTail_builtinR (x := w) pl.typeIs slot_tuple_getitem.lookup
    (getItem_tuple (j := j) (Q := fun r s' => r = w ∧ EP X pins σ Q r s') pl (by omega) (by omega) (by rw [List.size_toArray, ← hl]; exact h1) (by simpa using ew) ⟨rfl, fin⟩) hs
theorem ix_str : IxR X rIxS := by
  intro value slice pins s σ H x y v u Q I rx ry h hs
  obtain ⟨z, i, c, rfl, rfl, hz, he, q⟩ := h
  obtain ⟨t, rfl⟩ := rx
  obtain ⟨t', rfl⟩ := ry
  obtain ⟨j, h1, h2, h3, h4, h5⟩ := atI_get he
  have hl : z.cps.toList.length = z.length := by simp [Str.length]
  rw [hl] at h1 h4 h5
  have hn := line63
  exact tail_any (typeIs_str s z t) slot_str_getitem.lookup (getItem_str (c := c) (by
    have e1 : decide (i < -(2 ^ 63 : Int)) = false := decide_eq_false (by omega)
    have e2 : decide (i ≥ 2 ^ 63) = false := decide_eq_false (by omega)
    rw [e1, e2, Bool.or_false]) (by rw [h1]; simpa using h2) ⟨.str ⟨#[c]⟩, H, I.tok _, ⟨_, rfl⟩, q⟩) hs

theorem slice_bounds (lo hi : Option Int) (n : Nat) : (sliceBounds lo hi none n).1 = ((HT.sIx n 0 lo : Nat) : Int) ∧ (sliceBounds lo hi none n).2.1 = ((HT.sIx n n hi : Nat) : Int) ∧ (sliceBounds lo hi none n).2.2 = 1 := by
  refine ⟨?_, ?_, rfl⟩
  · cases lo with
    | none => simp [sliceBounds, HT.sIx]
    | some i =>
      simp only [sliceBounds, HT.sIx, Option.getD_none, show (1 : Int) > 0 by decide, if_true]
      by_cases h : i < 0
      · simp only [h, if_true] <;> omega
      · simp only [h, if_false] <;> omega
  · cases hi with
    | none => simp [sliceBounds, HT.sIx]
    | some i =>
      simp only [sliceBounds, HT.sIx, Option.getD_none, show (1 : Int) > 0 by decide, if_true]
      by_cases h : i < 0
      · simp only [h, if_true] <;> omega
      · simp only [h, if_false] <;> omega
theorem slicePick_cut (its : List Value) (lo hi : Option Int) : slicePick its.toArray lo hi none = ((its.drop (HT.sIx its.length 0 lo)).take (HT.sIx its.length its.length hi - HT.sIx its.length 0 lo)).toArray := by
  obtain ⟨h1, h2, h3⟩ := slice_bounds lo hi its.toArray.size
  unfold slicePick
  rw [h1, h2, h3]
  simp only [sliceRange_one, pick_run, List.size_toArray] <;> rfl
/-- xs[lo:hi] of a list: a new list -/
def rSlL (K : PySem.W.Frag) : V → Option Int → Option Int → Hp → VK → Prop := fun x lo hi H Q => ∃ a xs, x = .ref a ∧ SqL K H a xs ∧ ∀ p, H p = none → Q (.ref p) (upd H p (.lst (cutV xs lo hi)))
theorem sl_list : SlR X (rSlL X.K) := by
  intro pins s σ H x v vl vu lo hi sl Q I rx hs pl pu h
  obtain ⟨a, xs, rfl, hx, q⟩ := h
  cases rx
  obtain ⟨its, r, ht, hz⟩ := I.list hx
  have hlen := r.length
  refine ⟨"list", _, slot_list_getitem.lookup, ht.isList.typeIs, ?_⟩
  refine wpAny_getItem_list_slice ht.isList hs pl pu .none (by simp) ?_ (by rw [List.size_toArray] <;> omega)
  rw [slicePick_cut, ← hlen]
  refine ⟨.ref s.heap.objs.size, _, I.laid (t' := s.toks) (o := .lst (cutV xs lo hi)) (fun b ob q => Heap.get?_push_of_some _ q) (Nat.le_refl _) ?_, rfl, q _ (I.hok.fresh (Nat.le_refl _))⟩
  exact ⟨Nat.le_trans (cutV_length xs lo hi) hz, _, 0, (r.drop (HT.sIx xs.length 0 lo)).take (HT.sIx xs.length xs.length hi - HT.sIx xs.length 0 lo), Heap.get?_push_size _ rfl⟩

def flatV : V → Bool
  | .non => true
  | .bl _ => true
  | .int _ => true
  | .str _ => true
  | _ => false
/-- == of flat values -/
def eqV : V → V → Bool
  | .non, .non => true
  | .bl a, .bl b => a == b
  | .bl a, .int b => (if a then 1 else 0) == b
  | .int a, .bl b => a == (if b then 1 else 0)
  | .int a, .int b => a == b
  | .str a, .str b => a == b
  | _, _ => false
theorem eqAt_V {A : Around} {s : Shared} {y x : V} {u v : Value} (ry : RelV y u) (rx : RelV x v) (fy : flatV y = true) (fx : flatV x = true) : SeqAt.EqAt A s u v (eqV y x) := by
  cases y with
  | non =>
    cases ry
    cases x with
    | non => cases rx; exact SeqAt.EqAt.same _
    | bl b => cases rx; exact SeqAt.EqAt.none_bool b
    | int b => obtain ⟨t, rfl⟩ := rx; exact SeqAt.EqAt.none_int b t
    | str b => obtain ⟨t, rfl⟩ := rx; exact SeqAt.EqAt.none_str b t
    | _ => exact absurd (show false = true from fx) Bool.false_ne_true
  | bl a =>
    cases ry
    cases x with
    | non => cases rx; exact SeqAt.EqAt.bool_none a
    | bl b => cases rx; exact SeqAt.EqAt.bool_bool a b
    | int b => obtain ⟨t, rfl⟩ := rx; exact SeqAt.EqAt.bool_int a b t
    | str b => obtain ⟨t, rfl⟩ := rx; exact SeqAt.EqAt.bool_str a b t
    | _ => exact absurd (show false = true from fx) Bool.false_ne_true
  | int a =>
    obtain ⟨t', rfl⟩ := ry
    cases x with
    | non => cases rx; exact SeqAt.EqAt.int_none a t'
    | bl b => cases rx; exact SeqAt.EqAt.int_bool a t' b
    | int b => obtain ⟨t, rfl⟩ := rx; exact SeqAt.EqAt.int_int a t' b t
    | str b => obtain ⟨t, rfl⟩ := rx; exact SeqAt.EqAt.int_str a t' b t
    | _ => exact absurd (show false = true from fx) Bool.false_ne_true
  | str a =>
    obtain ⟨t', rfl⟩ := ry
    cases x with
    | non => cases rx; exact SeqAt.EqAt.str_none a t'
    | bl b => cases rx; exact SeqAt.EqAt.str_bool a t' b
    | int b => obtain ⟨t, rfl⟩ := rx; exact SeqAt.EqAt.str_int a t' b t
    | str b => obtain ⟨t, rfl⟩ := rx; exact SeqAt.EqAt.str_str a t' b t
    | _ => exact absurd (show false = true from fx) Bool.false_ne_true
  | _ => exact absurd (show false = true from fy) Bool.false_ne_true
/-- the items' answers, read off the values (a value's own answer does not lean on its token) -/
def eqU (x : V) (u : Value) : Bool := match u with
  | .none => eqV .non x
  | .bool b => eqV (.bl b) x
  | .int i _ => eqV (.int i) x
  | .str z _ => eqV (.str z) x
  | _ => false
theorem eqU_of {x y : V} {u : Value} (r : RelV y u) (f : flatV y = true) : eqU x u = eqV y x := by
  cases y with
  | non => cases r; rfl
  | bl b => cases r; rfl
  | int i => obtain ⟨t, rfl⟩ := r; rfl
  | str z => obtain ⟨t, rfl⟩ := r; rfl
  | _ => exact absurd (show false = true from f) Bool.false_ne_true
theorem any_eqU {x : V} : ∀ {xs : List V} {us : List Value}, Vals xs us → xs.all flatV = true → us.any (eqU x) = xs.any fun y => eqV y x
  | _, _, .nil, _ => rfl
  | y :: xs, u :: us, .cons r t, f => by
    rw [List.all_cons, Bool.and_eq_true] at f
    rw [List.any_cons, List.any_cons, eqU_of r f.1, any_eqU t f.2]
theorem mem_eqAt {A : Around} {s : Shared} {x : V} {v : Value} (rx : RelV x v) (fx : flatV x = true) : ∀ {xs : List V} {us : List Value}, Vals xs us → xs.all flatV = true → ∀ u ∈ us, SeqAt.EqAt A s u v (eqU x u)
  | _, _, .nil, _ => fun u hu => by cases hu
  | y :: xs, u :: us, .cons r t, f => fun u' hu => by
    rw [List.all_cons, Bool.and_eq_true] at f
    rcases List.mem_cons.mp hu with rfl | hu
    · rw [eqU_of r f.1]; exact eqAt_V r rx f.1 fx
    · exact mem_eqAt rx fx t f.2 u' hu
def inV (x : V) (xs : List V) : Bool := xs.any fun y => eqV y x
/-- x in a list or tuple of flat items -/
def rIn (K : PySem.W.Frag) (neg : Bool) : R2 := fun x y H Q => ∃ p xs, y = .ref p ∧ (SqL K H p xs ∨ SqT K H p xs) ∧ flatV x = true ∧ xs.all flatV = true ∧ Q (.bl (if neg then !inV x xs else inV x xs)) H
theorem op_in_seq : OpR X (compareOp .In) (rIn X.K false) := by
  intro pins s σ H x y v u Q I rx ry h
  obtain ⟨p, xs, rfl, hq, fx, fs, q⟩ := h
  cases ry
  rcases hq with hq | hq
  · obtain ⟨its, r, pl, hz⟩ := I.list hq
    refine SeqAt.in_listAt (eqU x) pl.isList (fun w hw => mem_eqAt rx fx r fs w (by simpa using hw)) ⟨.bl _, H, I, rfl, ?_⟩
    rw [show its.toArray.any (eqU x) = its.any (eqU x) by simp, any_eqU r fs]
    exact q
  · obtain ⟨its, r, pl, hz⟩ := I.tuple hq
    refine SeqAt.in_tupleAt (eqU x) pl (fun w hw => mem_eqAt rx fx r fs w (by simpa using hw)) ⟨.bl _, H, I, rfl, ?_⟩
    rw [show its.toArray.any (eqU x) = its.any (eqU x) by simp, any_eqU r fs]
    exact q
theorem op_notIn_seq : OpR X (compareOp .NotIn) (rIn X.K true) := by
  intro pins s σ H x y v u Q I rx ry h
  obtain ⟨p, xs, rfl, hq, fx, fs, q⟩ := h
  cases ry
  rcases hq with hq | hq
  · obtain ⟨its, r, pl, hz⟩ := I.list hq
    refine SeqAt.notIn_listAt (eqU x) pl.isList (fun w hw => mem_eqAt rx fx r fs w (by simpa using hw)) ⟨.bl _, H, I, rfl, ?_⟩
    rw [show its.toArray.any (eqU x) = its.any (eqU x) by simp, any_eqU r fs]
    exact q
  · obtain ⟨its, r, pl, hz⟩ := I.tuple hq
    refine SeqAt.notIn_tupleAt (eqU x) pl (fun w hw => mem_eqAt rx fx r fs w (by simpa using hw)) ⟨.bl _, H, I, rfl, ?_⟩
    rw [show its.toArray.any (eqU x) = its.any (eqU x) by simp, any_eqU r fs]
    exact q

theorem call_len_seq : CallR X (.builtin "len") (fun xs H Q => ∃ p ys, xs = [.ref p] ∧ (SqL X.K H p ys ∨ SqT X.K H p ys) ∧ Q (.int ys.length) H) := by
  intro pins s σ H xs us Q I r h
  obtain ⟨p, ys, rfl, hq, q⟩ := h
  obtain ⟨u, rfl, rx⟩ := vals1 r
  cases rx
  have hn := line63
  rcases hq with hq | hq
  · obtain ⟨its, r', pl, hz⟩ := I.list hq
    have hlen := r'.length
    exact Calls.call_len_list pl.isList (by simp only [List.size_toArray] <;> omega) ⟨.int ys.length, H, I.tok _, ⟨s.toks + 1, by rw [List.size_toArray, hlen]⟩, q⟩
  · obtain ⟨its, r', pl, hz⟩ := I.tuple hq
    have hlen := r'.length
    exact len_tuple pl (by simp only [List.size_toArray] <;> omega) ⟨.int ys.length, H, I.tok _, ⟨s.toks + 1, by rw [List.size_toArray, hlen]⟩, q⟩
theorem call_len_str : CallR X (.builtin "len") (fun xs H Q => ∃ z, xs = [.str z] ∧ z.length ≤ sizeLine ∧ Q (.int z.length) H) := by
  intro pins s σ H xs us Q I r h
  obtain ⟨z, rfl, hz, q⟩ := h
  obtain ⟨u, rfl, t, rfl⟩ := vals1 r
  have hn := line63
  exact len_str (by omega) ⟨.int z.length, H, I.tok _, ⟨_, rfl⟩, q⟩
theorem call_list_of : CallR X (.type "list") (fun xs H Q => ∃ p ys, xs = [.ref p] ∧ (SqL X.K H p ys ∨ SqT X.K H p ys) ∧ ∀ l, H l = none → Q (.ref l) (upd H l (.lst ys))) := by
  intro pins s σ H xs us Q I r h
  obtain ⟨p, ys, rfl, hq, q⟩ := h
  obtain ⟨u, rfl, rx⟩ := vals1 r
  cases rx
  have fin : ∀ (its : List Value), Vals ys its → ys.length ≤ sizeLine → ∀ (h' : Heap) (c' : Nat), (∀ b o', s.heap.get? b = some o' → h'.get? b = some o') →
      h'.get? s.heap.objs.size = some { cls := .type "list", dict := none, data := .seq its.toArray c', slots := #[] } → EP X pins σ Q (.ref s.heap.objs.size) { s with heap := h' } := fun its r' hz h' c' kp e =>
    ⟨.ref s.heap.objs.size, _, I.laid (t' := s.toks) kp (Nat.le_refl _) (show ObjOk X.prog X.w _ h' _ (.lst ys) from ⟨hz, its, c', r', e⟩), rfl, q _ (I.hok.fresh (Nat.le_refl _))⟩
  rcases hq with hq | hq
  · obtain ⟨its, r', pl, hz⟩ := I.list hq
    have hlen := r'.length
    obtain ⟨o, ho, hc, n, hd⟩ := pl.isList
    exact call_list_seq p (.inl rfl) ho hc hd (fun h' c' kp e => fin its r' hz h' c' kp e) (by simp only [List.size_toArray] <;> omega)
  · obtain ⟨its, r', pl, hz⟩ := I.tuple hq
    have hlen := r'.length
    obtain ⟨o, ho, hc, n, hd⟩ := pl
    exact call_list_seq p (.inr rfl) ho hc hd (fun h' c' kp e => fin its r' hz h' c' kp e) (by simp only [List.size_toArray] <;> omega)
theorem call_tuple_of : CallR X (.type "tuple") (fun xs H Q => ∃ p ys, xs = [.ref p] ∧ ((SqL X.K H p ys ∧ ∀ l, H l = none → Q (.ref l) (upd H l (.tup ys))) ∨ (SqT X.K H p ys ∧ Q (.ref p) H))) := by
  intro pins s σ H xs us Q I r h
  obtain ⟨p, ys, rfl, h⟩ := h
  obtain ⟨u, rfl, rx⟩ := vals1 r
  cases rx
  rcases h with ⟨hq, q⟩ | ⟨hq, q⟩
  · obtain ⟨its, r', pl, hz⟩ := I.list hq
    have hlen := r'.length
    refine call_tuple_list pl.isList (fun h' kp => ?_) (by simp only [List.size_toArray] <;> omega)
    have I1 : Inv X pins σ H { s with heap := h' } := I.kept (t' := s.toks) kp
    have I2 : Inv X pins σ (upd H h'.objs.size (.tup ys)) { s with heap := h'.push { cls := .type "tuple", data := .seq its.toArray } } :=
      I1.laid (t' := s.toks) (fun b o e => Heap.get?_push_of_some _ e) (Nat.le_refl _) (show ObjOk X.prog X.w _ _ _ (.tup ys) from ⟨hz, its, r', IsTup.new _ _⟩)
    exact ⟨.ref h'.objs.size, _, I2, rfl, q _ (I1.hok.fresh (Nat.le_refl _))⟩
  · obtain ⟨its, r', pl, hz⟩ := I.tuple hq
    exact call_tuple_same pl ⟨.ref p, H, I, rfl, q⟩

/-- the value is of that builtin type -/
def tyV (K : PySem.W.Frag) (T : String) (x : V) (H : Hp) : Prop := match x with
  | .str _ => T = "str"
  | .int _ => T = "int"
  | .ref p => (T = "list" ∧ ∃ xs, SqL K H p xs) ∨ (T = "tuple" ∧ ∃ o, K.lookup p = some o ∧ o.cls = .type "tuple" ∧ o.dict = none) ∨
      (T = "dict" ∧ ((∃ kvs, H p = some (.dK kvs)) ∨ ∃ kvs, H p = some (.dT kvs))) ∨ (T = "set" ∧ ∃ S n, H p = some (.set S n))
  | _ => False
theorem tyV_is {pins : List (Addr × Obj)} {σ : St} {H : Hp} {s : Shared} {T : String} {x : V} {v : Value} (I : Inv X pins σ H s) (r : RelV x v) (ty : tyV X.K T x H) :
    s.TypeIs v T ∧ ∀ a, v = .ref a → ∃ ob, s.heap.get? a = some ob ∧ ob.dict = none := by
  cases x with
  | str z =>
    obtain ⟨t, rfl⟩ := r
    cases (show T = "str" from ty)
    exact ⟨typeIs_str s z t, fun _ e => nomatch e⟩
  | int i =>
    obtain ⟨t, rfl⟩ := r
    cases (show T = "int" from ty)
    exact ⟨typeIs_int s i t, fun _ e => nomatch e⟩
  | ref p =>
    cases r
    rcases ty with ⟨rfl, xs, hq⟩ | ⟨rfl, o, hk, hc, hd⟩ | ⟨rfl, hk⟩ | ⟨rfl, S, n, hk⟩
    · obtain ⟨its, _, pl, _⟩ := I.list hq
      refine ⟨pl.isList.typeIs, fun a e => ?_⟩
      cases e
      obtain ⟨o, n, e, c, hd, _⟩ := pl
      exact ⟨o, e, hd⟩
    · refine ⟨⟨o, I.kIn p o hk, hc⟩, fun a e => ?_⟩
      cases e
      exact ⟨o, I.kIn _ o hk, hd⟩
    · have z : ∃ o, s.heap.get? p = some o ∧ o.ExactDict := by
        rcases hk with ⟨kvs, hk⟩ | ⟨kvs, hk⟩
        · obtain ⟨_, _, _, _, o, _, _, e, ex, _⟩ := I.hok p _ hk
          exact ⟨o, e, ex⟩
        · obtain ⟨_, _, _, _, o, _, _, e, ex, _⟩ := I.hok p _ hk
          exact ⟨o, e, ex⟩
      obtain ⟨o, e, ex⟩ := z
      refine ⟨⟨o, e, ex.1⟩, fun a e2 => ?_⟩
      cases e2
      exact ⟨o, e, ex.2.1⟩
    · obtain ⟨o, _, _, _, e, ex, _⟩ := I.hok p _ hk
      refine ⟨⟨o, e, ex.1⟩, fun a e2 => ?_⟩
      cases e2
      exact ⟨o, e, ex.2.1⟩
  | _ => exact False.elim ty
variable {o e : Expr} {es : List Expr} {to : TE} {t : TA} {name : Str} {apos cpos : Pos} {T id : String} {r : V → List V → Hp → VK → Prop}
/- xs.append(e), list.index on a module's tuple .. are MtR facts of 06m -/
end
end L2

namespace L2
open PySem PySem.Spec PyProof.Rows

def MtM (X : Cx) (id : String) (r : V → List V → Hp → VK → Prop) : Prop :=
  ∀ (pins : List (Addr × Obj)) (s : Shared) (σ : St) (H : Hp) (x : V) (xs : List V) (v : Value) (us : List Value) (Q : VK), Inv X pins σ H s → RelV x v → Vals xs us → r x xs H Q →
    wpAny (model X.prog X.w) X.A (call (.builtin id) (v :: us)) (EP X pins σ Q) X.xe s

theorem Vals.one : ∀ {x : V} {us : List Value}, Vals [x] us → ∃ u, us = [u] ∧ RelV x u
  | _, _, .cons r .nil => ⟨_, rfl, r⟩
theorem Vals.two : ∀ {x y : V} {us : List Value}, Vals [x, y] us → ∃ u v, us = [u, v] ∧ RelV x u ∧ RelV y v
  | _, _, _, .cons r (.cons q .nil) => ⟨_, _, rfl, r, q⟩
theorem Vals.rep {xs : List V} {us : List Value} (h : Vals xs us) : ∀ k : Nat, Vals (List.replicate k xs).flatten (List.replicate k us).flatten
  | 0 => .nil
  | k + 1 => by
    rw [List.replicate_succ, List.replicate_succ, List.flatten_cons, List.flatten_cons]
    exact Vals.append h (Vals.rep h k)
theorem foldl_rep (its : List Value) : ∀ (k : Nat) (acc : List Value),
    List.foldl (fun x1 x2 => x1 ++ x2) acc.toArray (List.replicate k its.toArray) = (acc ++ (List.replicate k its).flatten).toArray
  | 0, acc => by simp
  | k + 1, acc => by
    have e : acc.toArray ++ its.toArray = (acc ++ its).toArray := by simp
    have e2 : (acc ++ its) ++ (List.replicate k its).flatten = acc ++ (List.replicate (k + 1) its).flatten := by
      rw [List.replicate_succ, List.flatten_cons, List.append_assoc]
    rw [← e2, ← foldl_rep its k (acc ++ its), ← e, List.replicate_succ, List.foldl_cons]

section
variable {X : Cx} {pins : List (Addr × Obj)} {σ : St} {H : Hp} {s : Shared} {l b : Addr} {xs ys zs : List V}

theorem Inv.lset {its its' : List Value} {n : Nat} {f : Array Value → Array Value} {t' : Nat} (I : Inv X pins σ H s) (hH : H l = some (.lst xs))
    (e : s.heap.get? l = some { cls := .type "list", data := .seq its.toArray n }) (hf : f its.toArray = its'.toArray) (hv : Vals ys its') (hz : ys.length ≤ sizeLine) :
    Inv X pins σ (upd H l (.lst ys)) { s with heap := s.heap.update l (Obj.mapSeq f), toks := t' } := by
  have q := PySem.IsL.update e f
  rw [hf] at q
  refine I.write (x := l) (e := l) (by rw [hH]; exact trivial) (.inl rfl) (fun b' u hb hu => (Heap.get?_update_other s.heap (Obj.mapSeq f) (Ne.symm hb)).trans hu) ⟨_, q⟩ ?_
  exact ⟨hz, its', _, hv, q⟩
theorem Inv.lnew {its : List Value} {t' : Nat} (I : Inv X pins σ H s) (hv : Vals ys its) (hz : ys.length ≤ sizeLine) :
    Inv X pins σ (upd H s.heap.objs.size (.lst ys)) { s with heap := s.heap.push { cls := .type "list", data := .seq its.toArray }, toks := t' } :=
  I.laid (fun _ _ q => Heap.get?_push_of_some _ q) (Nat.le_refl _) ⟨hz, its, 0, hv, Heap.get?_push_size _ rfl⟩
theorem Inv.fresh (I : Inv X pins σ H s) : H s.heap.objs.size = none := I.hok.fresh (Nat.le_refl _)
theorem Inv.lstM (I : Inv X pins σ H s) (hH : H l = some (.lst xs)) : xs.length ≤ sizeLine ∧ ∃ (its : List Value) (n : Nat), Vals xs its ∧ xs.length = its.length ∧ s.heap.get? l = some { cls := .type "list", data := .seq its.toArray n } := by
  obtain ⟨z, its, n, r, e⟩ := I.hok l _ hH
  exact ⟨z, its, n, r, r.length, e⟩

theorem notLongL {n : Nat} (h : n ≤ sizeLine) : Builtin.List.listTooLong n = false := by
  unfold Builtin.List.listTooLong
  exact decide_eq_false (by omega)
end

section
variable {X : Cx}

def rAppend : V → List V → Hp → VK → Prop := fun x vs H Q => ∃ l xs y, x = .ref l ∧ vs = [y] ∧ H l = some (.lst xs) ∧ xs.length < sizeLine ∧ Q .non (upd H l (.lst (xs ++ [y])))
theorem mt_append : MtM X "list.append" rAppend := by
  intro pins s σ H x vs v us Q I rx rv h
  obtain ⟨l, xs, y, rfl, rfl, hH, hz, q⟩ := h
  cases rx
  obtain ⟨u, rfl, ru⟩ := rv.one
  obtain ⟨z, its, n, r, hl, e⟩ := I.lstM hH
  refine call_meets F.slot_list_append ⟨_, e, rfl⟩ F.entry_list_append (F.args_list_append_2 _ _) (PySem.list_append l its.toArray n u (by rw [List.size_toArray]; omega)) ⟨e, ?_⟩
  refine ⟨.non, _, I.lset (its' := its ++ [u]) hH e (by simp) (r.append (.cons ru .nil)) ?_, rfl, q⟩
  rw [List.length_append, List.length_singleton]
  omega

def rCat : R2 := fun x y H Q => ∃ l b xs zs, x = .ref l ∧ y = .ref b ∧ H l = some (.lst xs) ∧ H b = some (.lst zs) ∧ xs.length + zs.length ≤ sizeLine ∧ ∀ p, H p = none → Q (.ref p) (upd H p (.lst (xs ++ zs)))
theorem op_cat : OpR X (binaryOp .Add) rCat := by
  intro pins s σ H x y v u Q I rx ry h
  obtain ⟨l, b, xs, zs, rfl, rfl, hH, hB, hz, q⟩ := h
  cases rx
  cases ry
  obtain ⟨z, its, n, r, hl, e⟩ := I.lstM hH
  obtain ⟨z2, its2, n2, r2, hl2, e2⟩ := I.lstM hB
  refine PySem.P.add_list e e2 ?_ (by rw [List.size_toArray, List.size_toArray]; omega)
  have ea : its.toArray ++ its2.toArray = (its ++ its2).toArray := by simp
  rw [ea]
  exact ⟨.ref _, _, I.lnew (t' := s.toks) (r.append r2) (by rw [List.length_append]; omega), rfl, q _ I.fresh⟩
/-- a list times an int (a negative one is nothing) -/
def rRep : R2 := fun x y H Q => ∃ l k xs, x = .ref l ∧ y = .int k ∧ H l = some (.lst xs) ∧ -(2 ^ 63) ≤ k ∧ k < 2 ^ 63 ∧ xs.length * k.toNat ≤ sizeLine ∧
  ∀ p, H p = none → Q (.ref p) (upd H p (.lst (List.replicate k.toNat xs).flatten))
theorem len_rep {α : Type} (xs : List α) (k : Nat) : (List.replicate k xs).flatten.length = k * xs.length := by
  induction k with
  | zero => simp
  | succ k ih => rw [List.replicate_succ, List.flatten_cons, List.length_append, ih, Nat.succ_mul, Nat.add_comm]
theorem op_rep : OpR X (binaryOp .Mult) rRep := by
  intro pins s σ H x y v u Q I rx ry h
  obtain ⟨l, k, xs, rfl, rfl, hH, h1, h2, hz, q⟩ := h
  cases rx
  obtain ⟨t, rfl⟩ := ry
  obtain ⟨z, its, n, r, hl, e⟩ := I.lstM hH
  have hlen : its.toArray.size * k.toNat ≤ sizeLine := by rw [List.size_toArray, ← hl]; exact hz
  have hcap : ¬ its.toArray.size * k.toNat > (2 ^ 63 - 1) / 8 := by
    have : (sizeLine : Nat) ≤ (2 ^ 63 - 1) / 8 := by decide
    omega
  have hfit : ¬ (!Builtin.List.listFitsIndex k) = true := by
    rw [fitsIndex_both h1 h2]
    exact Bool.false_ne_true
  have hlong : ¬ Builtin.List.listTooLong (its.toArray.size * k.toNat) = true := by
    rw [notLongL hlen]
    exact Bool.false_ne_true
  have hnew : List.foldl (fun x1 x2 => x1 ++ x2) #[] (List.replicate (if its.toArray.isEmpty = true then 0 else k.toNat) its.toArray) = (List.replicate k.toNat its).flatten.toArray := by
    have f0 : ∀ m : Nat, List.foldl (fun x1 x2 => x1 ++ x2) #[] (List.replicate m its.toArray) = (List.replicate m its).flatten.toArray := fun m => by
      have := foldl_rep its m []
      rw [List.nil_append] at this
      exact this
    rw [f0]
    cases its with
    | nil => simp
    | cons a r' => rw [if_neg (by simp)]
  refine wpAny_binaryOp_repeat_ref (T := "list") (U := "int") (by decide) ⟨_, e, rfl⟩ (fun s' => typeIs_int s' k t) noFill_list_mul F.fills_int_mul F.slot_int_rmul repeat_list F.slot_int_index.lookup
    (call_meets F.slot_int_rmul (typeIs_int s k t) F.entry_int_rmul (F.args_int_rmul_2 _ _) (int___rmul___int_list k t l its.toArray n)
      ⟨e, rfl, ⟨_, e, rfl⟩, call_meets F.slot_list_mul ⟨_, e, rfl⟩ F.entry_list_mul (F.args_list_mul_2 _ _) (AutoListH.list___mul___list_int_3 l its.toArray n k t hfit hcap hlong) ⟨e, ?_⟩⟩)
  rw [hnew]
  exact ⟨.ref _, _, I.lnew (t' := s.toks) (r.rep k.toNat) (by rw [len_rep, Nat.mul_comm]; exact hz), rfl, q _ I.fresh⟩

end

section
variable {prog : Program} {w : World} {A : Around} {E : Value → Shared → Prop} {s : Shared}
set_option maxRecDepth 100000 in
end

section
variable {X : Cx}
end
end L2

namespace Att
open PySem PySem.W PySem.Calls PyProof.Rows

theorem ints_of_wellAll {P : Params} {h : Heap} : ∀ (ns : List Int) (vs : List Value), WellAll P h vs (ns.map WData.int) → IntsAre vs ns := by
  intro ns
  induction ns with
  | nil =>
    intro vs w
    rw [List.map_nil] at w
    cases w
    exact .nil
  | cons n ns ih =>
    intro vs w
    rw [List.map_cons] at w
    cases w with
    | cons a b =>
      cases a
      exact .cons _ _ (ih _ b)

theorem script_of {l : OpenLaw} {n : Nat} (hn : l.most = some n) {P : Params} {h : Heap} {args : List WData} {vals : List Value}
    (hpre : l.row.toRowW.claim.pre args = true) (hwl : WellAll P h vals args) :
    ∃ a vs ns, vals = [Value.ref a] ∧ args = [WData.list (ns.map WData.int)] ∧ h.get? a = some { cls := .type "list", data := .seq vs.toArray } ∧ IntsAre vs ns ∧ ns.length ≤ n := by
  have hsh : WShape.hasAll [] args [.list .int] = true := (pre_splitW hpre).1
  have hc : l.pre.holds [] { args := args } = true := (pre_splitW hpre).2
  obtain ⟨d, r, rfl, h1, h2⟩ := hasAllW_cons hsh
  obtain rfl := hasAllW_nil h2
  obtain ⟨xs, rfl, h3⟩ := hasW_list h1
  obtain ⟨ns, rfl⟩ := items_int h3
  have hlen : ns.length ≤ n := by
    unfold OpenLaw.pre at hc
    have h4 : (WTm.not (.lt (.lit (.int (n : Int))) (.len (.arg 0)))).holds [] { args := [.list (ns.map .int)] } = true := by
      have h4 := (holds_andW hc).1
      rw [hn] at h4
      exact h4
    have h5 := condW_of h4 (w_not (w_lt w_lit (w_len_list (w_arg rfl))))
    rw [List.length_map] at h5
    refine Nat.le_of_not_lt fun q => ?_
    have q' : (n : Int) < ((ns.length : Nat) : Int) := by omega
    first
      | (rw [decide_eq_true q'] at h5; exact absurd h5 (by decide))
      | (simp at h5; omega)
  cases hwl with
  | cons w1 w2 =>
    cases w2
    cases w1 with
    | list ho hall => exact ⟨_, _, ns, rfl, rfl, ho, ints_of_wellAll ns _ hall, hlen⟩

theorem post_true (l : OpenLaw) (args : List WData) : l.row.toRowW.claim.post args (.bool true) args = true :=
  postW_of (r := l.row.toRowW) (X := (true == true))
    (show WShape.has [] (.bool true) .bool = true by first | rfl | decide | simp [WShape.has, WShape.arms, WShape.armsAll])
    (show (WTm.eq .res (.lit (.bool true))).value [] { args := args, res := some (.bool true), after := args } = some (.bool (true == true)) from w_eq_bool (w_res rfl) w_lit) rfl

/-- the same from a codeAny of the CALL (for a layer whose function contracts speak of calls) -/
theorem attach_call {l : OpenLaw} {n : Nat} {q : Program} {loose : List Str} {XP : (Str → Option Value) → Heap → Prop} {YP : World → Heap → Prop} {d : DefRec}
    (hn : l.most = some n) (hdf : d.params.defaults = [])
    (call : ∀ (w : World) (s₀ s₁ : Shared) (mg mb : Str → Option Value) (fa : Addr) (o : Obj) (pm cd doc : Value) (a : Addr) (vs : List Value) (ns : List Int),
      Ground q loose [] XP w s₀ mg mb s₁.heap → YP w s₁.heap →
      s₁.heap.get? fa = some o → o.data = .func (docDef d.name d.params d.body d.scope pm cd doc) → s₁.heap.CodeRec cd d.name → mg d.name = some (.ref fa) →
      s₁.heap.get? a = some { cls := .type "list", data := .seq vs.toArray } → IntsAre vs ns → ns.length ≤ n → s₁.gens = #[] →
      codeAny (model l.prog w) callerA (.call (.ref fa) ⟨[.ref a], []⟩) (fun r s' => r = .ok (.ret (.bool true)) ∧ OldK s₁.heap s'.heap ∧ s'.os = s₁.os ∧ AllBare s'.gens) s₁) :
    WalkO q loose XP YP l.row.toRowW d [] (fun f vs => PySem.call f vs) := by
  intro w s₀ s₁ mg mb G Y fa o pm cd doc dV kV ho hd hcd hD hmg hg args vals as hpre hlay hrd hwl hlo
  obtain rfl : dV = .none := Dflts.none hD hdf
  obtain rfl : kV = .none := Dflts.noKw hD
  obtain ⟨a, vs, ns, rfl, rfl, hobj, hints, hlen⟩ := script_of hn hpre hwl
  refine enter_call (codeAny_mono (call w s₀ s₁ mg mb fa o pm cd doc a vs ns G Y ho (fd_plain hd) hcd hmg hobj hints hlen hg) fun r s' hq => ?_)
  obtain ⟨rfl, h2, h3, h4⟩ := hq
  exact ⟨.inl ⟨.bool true, .bool true, [], rfl, fun _ => rfl, .bool true, post_true l _, fun _ => ⟨List.Pairwise.nil, fun _ hm => (nomatch hm)⟩⟩, h2, h3, h4⟩

section
variable {prog : Program} {w : World} {A : Around} {E : Value → Shared → Prop} {s : Shared} {K : Frag}

end
end Att

namespace L2
open PySem PySem.Spec PyProof.Rows

theorem vals_ints : ∀ {vs : List Value} {ns : List Int}, IntsAre vs ns → Vals (ns.map V.int) vs
  | _, _, .nil => .nil
  | _, _, .cons n t h => .cons ⟨t, rfl⟩ (vals_ints h)

/-- nothing is tracked but the script, known to the object (or it is an object of the module) -/
def Only (H : Hp) : Prop := ∀ b, H b = none ∨ ∃ o xs, H b = some (.frz o (.lst xs))

/-- THE HEAD: the law's promise, at the heap behind the top. F, the promise of the law's def, may use that base is part of the heap (so K.In base, base.Ns mainGlobals mg stand in Mod) -/
theorem law_call {P : Program} {w : World} {K : PySem.W.Frag} {mg mb : Str → Option Value} {CX : CXT} {k : Nat} {fa a : Addr} {fd : FuncData} {x : Str} {sp : Sp} {s₁ : Shared} {vs : List Value} {ns : List Int}
    (KX : K.In s₁.heap) (hns : s₁.heap.Ns mainGlobals mg) (hb : s₁.heap.Ns builtinsNs mb) (hbb : ∀ x : Str, x ≠ "__name__" → mb x = bootBuiltins x) (hlim : s₁.heap.NoLimit) (hg : s₁.gens = #[])
    (ha : s₁.heap.get? a = some { cls := .type "list", data := .seq vs.toArray }) (hi : IntsAre vs ns) (hl : ns.length ≤ sizeLine) (hr : Room k callerA)
    (F : ∀ base : Heap, K.In base → base.Ns mainGlobals mg → FnOk P w K mg base CX k fa fd [x] sp) (hbind : ∀ (s : Shared) (u : Value), BindsTo s fd ⟨[u], []⟩ [(x, u)])
    (hsp : ∀ H : Hp, Only H → SqL K H a (ns.map V.int) → sp [.ref a] H (fun v _ => v = .bl true) fun _ _ _ => False)
    (hCX : ∀ H e s', CX [] H s₁ (fun _ _ _ => False) e s' → False) :
    codeAny (model P w) callerA (.call (.ref fa) ⟨[.ref a], []⟩) (fun r s' => r = .ok (.ret (.bool true)) ∧ OldK s₁.heap s'.heap ∧ s'.os = s₁.os ∧ AllBare s'.gens) s₁ := by
  have rv := vals_ints hi
  have lenV := hi.length
  -- from an abstract heap in which nothing but the script may be tracked
  have core : ∀ H : Hp, Only H → SqL K H a (ns.map V.int) → HOk P w H s₁.heap → (∀ b, H b ≠ none → b = a) → (H a ≠ none → K.lookup a = none) →
      codeAny (model P w) callerA (.call (.ref fa) ⟨[.ref a], []⟩) (fun r s' => r = .ok (.ret (.bool true)) ∧ OldK s₁.heap s'.heap ∧ s'.os = s₁.os ∧ AllBare s'.gens) s₁ := by
    intro H hO hS hok hA hK
    have base_of : ∀ {b : Addr} {o : Obj}, s₁.heap.get? b = some o → H b = none → (hidT s₁.heap H).get? b = some o := fun e n => hidT_get e n
    have noA : ∀ {b : Addr} {o : Obj} {es : Array DictEntry} {ep : Nat}, s₁.heap.get? b = some o → o.data = .dict es ep → H b = none := fun {b o es ep} e d => by
      cases q : H b with
      | none => rfl
      | some u =>
        have e' : b = a := hA b (by rw [q]; simp)
        subst e'
        rw [ha] at e; cases e
        have d' : Data.seq vs.toArray _ = Data.dict es ep := d
        cases d'
    have nsK : ∀ {b : Addr} {m : Str → Option Value}, s₁.heap.Ns b m → (hidT s₁.heap H).Ns b m := fun {b m} ⟨o, es, ep, e, d, r⟩ => ⟨o, es, ep, base_of e (noA e d), d, r⟩
    have hKb : K.In (hidT s₁.heap H) := fun b o e => base_of (KX b o e) (by
      cases q : H b with
      | none => rfl
      | some u =>
        have e' : b = a := hA b (by rw [q]; simp)
        subst e'
        rw [hK (by rw [q]; simp)] at e; cases e)
    have hM : Mod K mg (hidT s₁.heap H) := ⟨hKb, nsK hns, ⟨mb, nsK hb, hbb⟩, let ⟨mc, h1, h2⟩ := hlim; ⟨mc, nsK h1, h2⟩⟩
    have e0 : Env0 P w K mg (hidT s₁.heap H) callerA [] s₁ H := ⟨rfl, hM, fun b o e => of_hidT e, Nat.le_of_eq (hidT_size _ _), trivial, fun b hb => absurd (show b ∈ ([] : List Addr) from hb) (by simp), hok, .of_eq hg⟩
    refine codeAny_mono ((F _ hKb (nsK hns)).run callerA [] s₁ H ⟨[.ref a], []⟩ [.ref a] [.ref a] _ _ hr e0 (hbind s₁ (.ref a)) (.cons rfl .nil) (hsp H hO hS)) fun r s' h => ?_
    cases r with
    | error e => exact (hCX H e s' h).elim
    | ok fl =>
      cases fl with
      | next => exact False.elim h
      | brk => exact False.elim h
      | cont => exact False.elim h
      | ret u =>
        obtain ⟨v, H', os, bare, un, hok', r', q⟩ := h
        have q' : v = .bl true := q
        subst q'
        obtain rfl : u = Value.bool true := r'
        refine ⟨rfl, OldK.of_keep fun b o e => ?_, os, bare⟩
        cases q : H b with
        | none => exact un.keep b o e q (by intro z; exact absurd (show b ∈ ([] : List Addr) from z) (by simp)) (by simp)
        | some u =>
          rcases hO b with z | ⟨ob, xs, z⟩
          · rw [q] at z; cases z
          · have z2 := un.frzs b ob _ z
            obtain ⟨e1, _⟩ := hok b _ z
            obtain ⟨e2, _⟩ := hok' b _ z2
            rw [e] at e1; cases e1
            exact e2
  cases hk : K.lookup a with
  | some o =>
    -- the script is one of the module's own objects
    have e := KX a o hk
    rw [ha] at e
    cases e
    refine core (fun _ => none) (fun _ => .inl rfl) (.inr ⟨_, vs.toArray, _, hk, rfl, rfl, rfl, by rw [List.size_toArray, lenV]; exact hl, by simpa using rv⟩) (fun b u z => by have z' : (none : Option HO) = some u := z; cases z') (fun b z => absurd rfl z) fun z => absurd rfl z
  | none =>
    refine core (fun b => if b = a then some (.frz { cls := .type "list", data := .seq vs.toArray } (.lst (ns.map V.int))) else none) (fun b => ?_) (.inl (.inr ⟨{ cls := .type "list", data := .seq vs.toArray }, if_pos rfl⟩)) (fun b u z => ?_) (fun b z => ?_) fun _ => hk
    · by_cases hb : b = a
      · exact .inr ⟨_, _, if_pos hb⟩
      · exact .inl (if_neg hb)
    · by_cases hb : b = a
      · have z' := (if_pos hb).symm.trans z
        cases z'
        subst hb
        exact ⟨ha, by rw [List.length_map]; exact hl, vs, _, rv, ha⟩
      · have z' := (if_neg hb).symm.trans z
        cases z'
    · by_cases hb : b = a
      · exact hb
      · exact absurd (if_neg hb) z
end L2

namespace L2
open PySem PySem.Spec PyProof.Rows

/-- the goal that k_head leaves (case hc), from the law's promise. F gives the function object fd (K's own) once, then the promise over every base -/
theorem walk_of {l : PySem.W.OpenLaw} {n k : Nat} {q : Program} {loose : List Str} {XP : (Str → Option Value) → Heap → Prop} {YP : World → Heap → Prop} {d : DefRec} {K : Params → PySem.W.Frag} {CX : World → CXT} {sp : World → Sp} {x : Str}
    (hn : l.most = some n) (hn2 : n ≤ sizeLine) (hdf : d.params.defaults = []) (hr : Room k callerA)
    (hY : ∀ (w : World) (h : Heap), YP w h → (K w.params).In h)
    (F : ∀ (w : World) (mg : Str → Option Value) (fa : Addr) (h : Heap), (K w.params).In h → h.Ns mainGlobals mg → mg d.name = some (.ref fa) →
      ∃ fd : FuncData, (∀ (s : Shared) (u : Value), BindsTo s fd ⟨[u], []⟩ [(x, u)]) ∧
        ∀ base : Heap, (K w.params).In base → base.Ns mainGlobals mg → FnOk l.prog w (K w.params) mg base (CX w) k fa fd [x] (sp w))
    (hsp : ∀ (w : World) (H : Hp) (a : Addr) (ns : List Int), ns.length ≤ n → Only H → SqL (K w.params) H a (ns.map V.int) → sp w [.ref a] H (fun v _ => v = .bl true) fun _ _ _ => False)
    (hCX : ∀ (w : World) (H : Hp) (s : Shared) (e : Value) (s' : Shared), CX w [] H s (fun _ _ _ => False) e s' → False) :
    PySem.W.WalkO q loose XP YP l.row.toRowW d [] (fun f vs => PySem.call f vs) := by
  refine Att.attach_call hn hdf fun w s₀ s₁ mg mb fa o pm cd doc a vs ns G Y ho hd hcd hmg hobj hints hlen hg => ?_
  have KX := hY w _ Y
  obtain ⟨fd, hb, hF⟩ := F w mg fa _ KX G.T.g hmg
  exact law_call KX G.T.g G.T.b G.T.builtins G.T.nolimit hg hobj hints (Nat.le_trans hlen hn2) hr hF hb (fun H hO hS => hsp w H a ns hlen hO hS) fun H e s' => hCX w H s₁ e s'
end L2

/- THE LAST THEOREM (shape; LID, My.* are yours):
   My.Adr: a structure of the addresses that your layer names (classes, functions); My.Txt K t: a structure (Prop) of the equations over K;
   My.txt_mk : {K} {implicit addresses ..} (e1 : nsIn K mainGlobals "law" = some (some (.ref f))) (e2 : K.lookup f = some ⟨oc, od, .func (fnOf "law" "law" params body scope dV kV doc pm an cdv ct), sl⟩) (e3 : codeIn K cdv "law" = true) .. : ∃ t, My.Txt K t

set_option maxRecDepth 100000 in
set_option maxHeartbeats 0 in
theorem PySem.Challenge.cw_LID_holds : PySem.Challenge.rw_LID.Holds := by
  w_on; o_law; k_head; (case hw => w_witness2)
  k_fill
  refine L2.walk_of (l := PySem.Challenge.rw_LID) (n := 63) (k := 40) (x := "script") (CX := fun w => ..) (sp := fun _ => My.sp_law) rfl (by decide) rfl ⟨rfl, by decide, by decide⟩ (fun w h Y => PySem.W.kIn_of Y) ?F ?S ?C
  case F =>
    intro w mg fa h KX G hmg
    have T : ∃ t, My.Txt (L2.KOf KX) t := by
      dsimp only [L2.KOf]                          -- K must stand as «<heap const> w.params» for k_is
      refine' My.txt_mk ?e1 ?e2 ?e3 ..
      (case e1 => PySem.W.k_is)                    -- in the order: a name -> its address -> its object -> its parts
      (case e2 => PySem.W.k_is)
      ..
    obtain ⟨t, T⟩ := T
    have e0 := hmg.symm.trans (PySem.W.mg_of KX G T.law)
    cases e0                                       -- fa is the law's own address
    exact ⟨_, fun s u => .of_eq rfl, fun base kb nb => My.law_fn T kb nb⟩     -- if «.of_eq rfl» comes too early: refine' ⟨_, ?b, fun base kb nb => My.law_fn T kb nb⟩; exact fun s u => .of_eq rfl
  case S => exact fun w H a ns hl hO hS => ..
  case C => exact ..
(the tactic k_is has no namespace: write k_is) -/

namespace L2
open PySem PySem.Spec PyProof.Rows

/-- the j-th statement of a class's body -/
def inClass (s : Stmt) (j : Nat) : Stmt := match s with
  | .ClassDef _ _ _ body _ _ _ _ _ _ _ => body.getD j (.Pass ⟨0, 0, 0, 0⟩)
  | _ => .Pass ⟨0, 0, 0, 0⟩
def defArgs (s : Stmt) : Arguments := match s with
  | .FunctionDef _ a _ _ _ _ _ _ _ _ => a
  | _ => { posonlyargs := [], args := [], vararg := none, kwonlyargs := [], kw_defaults := [], kwarg := none, defaults := [] }
def defBody (s : Stmt) : List Stmt := match s with
  | .FunctionDef _ _ b _ _ _ _ _ _ _ => b
  | _ => []
def defScope (s : Stmt) : Scope := match s with
  | .FunctionDef _ _ _ _ _ _ sc _ _ _ => sc
  | _ => { kind := .function, names := [], isGenerator := false, isCoroutine := false }

abbrev CX0 : CXT := fun _ _ _ _ _ _ => False

structure Fun (K : PySem.W.Frag) (x qual : Str) (st : Stmt) (f : Addr) (fd : FuncData) : Prop where
  ex : ∃ (oc : Value) (od : Option Addr) (kV doc pm : Value) (an : Option Addr) (cdv ct : Value) (osl : Array (Option Value)),
    fd = PySem.W.fnOf x qual (defArgs st) (defBody st) (defScope st) .none kV doc pm an cdv ct ∧ K.lookup f = some ⟨oc, od, .func fd, osl⟩ ∧ PySem.W.codeIn K cdv qual = true
  kp : PySem.W.keepIn K (.ref f) = true
section
variable {P : Program} {w : World} {K : PySem.W.Frag} {mg : Str → Option Value} {base : Heap}
/-- how its arguments bind (no defaults): h is «fun _ _ _ _ _ _ us hl => match us, hl with | [_, _], _ => rfl», one _ a parameter -/
theorem Fun.binds {x qual : Str} {st : Stmt} {f : Addr} {fd : FuncData} {ps : List Str} (F : Fun K x qual st f fd)
    (h : ∀ (kV doc pm : Value) (an : Option Addr) (cdv ct : Value) (us : List Value), us.length = ps.length → bindArgs (PySem.W.fnOf x qual (defArgs st) (defBody st) (defScope st) .none kV doc pm an cdv ct) ⟨us, []⟩ = pure (ps.zip us)) : Binds K fd ps [] := by
  obtain ⟨oc, od, kV, doc, pm, an, cdv, ct, osl, rfl, lk, hcd⟩ := F.ex
  exact .all (h kV doc pm an cdv ct)
theorem fun_mk {x qual : Str} {st : Stmt} {f : Addr} {oc : Value} {od an : Option Addr} {osl : Array (Option Value)} {kV doc pm cdv ct : Value} (l : K.lookup f = some ⟨oc, od, .func (PySem.W.fnOf x qual (defArgs st) (defBody st) (defScope st) .none kV doc pm an cdv ct), osl⟩)
    (c : PySem.W.codeIn K cdv qual = true) (k : PySem.W.keepIn K (.ref f) = true) : Fun K x qual st f (PySem.W.fnOf x qual (defArgs st) (defBody st) (defScope st) .none kV doc pm an cdv ct) := ⟨⟨oc, od, kV, doc, pm, an, cdv, ct, osl, rfl, l, c⟩, k⟩
end

section
variable {X : Cx}
end

theorem iteF {A B : Prop} (h : B) : if false = true then A else B := by
  rw [if_neg Bool.false_ne_true]
  exact h
theorem iteT {A B : Prop} (h : A) : if true = true then A else B := by
  rw [if_pos rfl]
  exact h
theorem ite2 {c A B : Prop} [Decidable c] (h1 : c → A) (h2 : ¬ c → B) : if c then A else B := by
  by_cases h : c
  · rw [if_pos h]
    exact h1 h
  · rw [if_neg h]
    exact h2 h

/-- all that was tracked is as it was -/
def Same (H H' : Hp) : Prop := ∀ b o, H b = some o → H' b = some o
theorem Same.refl (H : Hp) : Same H H := fun _ _ h => h
theorem Same.trans {H H1 H2 : Hp} (a : Same H H1) (b : Same H1 H2) : Same H H2 := fun c o h => b c o (a c o h)
theorem Same.free {H H' : Hp} (e : Same H H') {l : Addr} (h : H' l = Option.none) : H l = Option.none := by
  cases q : H l with
  | none => rfl
  | some o =>
    rw [e l o q] at h
    cases h

end L2

set_option maxRecDepth 100000
namespace L2
open PySem PySem.Spec PyProof.Rows

/-- the context of a comprehension's block -/
def Cx.comp (X : Cx) (N' : List Str) (scope : Scope) (cl : List (Str × Addr)) (fp : List Addr) (C : Addr) (s : Shared) (H : Hp) : Cx :=
  { prog := X.prog, w := X.w, K := X.K, mg := X.mg, base := X.base, A := X.A, N := N', s₀ := s, H₀ := H, env := compEnvC scope cl C X.env, outer := X.stack, stack := X.stack,
    ex := fp, fn := fun x => (cl.lookup x).isNone, calm := X.calm, pn := [], xe := fun _ _ => False }

/-- the block's slots at its entry: the captured ones by their outer slots -/
def capt (srcs : List (Option Nat)) (σ : St) : St := srcs.map fun o => o.bind fun j => (σ[j]?).join

structure CompSc (X : Cx) (N' : List Str) (srcs : List (Option Nat)) (scope : Scope) (cl : List (Str × Addr)) : Prop where
  clos : closureFor scope X.env = pure cl
  nocell : ∀ y ∈ scope.names, y.2 ≠ .cell
  kind : scope.kind = .function
  names : ∀ y ∈ scope.names, y.2 = .local → scope.names.lookup y.1 = some .local
  sub : ∀ x c, cl.lookup x = some c → X.env.cells.lookup x = some c
  has : ∀ x, ((relabel scope X.env).names.lookup x = some .cell ∨ (relabel scope X.env).names.lookup x = some .free) → ∃ c, cl.lookup x = some c
  len : srcs.length = N'.length
  src : ∀ (k j : Nat) (x : Str), N'[k]? = some x → srcs[k]? = some (some j) → X.N[j]? = some x ∧ (X.env.scope.names.lookup x = some .cell ∨ X.env.scope.names.lookup x = some .free) ∧
    ((relabel scope X.env).names.lookup x = some .cell ∨ (relabel scope X.env).names.lookup x = some .free)

/-- the tests of a clause -/
def PIfs (X : Cx) (ifs : List Expr) (t : TT) : Prop :=
  ∀ (pins : List (Addr × Obj)) (s : Shared) (σ : St) (H : Hp) (Q : Bool → Hp → Prop), Inv X pins σ H s → t σ H Q →
    wpAny (model X.prog X.w) X.A (forIn ifs true fun c r => if r = true then do let ok ← isTrue c X.env (eval c X.env); pure (ForInStep.yield ok) else pure (ForInStep.yield r)) (TP X pins σ Q) X.xe s
def tYes : TT := fun _ H Q => Q true H
theorem pifs_nil {X : Cx} : PIfs X [] tYes := fun _ _ _ H _ I h => wpAny_tests_nil ⟨H, I, h⟩
theorem pifs_one {X : Cx} {c : Expr} {t : TT} (h : PT X c t) : PIfs X [c] t := fun pins s σ H Q I q => wpAny_tests_one (h pins s σ H Q I q)

/-- what is wanted of the comprehension: the new list at D, an invariant W by turn and measure -/
def tComp (srcs : List (Option Nat)) (wi : TI) (g : TG) (tc : TT) (te : TE) : TE := fun σ H Q => wi σ H fun J H1 => ∀ D, H1 D = none →
  ∃ W : Nat → Nat → St → Hp → Prop, (∃ m, W 0 m (capt srcs σ) (upd H1 D (.lst []))) ∧ ∀ i m σ' H', W i m σ' H' →
    (J.stop i H' ∧ Q (.ref D) H') ∨ (J.go i H' ∧ ∃ N : St → Hp → Prop, (∀ σ2 H2, N σ2 H2 → ∃ m', m' < m ∧ W (i + 1) m' σ2 H2) ∧ ∀ x H2, J.yld i H' x H2 → g x σ' H2 fun σ3 H3 => tc σ3 H3 fun b H4 => if b = true then
        te σ3 H4 fun v H5 => ∃ ys, H5 D = some (.lst ys) ∧ ys.length < sizeLine ∧ N σ3 (upd H5 D (.lst (ys ++ [v])))
      else N σ3 H4)

section
variable {g : TG} {tc : TT} {te : TE} {D : Addr} {R : Hp → Prop} {σ : St} {H : Hp}
end

theorem noxW {α : Type} {t : Sem α} {Q : α → Shared → Prop} {M : Model} {A : Around} {E : Value → Shared → Prop} {s : Shared} (h : wpAny M A t Q (fun _ _ => False) s) : wpAny M A t Q E s :=
  wpAny_mono h (fun _ _ q => q) fun _ _ f => f.elim

section
variable {prog : Program} {w : World} {A : Around} {E : Value → Shared → Prop} {R : Result → Shared → Prop} {s : Shared}
/-- the loop, with the step ahead of the store -/
theorem compLoop_any {elt target iter : Expr} {ifs : List Expr} {scope : Scope} {pos : Pos} {it acc : Value} {env : Env} (I : Nat → Shared → Prop)
    (turn : ∀ n s, I n s → wpAny (model prog w) A (pyNext it) (fun r s₁ => match r with
      | none => R (.ok .next) s₁
      | some v => wpAny (model prog w) A (letOwnedTupleGo target it v) (fun _ s₀ => wpAny (model prog w) A (assign target env v) (fun _ s₂ =>
          wpAny (model prog w) A (forIn ifs true fun c r => if r = true then do let ok ← isTrue c env (eval c env); pure (ForInStep.yield ok) else pure (ForInStep.yield r)) (fun ok s₃ =>
            if ok = true then wpAny (model prog w) A (eval elt env) (fun x s₄ =>
              wpAny (model prog w) A (call (.builtin "list.append") [acc, x]) (fun _ s₅ => ∃ m, m < n ∧ I m s₅) (fun _ _ => False) s₄) (fun _ _ => False) s₃
            else ∃ m, m < n ∧ I m s₃) (fun _ _ => False) s₂) (fun _ _ => False) s₀) (fun _ _ => False) s₁) (fun _ _ => False) s)
    (n : Nat) (h : I n s) :
    codeAny (model prog w) A (.compLoop (.ListComp elt [⟨target, iter, ifs, 0⟩] scope pos) 0 it acc env) R s := by
  refine codeAny_loop rfl I (fun n s hI => ?_) n h
  show wpAny _ A ((compTurn (.ListComp elt [⟨target, iter, ifs, 0⟩] scope pos) 0 it acc env).onRaise (fun x => do noteFrame x env; theTreesLotGoes x)) _ _ s
  refine wpAny_noted (noxW ?_)
  rw [compTurn_list]
  refine wpAny_bind (wpAny_standAt (wpAny_bind (wpAny_mono (turn n s hI) (fun r s₁ h₁ => ?_) fun _ _ h' => h')))
  cases r with
  | none => exact wpAny_pure h₁
  | some v =>
    refine wpAny_bind (wpAny_mono h₁ (fun _ s₀ h₀ => ?_) fun _ _ h' => h')
    refine wpAny_bind (wpAny_mono h₀ (fun _ s₂ h₂ => wpAny_bind (wpAny_mono h₂ (fun ok s₃ h₃ => ?_) fun _ _ h' => h')) fun _ _ h' => h')
    cases ok with
    | false => exact wpAny_pure ⟨rfl, h₃⟩
    | true =>
      exact wpAny_bind (wpAny_bind (wpAny_mono h₃ (fun x s₄ h₄ => wpAny_bind (wpAny_mono h₄ (fun _ s₅ h₅ => wpAny_pure (wpAny_pure ⟨rfl, h₅⟩)) fun _ _ h' => h')) fun _ _ h' => h'))
end

section
variable {X : Cx} {elt tg iter : Expr} {ifs : List Expr} {scope : Scope} {pos : Pos} {N' : List Str} {srcs : List (Option Nat)} {cl : List (Str × Addr)} {wi : TI} {g : TG} {tc : TT} {te : TE}

/-- the block's invariant at its entry -/
theorem comp_start {pins : List (Addr × Obj)} {σ : St} {H : Hp} {s : Shared} {fp : List Addr} {C D : Addr} {h₁ : Heap} {tk : Nat} (S : CompSc X N' srcs scope cl) (I : Inv X pins σ H s) (f : ∀ b ∈ fp, FpOk X pins H b) (fo : ∀ b ∈ fp, b < s.heap.objs.size)
    (hD : s.heap.objs.size ≤ D) (hC : s.heap.objs.size ≤ C) (hDC : C ≠ D) (hns : ∃ m, h₁.Ns C m) (old : ∀ b o, s.heap.get? b = some o → h₁.get? b = some o) (hacc : ∃ n, h₁.get? D = some { cls := .type "list", data := .seq ([] : List Value).toArray n }) :
    Inv (X.comp N' scope cl fp C s H) [] (capt srcs σ) (upd H D (.lst [])) { s with heap := h₁, toks := tk } := by
  have hfD := I.hok.fresh hD
  have ok : (X.comp N' scope cl fp C s H).Ok := by
    refine ⟨I.ok.mod, S.kind, I.ok.glob, I.ok.blt, hC, fun x y c a b => I.ok.inj x y c (S.sub x c a) (S.sub y c b), S.has, fun x c hf hl => ?_, I.ok.hd, I.ok.frames, .inl rfl, fun b hb => ⟨?_, fun x c hl => ?_⟩, I.bs, Nat.le_trans I.ok.bsz I.sz, fun b o e hb => ?_, fun b hb hfs => ?_, I.stack, I.stkFree⟩
    · have hl' : cl.lookup x = some c := hl
      have hf' : (cl.lookup x).isNone = true := hf
      rw [hl'] at hf'
      cases hf'
    · exact Nat.ne_of_lt (Nat.lt_of_lt_of_le (fo b hb) hC)
    · exact (f b hb).2.2.2.2.1 x c (S.sub x c hl)
    · rcases (f b hb).2.2.2.1 with z | z
      · exact I.ok.noex b o e z
      · exact absurd (Nat.lt_of_lt_of_le (Heap.lt_size e) (Nat.le_trans I.ok.bsz z)) (Nat.lt_irrefl _)
    · rcases List.mem_cons.mp (I.stkSub b hfs) with z | z
      · exact (f b hb).2.1 z
      · exact (f b hb).2.2.1 z
  obtain ⟨m0, hns⟩ := hns
  obtain ⟨nn, hacc⟩ := hacc
  refine ⟨ok, rfl, I.bare, Un.laid old hD hfD, ⟨m0, hns, fun k x v e1 e2 e3 => ?_⟩, fun x c hl => ?_, ?_, fun x c hl => ?_, fun p hp => absurd (show p ∈ ([] : List (Addr × Obj)) from hp) (by simp), I.hok.laid old hD ⟨Nat.zero_le _, [], nn, .nil, hacc⟩, ?_⟩
  · -- the captured names
    have e1 : N'[k]? = some x := e1
    have e2 : (srcs.map fun o => o.bind fun j => (σ[j]?).join)[k]? = some (some v) := e2
    rw [List.getElem?_map] at e2
    cases hk : srcs[k]? with
    | none => rw [hk] at e2; cases e2
    | some o =>
      rw [hk] at e2
      cases o with
      | none => cases e2
      | some j =>
        have e2' : (σ[j]?).join = some v := Option.some.inj e2
        have e3' : σ[j]? = some (some v) := by
          cases hj : σ[j]? with
          | none => rw [hj] at e2'; cases e2'
          | some y => rw [hj] at e2'; exact congrArg some e2'
        obtain ⟨a1, a2, a3⟩ := S.src k j x e1 hk
        obtain ⟨m, hn, hl⟩ := I.loc
        obtain ⟨u, r, l⟩ := hl j x v a1 e3' (a2.elim (fun z => .inr (.inl z)) fun z => .inr (.inr z))
        refine ⟨u, r, .inr ⟨a3, ?_⟩⟩
        obtain ⟨c, hc⟩ := S.has x a3
        refine ⟨c, hc, ?_⟩
        rcases l with ⟨z, _⟩ | ⟨_, c', hc', o, ho, hd⟩
        · have z' : X.env.scope.names.lookup x = some .local := z
          rcases a2 with q | q <;> rw [q] at z' <;> cases z'
        · have e := S.sub x c hc
          rw [hc'] at e
          cases e
          exact ⟨o, old _ o ho, hd⟩
  · obtain ⟨v, o, ho, hd⟩ := I.cell x c (S.sub x c hl)
    exact ⟨v, o, old _ o ho, hd⟩
  · show upd H D (.lst []) C = none
    rw [upd_ne hDC]
    exact I.hok.fresh hC
  · have hx := S.sub x c hl
    obtain ⟨v, o, ho, hd⟩ := I.cell x c hx
    rw [upd_ne (Nat.ne_of_lt (Nat.lt_of_lt_of_le (Heap.lt_size ho) hD))]
    exact I.freeC x c hx
  · show (capt srcs σ).length = N'.length
    unfold capt
    rw [List.length_map, S.len]

/-- the whole, whatever is done with the list behind the loop -/
theorem comp_core {pins : List (Addr × Obj)} {s : Shared} {σ : St} {H : Hp} {Q : VK} {use : Option (Value → Sem Unit)} {Q2 : Value → Shared → Prop} (hc : X.calm = true) (S : CompSc X N' srcs scope cl) (hi : PI X tg iter wi)
    (hg : ∀ fp C s H, PG (X.comp N' scope cl fp C s H) tg g) (ht : ∀ fp C s H, PIfs (X.comp N' scope cl fp C s H) ifs tc) (he : ∀ fp C s H, PE (X.comp N' scope cl fp C s H) elt te)
    (I : Inv X pins σ H s) (h : tComp srcs wi g tc te σ H Q)
    (fin : ∀ (D C : Addr) (H' : Hp) (s' : Shared), Inv X pins σ H' s' → (∃ m, s'.heap.Ns C m) → FpOk X pins H' C → Q (.ref D) H' → compPost (model X.prog X.w) X.A X.xe use Q2 (.ref D) C (.ok .next) s')
    (hs : ∀ x, foldedSetIterable iter X.env x = pure x) :
    wpAny (model X.prog X.w) X.A (comprehension (.ListComp elt [⟨tg, iter, ifs, 0⟩] scope pos) scope X.env (firstIterPos [⟨tg, iter, ifs, 0⟩] pos) (newList []) false (eval iter X.env) use) Q2 X.xe s := by
  refine wpAny_comprehension_free rfl hs S.clos S.kind S.names (thn (hi pins s σ H _ I h) fun v s1 h1 => thn h1 fun itv s2 h2 => ?_)
  obtain ⟨it, fp, tn, J, H2, e, I2, T, st2, f2, q2⟩ := h2
  subst e
  refine wpAny_newObj_type (wpAny_newFunctionEnv S.nocell (by intro y hy; simp at hy) (fun h₁ hns₁ hsb₁ => ?_) S.kind)
  dsimp only at hns₁ hsb₁ ⊢
  generalize hH2 : s2.heap.push { cls := .type "list", dict := none, data := .seq ([] : List Value).toArray } = G2 at hns₁ hsb₁ ⊢
  have hCe : G2.objs.size = s2.heap.objs.size + 1 := by rw [← hH2, Heap.size_push]
  have hDC : G2.objs.size ≠ s2.heap.objs.size := by rw [hCe]; exact Nat.ne_of_gt (Nat.lt_succ_self _)
  have hCle : s2.heap.objs.size ≤ G2.objs.size := by rw [hCe]; exact Nat.le_succ _
  have old : ∀ b o, s2.heap.get? b = some o → h₁.get? b = some o := fun b o e =>
    hsb₁.extBut b o (Nat.ne_of_lt (Nat.lt_of_lt_of_le (Heap.lt_size e) hCle)) (Heap.get?_push_of_some _ (hH2 ▸ Heap.get?_push_of_some _ e))
  have hacc : ∃ n, h₁.get? s2.heap.objs.size = some { cls := .type "list", data := .seq ([] : List Value).toArray n } := ⟨_, hsb₁.extBut _ _ (Ne.symm hDC) (Heap.get?_push_of_some _ (hH2 ▸ Heap.get?_push_size _ rfl))⟩
  have fo : ∀ b ∈ fp, b < s2.heap.objs.size := fun b hb => by
    obtain ⟨o, ho, _⟩ := T.obj _ _ st2 b hb
    exact Heap.lt_size ho
  have st3 : tn 0 h₁ := T.keep _ _ _ st2 fun b _ o e => old b o e
  obtain ⟨W, ⟨m0, w0⟩, turn⟩ := q2 s2.heap.objs.size (I2.hok.fresh (Nat.le_refl _))
  have loop : ∀ s3 : Shared, s3 = { s2 with heap := h₁, toks := s2.toks + ([] : List (Str × Value)).length } →
      codeAny (model X.prog X.w) X.A (.compLoop (.ListComp elt [⟨tg, iter, ifs, 0⟩] scope pos) 0 (.ref it) (.ref s2.heap.objs.size) (compEnvC scope cl G2.objs.size X.env))
        (compPost (model X.prog X.w) X.A X.xe use Q2 (.ref s2.heap.objs.size) G2.objs.size) s3 := by
    rintro s3 rfl
    have I3 : Inv (X.comp N' scope cl fp G2.objs.size s2 H2) [] (capt srcs σ) (upd H2 s2.heap.objs.size (.lst [])) { s2 with heap := h₁, toks := s2.toks + ([] : List (Str × Value)).length } :=
      comp_start S I2 f2 fo (Nat.le_refl _) hCle hDC ⟨_, hns₁⟩ old hacc
    have stat : ∀ {H' : Hp}, (∀ b ∈ fp, H' b = none) → ∀ b ∈ fp, FpOk (X.comp N' scope cl fp G2.objs.size s2 H2) [] H' b := fun hn b hb =>
      ⟨hn b hb, Nat.ne_of_lt (Nat.lt_of_lt_of_le (fo b hb) hCle), (fun z => (List.mem_cons.mp (I2.stkSub b z)).elim (f2 b hb).2.1 (f2 b hb).2.2.1), .inl hb, fun x c hl => (f2 b hb).2.2.2.2.1 x c (S.sub x c hl), fun p hp => absurd (show p ∈ ([] : List (Addr × Obj)) from hp) (by simp)⟩
    refine compLoop_any (fun n s' => ∃ i σ' H', Inv (X.comp N' scope cl fp G2.objs.size s2 H2) [] σ' H' s' ∧ tn i s'.heap ∧ (∀ b ∈ fp, H' b = none) ∧ W i n σ' H') ?_ m0
      ⟨0, _, _, I3, st3, fun b hb => by rw [upd_ne (Nat.ne_of_lt (fo b hb))]; exact (f2 b hb).1, w0⟩
    rintro n s4 ⟨i, σ4, H4, I4, st4, fr4, w4⟩
    rcases turn i n σ4 H4 w4 with ⟨stop, qn⟩ | ⟨go, NN, hNN, step⟩
    · refine thn (T.done (X.comp N' scope cl fp G2.objs.size s2 H2) rfl rfl rfl hc i [] s4 σ4 H4 (fun _ _ => False) I4 (stat fr4) st4 stop) fun r s5 ⟨hr, I5⟩ => ?_
      subst hr
      obtain ⟨m5, hn5, _⟩ := id I5.loc
      have I6 : Inv X pins σ H4 s5 := I2.call' (ch := fp) I5.os I5.base I5.hok I5.bare fun b hb => ⟨(f2 b hb).2.2.2.1, (f2 b hb).2.1, (f2 b hb).2.2.2.2.1, (f2 b hb).2.2.2.2.2⟩
      exact fin _ _ H4 s5 I6 ⟨m5, hn5⟩ (I2.fpOk hCle I5.free) qn
    · refine thn (T.item (X.comp N' scope cl fp G2.objs.size s2 H2) rfl rfl rfl hc i [] s4 σ4 H4 (fun _ _ => False) I4 (stat fr4) st4 go) fun r s5 ⟨u, hr, h5⟩ => ?_
      subst hr
      refine thn h5 fun _ s6 ⟨x, H6, I6, r6, y6, st6, fr6⟩ => ?_
      have I6' := I6.pinned (stat fr6) (T.obj _ _ st6)
      refine thn (hg fp G2.objs.size s2 H2 _ s6 σ4 H6 x u _ I6' r6 (step x H6 y6)) fun _ s7 ⟨σ7, H7, I7, q7⟩ => ?_
      have again : ∀ {s9 : Shared} {H9 : Hp}, Inv (X.comp N' scope cl fp G2.objs.size s2 H2) ([] ++ pinsAt fp s6.heap) σ7 H9 s9 → NN σ7 H9 →
          ∃ m, m < n ∧ ∃ i σ' H', Inv (X.comp N' scope cl fp G2.objs.size s2 H2) [] σ' H' s9 ∧ tn i s9.heap ∧ (∀ b ∈ fp, H' b = none) ∧ W i m σ' H' := fun {s9 H9} I9 n9 => by
        obtain ⟨m', hm, w9⟩ := hNN σ7 H9 n9
        refine ⟨m', hm, i + 1, σ7, H9, I9.unpinned, T.keep _ _ _ st6 fun b hb o e => (I9.pin (b, o) (List.mem_append_right _ (List.mem_append_right _ (mem_pinsAt hb e)))).1, fun b hb => ?_, w9⟩
        obtain ⟨o, e, d⟩ := T.obj _ _ st6 b hb
        exact (I9.pin (b, o) (List.mem_append_right _ (List.mem_append_right _ (mem_pinsAt hb e)))).2.1
      refine thn (ht fp G2.objs.size s2 H2 _ s7 σ7 H7 _ I7 q7) fun b s8 ⟨H8, I8, q8⟩ => ?_
      cases b with
      | false =>
        rw [if_neg Bool.false_ne_true] at q8
        exact again I8 q8
      | true =>
        rw [if_pos rfl] at q8
        refine thn (he fp G2.objs.size s2 H2 _ s8 σ7 H8 _ I8 q8) fun y s9 ⟨v9, H9, I9, r9, ys, hD, hlen, w9⟩ => ?_
        refine thn (mt_append (X := X.comp N' scope cl fp G2.objs.size s2 H2) ([] ++ pinsAt fp s6.heap) s9 σ7 H9 (.ref s2.heap.objs.size) [v9] (.ref s2.heap.objs.size) [y] (fun _ H' => H' = upd H9 s2.heap.objs.size (.lst (ys ++ [v9]))) I9 rfl (.cons r9 .nil)
          ⟨_, ys, v9, rfl, rfl, hD, hlen, rfl⟩) fun _ s10 ⟨_, H10, I10, _, e10⟩ => ?_
        subst e10
        exact again I10 w9
  exact codeAny_compStart_list (loop _ rfl) (T.self X.A 0 _ _ _ st3 (loop _ rfl))

/-- [elt for tg in iter if ..], as a value -/
theorem pe_comp (hc : X.calm = true) (S : CompSc X N' srcs scope cl) (hi : PI X tg iter wi) (hg : ∀ fp C s H, PG (X.comp N' scope cl fp C s H) tg g)
    (ht : ∀ fp C s H, PIfs (X.comp N' scope cl fp C s H) ifs tc) (he : ∀ fp C s H, PE (X.comp N' scope cl fp C s H) elt te) (hs : ∀ x, foldedSetIterable iter X.env x = pure x := by intro _; rfl) :
    PE X (.ListComp elt [⟨tg, iter, ifs, 0⟩] scope pos) (tComp srcs wi g tc te) := by
  intro pins s σ H Q I h
  rw [eval_ListComp]
  refine comp_core (use := none) hc S hi hg ht he I h (fun D C H' s' I' ns fo q => ?_) hs
  obtain ⟨m, hn⟩ := ns
  obtain ⟨f0, f1, f2, f3, f4, f5⟩ := fo
  exact ⟨m, hn, fun h' sb => ⟨.ref D, H', I'.turned (t' := s'.toks) (fun b o hb e => (sb.2 b hb).trans e) f0 f1 f3 f4 f5, rfl, q⟩⟩

/-- x = [elt for tg in iter if ..], stored ahead of the block's end -/
theorem ps_setComp {i : Nat} {x : Str} {pos' spos : Pos} (hc : X.calm = true) (hN : X.N.Nodup) (hx : X.N[i]? = some x) (hl : X.env.scope.names.lookup x = some .local) (S : CompSc X N' srcs scope cl) (hi : PI X tg iter wi) (hg : ∀ fp C s H, PG (X.comp N' scope cl fp C s H) tg g)
    (ht : ∀ fp C s H, PIfs (X.comp N' scope cl fp C s H) ifs tc) (he : ∀ fp C s H, PE (X.comp N' scope cl fp C s H) elt te)
    (hsw : swapsWith (.ListComp elt [⟨tg, iter, ifs, 0⟩] scope pos) (some (.Name x pos')) spos.line X.env = pure true := by rfl) (hs : ∀ x, foldedSetIterable iter X.env x = pure x := by intro _; rfl) :
    PS X (.Assign [.Name x pos'] (.ListComp elt [⟨tg, iter, ifs, 0⟩] scope pos) spos) (tAsg (tComp srcs wi g tc te) (gName i)) := by
  intro pins s σ H D I h
  rw [exec_Assign_Name_used _ _ _ _ hsw]
  refine wpAny_bind (wpAny_standAt (wpAny_bind ?_))
  show wpAny _ X.A (do let _ ← comprehension (.ListComp elt [⟨tg, iter, ifs, 0⟩] scope pos) scope X.env _ (newList []) false (eval iter X.env) (some (assign (.Name x pos') X.env))) _ _ s
  refine wpAny_bind (thn (comp_core (use := some (assign (.Name x pos') X.env)) (Q := fun v H' => D.nx (σ.set i (some v)) H') (Q2 := fun _ s' => SP X pins D .next s') hc S hi hg ht he I h (fun L C H' s' I' ns fo q => ?_) hs) fun _ s' hq => wpAny_pure (wpAny_pure hq))
  obtain ⟨m, hn⟩ := ns
  obtain ⟨f0, f1, f2, f3, f4, f5⟩ := fo
  obtain ⟨oC, es, ep, hoC, hd, hr⟩ := id hn
  have I2 : Inv X (pins ++ [(C, oC)]) σ H' s' := I'.pins_of fun p hp => (List.mem_append.mp hp).elim (fun z => I'.pin p (List.mem_append_right _ z)) fun z => by
    have z' : p = (C, oC) := by simpa using z
    subst z'
    exact ⟨hoC, f0, f1, f2, fun v e => by rw [hd] at e; cases e⟩
  refine wpAny_assign_Name (store_ok (i := i) (v := .ref L) I2 hN hx (.inl hl) rfl (fun s2 I3 => ?_) (.inr hl))
  have hoC' := (I3.pin (C, oC) (List.mem_append_right _ (List.mem_append_right _ (by simp)))).1
  refine ⟨m, ⟨oC, es, ep, hoC', hd, hr⟩, fun h' sb => ?_⟩
  exact ⟨_, H', (I3.unpinned).turned (t' := s2.toks) (fun b o hb e => (sb.2 b hb).trans e) f0 f1 f3 f4 f5, q⟩
end
end L2

set_option maxRecDepth 100000
namespace L2
open PySem PySem.Spec PyProof.Rows

def Its (x : Str) : It := ⟨fun i _ => i < x.cps.size, fun i H v H' => H' = H ∧ ∃ c, x.cps[i]? = some c ∧ v = .str ⟨#[c]⟩, fun i _ => i = x.cps.size⟩
theorem turn_str {P : Program} {w : World} {K : PySem.W.Frag} {tg : Expr} (it : Addr) (x : Str) (t : Tok) (ty : String) (hty : ty = "str_ascii_iterator" ∨ ty = "str_iterator") :
    Turn P w K tg (Its x) [it] it (fun i h => h.IsStrIter it ty x t i) where
  mem := by simp
  obj := fun i h st b hb => by
    have e : b = it := by simpa using hb
    subst e
    obtain ⟨o, e, c, d⟩ := st
    exact ⟨o, e, fun v z => by rw [d] at z; cases z⟩
  keep := fun i h h' st k => by
    obtain ⟨o, e, r⟩ := st
    exact ⟨o, k it (by simp) o e, r⟩
  item := by
    intro X hP hw hK hc i pins s σ H E I hf st hg
    subst hP hw hK
    obtain ⟨f0, f1, f2, f3, f4, f5⟩ := hf it (by simp)
    have W : Walks X.prog X.w X.A it [it] [it] x.cps.size (SignAt x) (fun i h => h.IsStrIter it ty x t i) := by
      rcases hty with rfl | rfl
      · exact Walks.strAscii (I.ok.hd hc) it x t
      · exact Walks.strWide (I.ok.hd hc) it x t
    refine W.item i s _ _ hg st fun v h' tk hv st' kk => ?_
    obtain ⟨c, u, hcp, rfl⟩ := hv
    have I1 : Inv X pins σ H { s with heap := h', toks := tk } := I.turned (fun b o hb e => kk b o (by simpa using hb) e) f0 f1 f3 f4 f5
    obtain ⟨o, e, cc, d⟩ := id st'
    exact ⟨_, rfl, go_of (s := { s with heap := h', toks := tk }) e cc d (by rcases hty with rfl | rfl <;> decide) ⟨.str ⟨#[c]⟩, H, I1, ⟨_, rfl⟩, ⟨rfl, c, hcp, rfl⟩, st', fun b hb => (hf b hb).1⟩⟩
  done := by
    intro X hP hw hK hc i pins s σ H E I hf st hg
    subst hP hw hK
    obtain ⟨f0, f1, f2, f3, f4, f5⟩ := hf it (by simp)
    have hg : i = x.cps.size := hg
    subst hg
    have W : Walks X.prog X.w X.A it [it] [it] x.cps.size (SignAt x) (fun i h => h.IsStrIter it ty x t i) := by
      rcases hty with rfl | rfl
      · exact Walks.strAscii (I.ok.hd hc) it x t
      · exact Walks.strWide (I.ok.hd hc) it x t
    exact W.done s _ _ st fun h' tk kk => ⟨rfl, I.turned (fun b o hb e => kk b o (by simpa using hb) e) f0 f1 f3 f4 f5⟩
  self := by
    intro A i s Q E st h
    rcases hty with rfl | rfl
    · exact wpAny_pyIter_striter_ascii st h
    · exact wpAny_pyIter_striter_wide st h
section
variable {X : Cx} {tg : Expr}
end

section
variable {X : Cx} {pins : List (Addr × Obj)} {σ : St} {H : Hp} {s : Shared} {h' : Heap} {ch : List Addr} {t' : Nat}
theorem Inv.turnedL (I : Inv X pins σ H s) (hf : ∀ b ∈ ch, FpOk X pins H b) (k : ∀ b o, b ∉ ch → s.heap.get? b = some o → h'.get? b = some o) : Inv X pins σ H { s with heap := h', toks := t' } := by
  have tr : ∀ b ob, H b = some ob → b ∉ ch := fun b ob e hb => by rw [(hf b hb).1] at e; cases e
  refine I.step (g' := s.gens) (d' := s.drawn) (ch := ch) (fun b hb => ⟨(hf b hb).2.2.2.1, (hf b hb).2.1, (hf b hb).2.2.2.2.1, (hf b hb).2.2.2.2.2⟩) (fun b o _ _ hb e _ => k b o hb e) (fun b o _ _ hb e _ => ⟨o.slots, k b o hb e⟩) (fun _ _ _ _ n => n) (fun b o hb e => ⟨o, k b o hb e⟩)
    (fun _ _ e => e) (fun _ _ _ e => e) (fun b ps e => ⟨#[], by rw [e]; simp⟩) (fun m hm => ?_) (fun b ob e => ?_) I.bare
  · obtain ⟨o, es, ep, ho, r⟩ := hm
    exact ⟨o, es, ep, k _ o (fun z => (hf _ z).2.1 rfl) ho, r⟩
  · refine (I.hok b ob e).stay (fun b' w' hc' q => k b' w' ?_ q) (fun _ q => q) fun _ _ q => q
    rcases hc' with rfl | hc'
    · exact tr _ _ e
    · exact tr _ _ hc'
theorem Inv.turnedN {T : Addr} {o : HO} (I : Inv X pins σ H s) (hf : ∀ b ∈ ch, FpOk X pins H b) (k : ∀ b o, b ∉ ch → s.heap.get? b = some o → h'.get? b = some o) (hT : s.heap.objs.size ≤ T) (new : ObjOk X.prog X.w (upd H T o) h' T o) :
    Inv X pins σ (upd H T o) { s with heap := h', toks := t' } := by
  have tr : ∀ b ob, H b = some ob → b ∉ ch := fun b ob e hb => by rw [(hf b hb).1] at e; cases e
  have hn := I.hok.fresh hT
  have nT : ∀ {b o}, s.heap.get? b = some o → b ≠ T := fun e => Nat.ne_of_lt (Nat.lt_of_lt_of_le (Heap.lt_size e) hT)
  refine I.step (g' := s.gens) (d' := s.drawn) (ch := ch) (fun b hb => ⟨(hf b hb).2.2.2.1, (hf b hb).2.1, (hf b hb).2.2.2.2.1, (hf b hb).2.2.2.2.2⟩) (fun b o _ _ hb e _ => k b o hb e) (fun b o _ _ hb e _ => ⟨o.slots, k b o hb e⟩) (fun b o _ e n => by rw [upd_ne (nT e)]; exact n) (fun b o hb e => ⟨o, k b o hb e⟩)
    (fun b zs e => by rw [upd_ne (ne_of_none e hn)]; exact e) (fun b o zs e => by rw [upd_ne (ne_of_none e hn)]; exact e) (fun b ps e => ⟨#[], by rw [upd_ne (ne_of_none e hn), e]; simp⟩) (fun m hm => ?_) (fun b ob e => ?_) I.bare
  · obtain ⟨o, es, ep, ho, r⟩ := hm
    exact ⟨o, es, ep, k _ o (fun z => (hf _ z).2.1 rfl) ho, r⟩
  · by_cases hb : b = T
    · subst hb
      rw [upd_same] at e
      cases e
      exact new
    · rw [upd_ne hb] at e
      refine (I.hok b ob e).stay (fun b' w' hc' q => k b' w' ?_ q) (fun b' q => by rw [upd_ne (ne_of_none q hn)]; exact q) fun b' zs q => by rw [upd_ne (ne_of_none q hn)]; exact q
      rcases hc' with rfl | hc'
      · exact tr _ _ e
      · exact tr _ _ hc'
end

def Itz (K : PySem.W.Frag) (l1 l2 : Addr) : It :=
  ⟨fun i H => ∃ xs ys x y, SqL K H l1 xs ∧ SqL K H l2 ys ∧ xs[i]? = some x ∧ ys[i]? = some y,
   fun i H v H' => ∃ T x y, H T = none ∧ v = .ref T ∧ (∀ xs, SqL K H l1 xs → xs[i]? = some x) ∧ (∀ ys, SqL K H l2 ys → ys[i]? = some y) ∧ H' = upd H T (.tup [x, y]),
   fun i H => ∃ xs ys, SqL K H l1 xs ∧ SqL K H l2 ys ∧ (xs.length ≤ i ∨ ys.length ≤ i)⟩
theorem turn_zip {P : Program} {w : World} {K : PySem.W.Frag} {elts : List Expr} {kt : Nat} {pt : Pos} {z TI TO i1 i2 l1 l2 : Addr} (D : ZipApart z TI TO i1 i2 l1 l2) :
    Turn P w K (.Tuple elts kt pt) (Itz K l1 l2) [z, TI, TO, i1, i2] z
      (fun i h => IsZip h z TI TO .none ∧ IsPair h TI (.ref i1) (.ref i2) ∧ (∃ a b, IsPair h TO a b) ∧ h.IsListIter i1 l1 i ∧ h.IsListIter i2 l2 i) where
  mem := by simp
  obj := fun i h st b hb => by
    obtain ⟨hz, hTI, ⟨a, c, hTO⟩, ⟨o1, e1, c1, d1⟩, ⟨o2, e2, c2, d2⟩⟩ := st
    have hb : b = z ∨ b = TI ∨ b = TO ∨ b = i1 ∨ b = i2 := by simpa using hb
    rcases hb with rfl | rfl | rfl | rfl | rfl
    · exact ⟨_, hz, fun v q => nomatch q⟩
    · exact ⟨_, hTI, fun v q => nomatch q⟩
    · exact ⟨_, hTO, fun v q => nomatch q⟩
    · exact ⟨o1, e1, fun v q => by rw [d1] at q; cases q⟩
    · exact ⟨o2, e2, fun v q => by rw [d2] at q; cases q⟩
  keep := fun i h h' st k => by
    obtain ⟨hz, hTI, ⟨a, c, hTO⟩, h1, h2⟩ := st
    exact ⟨k z (by simp) _ hz, k TI (by simp) _ hTI, ⟨a, c, k TO (by simp) _ hTO⟩, h1.at fun o e => k i1 (by simp) o e, h2.at fun o e => k i2 (by simp) o e⟩
  item := by
    intro X hP hw hK hc i pins s σ H E I hf st hg
    subst hP hw hK
    obtain ⟨xs, ys, x, y, q1, q2, hx, hy⟩ := hg
    obtain ⟨its1, r1, p1, z1⟩ := I.list q1
    obtain ⟨its2, r2, p2, z2⟩ := I.list q2
    obtain ⟨u, hu, ru⟩ := r1.get hx
    obtain ⟨v, hv, rv⟩ := r2.get hy
    obtain ⟨hz, hTI, ⟨a, c, hTO⟩, h1, h2⟩ := st
    refine wpAny_pyNext_zip_item D hz hTI hTO h1 h2 p1.isList p2.isList (x := u) (y := v) (by simpa using hu) (by simpa using hv) fun h' a1 a2 a3 a4 a5 a6 hk => ?_
    refine ⟨_, rfl, wpAny_letOwnedTupleGo_zip a1 fun h'' hz' hs' => ?_⟩
    have hT := I.hok.fresh (Nat.le_refl s.heap.objs.size)
    have up' : ∀ b o, b ∉ [z, TO, i1, i2] → s.heap.get? b = some o → h''.get? b = some o := fun b o hb e => by
      have b1 : b ≠ z := by rintro rfl; exact hb (by simp)
      have b2 : b ≠ TO := by rintro rfl; exact hb (by simp)
      have b3 : b ≠ i1 := by rintro rfl; exact hb (by simp)
      have b4 : b ≠ i2 := by rintro rfl; exact hb (by simp)
      exact hs'.extBut b o b1 (hk b o b1 b2 b3 b4 e)
    have nT : ∀ {b o}, s.heap.get? b = some o → b ≠ s.heap.objs.size := fun e => Nat.ne_of_lt (Heap.lt_size e)
    have Tnew : h''.get? s.heap.objs.size = some { cls := .type "tuple", data := .seq #[u, v] } := hs'.extBut _ _ (Ne.symm (nT hz)) a5
    have I1 : Inv X pins σ (upd H s.heap.objs.size (.tup [x, y])) { s with heap := h'' } :=
      I.turnedN (t' := s.toks) (ch := [z, TO, i1, i2]) (fun b hb => hf b (by
        have hb : b = z ∨ b = TO ∨ b = i1 ∨ b = i2 := by simpa using hb
        rcases hb with rfl | rfl | rfl | rfl <;> simp)) up' (Nat.le_refl _) ⟨by show 2 ≤ sizeLine; decide, [u, v], .cons ru (.cons rv .nil), ⟨_, Tnew, rfl, _, rfl⟩⟩
    refine ⟨.ref s.heap.objs.size, _, I1, rfl, ⟨s.heap.objs.size, x, y, hT, rfl, fun xs' h' => by rw [I.list_inj h' q1]; exact hx, fun ys' h' => by rw [I.list_inj h' q2]; exact hy, rfl⟩,
      ⟨hz', hs'.extBut _ _ D.TIz (hk _ _ D.TIz D.TITO D.TIi1 D.TIi2 hTI), ⟨_, _, hs'.extBut _ _ D.TOz a2⟩, a3.at fun o e => hs'.extBut _ o D.i1z e, a4.at fun o e => hs'.extBut _ o D.i2z e⟩, fun b hb => ?_⟩
    have q := (hf b hb).1
    rw [upd_ne ?_]
    · exact q
    · have hb : b = z ∨ b = TI ∨ b = TO ∨ b = i1 ∨ b = i2 := by simpa using hb
      rcases hb with rfl | rfl | rfl | rfl | rfl
      · exact nT hz
      · exact nT hTI
      · exact nT hTO
      · obtain ⟨_, e, _⟩ := h1; exact nT e
      · obtain ⟨_, e, _⟩ := h2; exact nT e
  done := by
    intro X hP hw hK hc i pins s σ H E I hf st hg
    subst hP hw hK
    obtain ⟨xs, ys, q1, q2, hx⟩ := hg
    obtain ⟨its1, r1, p1, z1⟩ := I.list q1
    obtain ⟨its2, r2, p2, z2⟩ := I.list q2
    have e1 := r1.length
    have e2 := r2.length
    obtain ⟨hz, hTI, ⟨a, c, hTO⟩, h1, h2⟩ := st
    have hend : its1.toArray[i]? = none ∨ its2.toArray[i]? = none := by
      rcases hx with hx | hx
      · exact .inl (by simp; omega)
      · exact .inr (by simp; omega)
    refine wpAny_pyNext_zip_end (I.ok.hd hc) D hz hTI hTO h1 h2 p1.isList p2.isList hend fun h' hk => ⟨rfl, ?_⟩
    refine I.turnedL (t' := s.toks) (ch := [z, TO, i1, i2]) (fun b hb => hf b (by
        have hb : b = z ∨ b = TO ∨ b = i1 ∨ b = i2 := by simpa using hb
        rcases hb with rfl | rfl | rfl | rfl <;> simp)) fun b o hb e => ?_
    have b1 : b ≠ z := by rintro rfl; exact hb (by simp)
    have b2 : b ≠ TO := by rintro rfl; exact hb (by simp)
    have b3 : b ≠ i1 := by rintro rfl; exact hb (by simp)
    have b4 : b ≠ i2 := by rintro rfl; exact hb (by simp)
    exact hk b o b1 b2 b3 b4 e
  self := fun A i s Q E st h => wpAny_pyIter_zip st.1 h
section
variable {X : Cx}
end

theorem range_all {bs : List Bool} : (List.range bs.length).all (fun i => bs.getD i true) = bs.all fun b => b := by
  rw [Bool.eq_iff_iff, List.all_eq_true, List.all_eq_true]
  constructor
  · intro h b hb
    obtain ⟨i, hi, e⟩ := List.mem_iff_getElem.mp hb
    have q := h i (List.mem_range.mpr hi)
    rw [List.getD_eq_getElem?_getD, List.getElem?_eq_getElem hi, e] at q
    exact q
  · intro h i hi
    have hi := List.mem_range.mp hi
    rw [List.getD_eq_getElem?_getD, List.getElem?_eq_getElem hi]
    exact h _ (List.getElem_mem hi)
section
variable {X : Cx}
theorem call_all (hc : X.calm = true) : CallR X (.builtin "all") (fun xs H Q => ∃ (p : Addr) (bs : List Bool), xs = [.ref p] ∧ SqL X.K H p (bs.map V.bl) ∧ Q (.bl (bs.all fun b => b)) H) := by
  intro pins s σ H xs us Q I r h
  obtain ⟨p, bs, rfl, hq, q⟩ := h
  obtain ⟨u, rfl, ru⟩ := r.one
  cases ru
  obtain ⟨its, rv, pl, hz⟩ := I.list hq
  have hlen := rv.length
  rw [List.length_map] at hlen
  obtain ⟨o, n, e, c, hd, ds⟩ := id pl
  have plt := Heap.lt_size e
  refine call_all_walk (wpAny_pyIter_list pl.isList ?_)
  refine ⟨s.heap.objs.size, _, _, _, _, _, (fun i => bs.getD i true), rfl, Walks.list (A := X.A.in1) (show X.A.in1.handled = none from I.ok.hd hc) s.heap.objs.size p (Nat.ne_of_lt plt) its.toArray, ⟨⟨_, Heap.get?_push_size _ rfl, rfl, rfl⟩, pl.isList.push _⟩, ?_, fun h' tk kk => ?_⟩
  · intro i v s' Q' E' hv hq'
    have hv : its[i]? = some v := by simpa using hv
    have hi : i < bs.length := by rw [hlen]; exact (List.getElem?_eq_some_iff.mp hv).1
    have e1 : (bs.map V.bl)[i]? = some (.bl bs[i]) := by simp [hi]
    obtain ⟨u', hu', ru'⟩ := rv.get e1
    rw [hv] at hu'
    cases hu'
    cases ru'
    have e2 : bs.getD i true = bs[i] := by simp [List.getD_eq_getElem?_getD, hi]
    have hq' : Q' (bs.getD i true) s' := hq'
    rw [e2] at hq'
    exact wpAny_truthy_bool hq'
  · have e3 : (List.range its.toArray.size).all (fun i => bs.getD i true) = bs.all fun b => b := by
      rw [List.size_toArray, ← hlen]
      exact range_all
    rw [e3]
    refine ⟨.bl _, H, I.kept (t' := tk) fun b o' eb => kk b o' ?_ (Heap.get?_push_of_some _ eb), rfl, q⟩
    have hb : b ≠ s.heap.objs.size := Nat.ne_of_lt (Heap.lt_size eb)
    simpa using hb

theorem call_isT : CallR X (.builtin "isinstance") (fun xs H Q => ∃ x T t b, xs = [x, .ty T] ∧ TyOf X.K H x t ∧ PySem.W.kitOne X.K t (.type T) = some b ∧ Q (.bl b) H) := by
  intro pins s σ H xs us Q I r h
  obtain ⟨x, T, t, b, rfl, ty, e, q⟩ := h
  obtain ⟨u, v, rfl, ru, rv⟩ := r.two
  cases rv
  exact isinst_ok I ru ty e fun tk => ⟨.bl b, H, I.tok tk, rfl, q⟩

theorem op_le_str : OpR X (compareOp .LtE) (fun x y H Q => ∃ i j, x = .str i ∧ y = .str j ∧ Q (.bl (!decide (j.cps.toList < i.cps.toList))) H) := by
  intro pins s σ H x y v u Q I rx ry h
  obtain ⟨i, j, rfl, rfl, q⟩ := h
  obtain ⟨t, rfl⟩ := rx
  obtain ⟨t', rfl⟩ := ry
  exact PySem.P.le_str ⟨.bl _, H, I, rfl, q⟩

theorem mt_bits : MtR X "int.bit_length" (fun x xs H Q => ∃ i, x = .int i ∧ xs = [] ∧ Q (.int (Builtin.Int.intBits i : Nat)) H) := by
  intro pins s σ H x xs v us Q I rx rs h
  obtain ⟨i, rfl, rfl, q⟩ := h
  obtain ⟨t, rfl⟩ := rx
  cases rs
  exact call_gives F.slot_int_bit_length (typeIs_int s i t) F.entry_int_bit_length (F.args_int_bit_length_1 _) (AutoIntG2.int_bit_length_int_0 i t) ⟨.int _, H, I.tok _, ⟨_, rfl⟩, q⟩
end
def eqVs (xs ys : List V) : Bool := decide (xs.length = ys.length) && (List.range xs.length).all fun j => eqV (xs.getD j .non) (ys.getD j .non)
theorem eqVs_len {xs ys : List V} (h : xs.length ≠ ys.length) : eqVs xs ys = false := by
  unfold eqVs
  rw [decide_eq_false h]
  rfl
def rEqL (K : PySem.W.Frag) (neg : Bool) : R2 := fun x y H Q => ∃ a b xs ys, x = .ref a ∧ y = .ref b ∧ SqL K H a xs ∧ SqL K H b ys ∧ xs.all flatV = true ∧ ys.all flatV = true ∧ Q (.bl (if neg then !eqVs xs ys else eqVs xs ys)) H
section
variable {X : Cx}
theorem items_eqAt {A : Around} {s : Shared} {xs ys : List V} {us ws : List Value} (rx : Vals xs us) (ry : Vals ys ws) (fx : xs.all flatV = true) (fy : ys.all flatV = true) (j : Nat) (h1 : j < us.toArray.size) (h2 : j < ws.toArray.size) :
    SeqAt.EqAt A s us.toArray[j] ws.toArray[j] (eqV (xs.getD j .non) (ys.getD j .non)) := by
  have e1 := rx.length
  have e2 := ry.length
  have h1' : j < us.length := by simpa using h1
  have h2' : j < ws.length := by simpa using h2
  have a1 : xs[j]? = some (xs[j]'(by omega)) := by simp
  have a2 : ys[j]? = some (ys[j]'(by omega)) := by simp
  obtain ⟨u, hu, ru⟩ := rx.get a1
  obtain ⟨v, hv, rv⟩ := ry.get a2
  have b1 : us.toArray[j] = u := by
    have : us[j]? = some us[j] := by simp
    rw [this] at hu
    simpa using Option.some.inj hu
  have b2 : ws.toArray[j] = v := by
    have : ws[j]? = some ws[j] := by simp
    rw [this] at hv
    simpa using Option.some.inj hv
  have c1 : xs.getD j .non = xs[j]'(by omega) := by rw [List.getD_eq_getElem?_getD, a1]; rfl
  have c2 : ys.getD j .non = ys[j]'(by omega) := by rw [List.getD_eq_getElem?_getD, a2]; rfl
  rw [b1, b2, c1, c2]
  exact eqAt_V ru rv (List.all_eq_true.mp fx _ (List.getElem_mem _)) (List.all_eq_true.mp fy _ (List.getElem_mem _))
theorem op_eqL (hu : X.A.units < cLine) : OpR X (compareOp .Eq) (rEqL X.K false) := by
  intro pins s σ H x y v u Q I rx ry h
  obtain ⟨a, b, xs, ys, rfl, rfl, qa, qb, fx, fy, q⟩ := h
  cases rx
  cases ry
  obtain ⟨its, r, pl, hz⟩ := I.list qa
  obtain ⟨its2, r2, pl2, hz2⟩ := I.list qb
  have e1 := r.length
  have e2 := r2.length
  by_cases hl : xs.length = ys.length
  · refine SeqAt.eq_listAt (e := fun j => eqV (xs.getD j .non) (ys.getD j .non)) pl.isList pl2.isList (by simp; omega) hu (fun j h1 h2 => items_eqAt r r2 fx fy j h1 h2) ⟨.bl _, H, I, rfl, ?_⟩
    have e : eqVs xs ys = (List.range its.toArray.size).all fun j => eqV (xs.getD j .non) (ys.getD j .non) := by
      unfold eqVs
      rw [decide_eq_true hl, List.size_toArray, ← e1]
      rfl
    rw [← e]
    exact q
  · refine SeqAt.eq_list_lengthsAt pl.isList pl2.isList (by simp; omega) hu ⟨.bl _, H, I, rfl, ?_⟩
    rw [eqVs_len hl] at q
    exact q
theorem op_neL (hu : X.A.units < cLine) : OpR X (compareOp .NotEq) (rEqL X.K true) := by
  intro pins s σ H x y v u Q I rx ry h
  obtain ⟨a, b, xs, ys, rfl, rfl, qa, qb, fx, fy, q⟩ := h
  cases rx
  cases ry
  obtain ⟨its, r, pl, hz⟩ := I.list qa
  obtain ⟨its2, r2, pl2, hz2⟩ := I.list qb
  have e1 := r.length
  have e2 := r2.length
  by_cases hl : xs.length = ys.length
  · refine SeqAt.RcNeAt.lists (e := fun j => eqV (xs.getD j .non) (ys.getD j .non)) pl.isList pl2.isList (by simp; omega) hu (fun j h1 h2 => items_eqAt r r2 fx fy j h1 h2) _ _ _ _ ⟨.bl _, H, I, rfl, ?_⟩
    have e : eqVs xs ys = (List.range its.toArray.size).all fun j => eqV (xs.getD j .non) (ys.getD j .non) := by
      unfold eqVs
      rw [decide_eq_true hl, List.size_toArray, ← e1]
      rfl
    rw [← e]
    exact q
  · refine SeqAt.RcNeAt.lists_lengths pl.isList pl2.isList (by simp; omega) hu _ _ _ _ ⟨.bl _, H, I, rfl, ?_⟩
    rw [eqVs_len hl] at q
    exact q
end

theorem mem_look {cl : List (Str × Addr)} {x : Str} (h : x ∈ cl.map (·.1)) : ∃ c, cl.lookup x = some c := by
  induction cl with
  | nil => simp at h
  | cons p r ih =>
    obtain ⟨n, a⟩ := p
    rw [List.lookup_cons]
    cases e : x == n with
    | true => exact ⟨a, rfl⟩
    | false =>
      refine ih ?_
      rcases List.mem_cons.mp h with q | q
      · rw [show x = n from q] at e; simp at e
      · exact q
end L2

set_option maxRecDepth 100000
namespace L2
open PySem PySem.Spec PyProof.Rows
section
variable {X : Cx} {e : Expr} {te : TE} {lo hi : Option Expr} {tl th : TO} {pos p2 : Pos}
theorem strsAre_of {ys : List Str} : ∀ {us : List Value}, Vals (ys.map V.str) us → StrsAre us ys := by
  induction ys with
  | nil => intro us r; rw [List.map_nil] at r; cases r; exact .nil
  | cons y ys ih =>
    intro us r
    rw [List.map_cons] at r
    cases r with
    | cons r1 r2 =>
      obtain ⟨t, e⟩ := r1
      subst e
      exact .cons y t (ih r2)
theorem mt_join : MtR X "str.join" (fun x xs H Q => ∃ z p ys, x = .str z ∧ xs = [.ref p] ∧ SqL X.K H p (ys.map V.str) ∧ (ys.map (·.length)).sum + ys.length * z.length ≤ 16777216 ∧ Q (.str (Txt.join z ys)) H) := by
  intro pins s σ H x xs v us Q I rx rs h
  obtain ⟨z, p, ys, rfl, rfl, hq, hz, q⟩ := h
  obtain ⟨t, rfl⟩ := rx
  obtain ⟨u, rfl, ru⟩ := rs.one
  cases ru
  obtain ⟨its, rv, pl, _⟩ := I.list hq
  exact PyProof.Rows.join_list pl.isList (by simpa using strsAre_of rv) hz fun t' k => ⟨.str _, H, I.tok k, ⟨_, rfl⟩, q⟩
end
end L2

set_option maxRecDepth 100000
set_option maxHeartbeats 4000000
namespace L2
open PySem PySem.Spec PyProof.Rows

abbrev EK := Addr → Hp → Prop
abbrev DE := St → Hp → VK → EK → Prop
abbrev DT := St → Hp → (Bool → Hp → Prop) → EK → Prop
abbrev DA := St → Hp → (List V → Hp → Prop) → EK → Prop
structure Outs where
  nx : St → Hp → Prop
  rt : VK
  bk : St → Hp → Prop
  ct : St → Hp → Prop
  ex : St → EK
abbrev DS := Outs → St → Hp → Prop

abbrev excObj (C : Addr) (dx : Option Addr) (vs : Array Value) : Obj := { cls := .ref C, dict := dx, data := .fields vs }
/-- an exception of the own class at C, its dict at dx: made, never raised -/
def excO (a C : Addr) (dx : Option Addr) : HO := .ext fun h => ∃ vs : Array Value, h.get? a = some (excObj C dx vs) ∧ vs.size = 6 ∧ vs[1]? = some .none
/-- .. that was raised -/
def flO (a C : Addr) (dx : Option Addr) : HO := .ext fun h => ∃ vs : Array Value, h.get? a = some (excObj C dx vs) ∧ vs.size = 6
/-- the dict of an exception, its fields -/
def xdO (dx : Addr) (fs : List (Str × V)) : HO := .ext fun h => fs.length ≤ 1000 ∧ ∃ mA, h.Ns1 dx mA ∧ (∀ f, RelO (fs.lookup f) (mA f)) ∧ PySem.Within mA (fs.map (·.1))
/-- an exception stands ready at a: it was just made, or it has left a callee's frame -/
def FlyAt (X : Cx) (pins : List (Addr × Obj)) (H : Hp) (a : Addr) (s : Shared) : Prop :=
  ∃ (C : Addr) (dx : Option Addr) (vs : Array Value), H a = some (flO a C dx) ∧ s.heap.get? a = some (excObj C dx vs) ∧ vs.size = 6 ∧
    (vs[1]? = some .none ∨ ∃ (T : Addr) (oT : Obj) (ts : Array Value), vs[1]? = some (.ref T) ∧ T ≠ a ∧ s.heap.get? T = some oT ∧ oT.data = .fields ts ∧ ts[3]? = some .none ∧ FpOk X pins H T)
/-- the context's wish takes every exception that Ex tells -/
def Meets (X : Cx) (Ex : St → EK) : Prop :=
  ∀ (pins : List (Addr × Obj)) (σ : St) (H : Hp) (s : Shared) (a : Addr), Inv X pins σ H s → FlyAt X pins H a s → Ex σ a H → X.xe (.ref a) s
def QE (X : Cx) (e : Expr) (t : DE) : Prop := ∀ Ex, Meets X Ex → PE X e (fun σ H Q => t σ H Q (Ex σ))
def QT (X : Cx) (e : Expr) (t : DT) : Prop := ∀ Ex, Meets X Ex → PT X e (fun σ H Q => t σ H Q (Ex σ))
def QW (X : Cx) (e : Expr) (t : DT) : Prop := ∀ Ex, Meets X Ex → PW X e (fun σ H Q => t σ H Q (Ex σ))
def QA (X : Cx) (es : List Expr) (t : DA) : Prop := ∀ Ex, Meets X Ex → PA X es (fun σ H Q => t σ H Q (Ex σ))
def outs (Ex : St → EK) (D : Ends) : Outs := ⟨D.nx, D.rt, D.bk, D.ct, Ex⟩
def QS (X : Cx) (st : Stmt) (t : DS) : Prop := ∀ Ex, Meets X Ex → PS X st (fun D σ H => t (outs Ex D) σ H)
def QSs (X : Cx) (st : List Stmt) (t : DS) : Prop := ∀ Ex, Meets X Ex → PSs X st (fun D σ H => t (outs Ex D) σ H)

def dNo : DE := fun _ _ _ _ => False
def dVar (i : Nat) : DE := fun σ H Q _ => match σ[i]? with
  | some (some v) => Q v H
  | _ => False
def dC (v : V) : DE := fun _ H Q _ => Q v H
def dBin (r : R2) (a b : DE) : DE := fun σ H Q E => a σ H (fun x H1 => b σ H1 (fun y H2 => r x y H2 Q) E) E
def dUn (r : V → Hp → VK → Prop) (a : DE) : DE := fun σ H Q E => a σ H (fun x H1 => r x H1 Q) E
def dChain (r r' : R2) (a b c : DE) : DE := fun σ H Q E => a σ H (fun x H1 => b σ H1 (fun y H2 => r x y H2 fun z H3 => match z with
  | .bl k => if k = true then c σ H3 (fun w H4 => r' y w H4 Q) E else Q (.bl false) H3
  | _ => False) E) E
def dAnd (a b : DT) : DT := fun σ H Q E => a σ H (fun k H1 => if k = true then b σ H1 Q E else Q false H1) E
def dOr (a b : DT) : DT := fun σ H Q E => a σ H (fun k H1 => if k = true then Q true H1 else b σ H1 Q E) E
def dNot (a : DT) : DT := fun σ H Q E => a σ H (fun k H1 => Q (!k) H1) E
def dIfE (t : DT) (a b : DE) : DE := fun σ H Q E => t σ H (fun k H1 => if k = true then a σ H1 Q E else b σ H1 Q E) E
/-- a value's truth -/
def truD (K : PySem.W.Frag) (x : V) (H : Hp) (Q : Bool → Hp → Prop) : Prop := match x with
  | .bl k => Q k H
  | .non => Q false H
  | .int i => Q (i != 0) H
  | .str y => y.length ≤ sizeLine ∧ Q ((y.length : Int) != 0) H
  | .ref p => ∃ k, TruV K (.ref p) H k ∧ Q k H
  | _ => False
def dAndV (K : PySem.W.Frag) (a b : DE) : DE := fun σ H Q E => a σ H (fun x H1 => truD K x H1 fun k H2 => if k = true then b σ H2 Q E else Q x H2) E
def dOrV (K : PySem.W.Frag) (a b : DE) : DE := fun σ H Q E => a σ H (fun x H1 => truD K x H1 fun k H2 => if k = true then Q x H2 else b σ H2 Q E) E
def dNotV (K : PySem.W.Frag) (a : DE) : DE := fun σ H Q E => a σ H (fun x H1 => truD K x H1 fun k H2 => Q (.bl (!k)) H2) E
def dTru (K : PySem.W.Frag) (a : DE) : DT := fun σ H Q E => a σ H (fun x H1 => truD K x H1 Q) E
def dTst (a : DE) : DT := fun σ H Q E => a σ H (fun x H1 => match x with
  | .bl k => Q k H1
  | _ => False) E
def dNil : DA := fun _ H Q _ => Q [] H
def dCons (a : DE) (r : DA) : DA := fun σ H Q E => a σ H (fun x H1 => r σ H1 (fun xs H2 => Q (x :: xs) H2) E) E
def dTup (t : DA) : DE := fun σ H Q E => t σ H (fun xs H1 => xs.length ≤ sizeLine ∧ ∀ p, H1 p = none → Q (.ref p) (upd H1 p (.tup xs))) E
def dLst (t : DA) : DE := fun σ H Q E => t σ H (fun xs H1 => xs.length ≤ sizeLine ∧ ∀ p, H1 p = none → Q (.ref p) (upd H1 p (.lst xs))) E
def dFn (r : List V → Hp → VK → EK → Prop) (t : DA) : DE := fun σ H Q E => t σ H (fun vs H1 => r vs H1 Q E) E
def dMt (r : V → Hp → (Hp → (List V → Hp → Prop) → Prop) → VK → Prop) (o : DE) (t : DA) : DE := fun σ H Q E => o σ H (fun x H1 => r x H1 (fun H2 R => t σ H2 R E) Q) E

def dNext : DS := fun D σ H => D.nx σ H
def dNever : DS := fun _ _ _ => False
def dSeq (t u : DS) : DS := fun D σ H => t { D with nx := u D } σ H
def dRet (e : DE) : DS := fun D σ H => e σ H D.rt (D.ex σ)
def dRetN : DS := fun D _ H => D.rt .non H
def dDrop (e : DE) : DS := fun D σ H => e σ H (fun _ H1 => D.nx σ H1) (D.ex σ)
def dIf (c : DT) (t u : DS) : DS := fun D σ H => c σ H (fun b H1 => if b = true then t D σ H1 else u D σ H1) (D.ex σ)
def dBrk : DS := fun D σ H => D.bk σ H
def dCnt : DS := fun D σ H => D.ct σ H
def dSet (i : Nat) (e : DE) : DS := fun D σ H => e σ H (fun v H1 => D.nx (σ.set i (some v)) H1) (D.ex σ)
abbrev DG := TG
def dAsg (e : DE) (g : DG) : DS := fun D σ H => e σ H (fun v H1 => g v σ H1 D.nx) (D.ex σ)
abbrev DI := St → Hp → (It → Hp → Prop) → EK → Prop
def dWhile (c : DT) (tb : DS) : DS := fun D σ H => ∃ W : Nat → St → Hp → Prop, (∃ m, W m σ H) ∧ ∀ m σ H, W m σ H →
  c σ H (fun b H1 => if b = true then ∃ N : St → Hp → Prop, (∀ σ' H', N σ' H' → ∃ m', m' < m ∧ W m' σ' H') ∧ tb { D with nx := N, ct := N, bk := D.nx } σ H1 else D.nx σ H1) (D.ex σ)
def ForW (J : It) (g : DG) (tb : DS) (D : Outs) (σ : St) (H : Hp) : Prop := ∃ W : Nat → Nat → St → Hp → Prop, (∃ m, W 0 m σ H) ∧ ∀ i m σ H, W i m σ H →
  (J.stop i H ∧ D.nx σ H) ∨ (J.go i H ∧ ∃ N : St → Hp → Prop, (∀ σ' H', N σ' H' → ∃ m', m' < m ∧ W (i + 1) m' σ' H') ∧ ∀ x H', J.yld i H x H' → g x σ H' (fun σ2 H2 => tb { D with nx := N, ct := N, bk := D.nx } σ2 H2))
def dFor (wi : DI) (g : DG) (tb : DS) : DS := fun D σ H => wi σ H (fun J H1 => ForW J g tb D σ H1) (D.ex σ)
def CmpW (J : It) (g : DG) (tc : DT) (te : DE) (D : Addr) (R : Hp → Prop) (σ : St) (H : Hp) : Prop :=
  ∃ W : Nat → Nat → St → Hp → Prop, (∃ m, W 0 m σ H) ∧ ∀ i m σ' H', W i m σ' H' →
    (J.stop i H' ∧ R H') ∨ (J.go i H' ∧ ∃ N : St → Hp → Prop, (∀ σ2 H2, N σ2 H2 → ∃ m', m' < m ∧ W (i + 1) m' σ2 H2) ∧ ∀ x H2, J.yld i H' x H2 → g x σ' H2 (fun σ3 H3 => tc σ3 H3 (fun b H4 => if b = true then
        te σ3 H4 (fun v H5 => ∃ ys, H5 D = some (.lst ys) ∧ ys.length < sizeLine ∧ N σ3 (upd H5 D (.lst (ys ++ [v])))) (fun _ _ => False)
      else N σ3 H4) (fun _ _ => False)))
def dComp (srcs : List (Option Nat)) (wi : DI) (g : DG) (tc : DT) (te : DE) : DE := fun σ H Q E => wi σ H (fun J H1 => ∀ D, H1 D = none → CmpW J g tc te D (fun H' => Q (.ref D) H') (capt srcs σ) (upd H1 D (.lst []))) E
def dYes : DT := fun _ H Q _ => Q true H
def gdN (i : Nat) : DG := fun v σ H Q => Q (σ.set i (some v)) H
end L2

set_option maxRecDepth 100000
set_option maxHeartbeats 4000000
namespace L2
open PySem PySem.Spec PyProof.Rows PySem.W
section
variable {prog : Program} {w : World} {A : Around} {E : Value → Shared → Prop} {s : Shared} {K : PySem.W.Frag} {x C : Addr} {ox : Obj} {od : Option Obj} {name : Str} {expr : Bool} {Q : Value → Shared → Prop}
theorem bga_bind (self : Value) : bindSpecial (.builtin "BaseException.__getattribute__") self = pure (.builtin "BaseException.__getattribute__", [self]) := by
  have hop : withoutEnding? "BaseException.__getattribute__" "#opaque" = none := by decide +kernel
  have hdat : withoutEnding? "BaseException.__getattribute__" "#data" = none := by decide +kernel
  have hk : builtinKind "BaseException.__getattribute__" = some .slot := by decide +kernel
  simp only [bindSpecial, typeOf, builtinType, hop, hdat, hk]; rfl
theorem get_exc {v : Value} (X : K.In s.heap) (I : PySem.W.InstAt s.heap x ox C od) (hga : PySem.W.findIn K (.ref C) "__getattribute__" = some (some (.builtin "BaseException.__getattribute__"))) (hgt : PySem.W.findIn K (.ref C) "__getattr__" = some none)
    (hB : PySem.W.mroIn K C (.type "BaseException") = some true) (hf : PySem.W.findObj K C od name = some (.value v)) (hh : PySem.W.handedIn v = true) (h : Q v { s with toks := s.toks + 1 }) :
    wpAny (model prog w) A (getAttr (.ref x) name expr) Q E s := by
  obtain ⟨hp, g, d, t, os⟩ := s
  have L0 := I.type (M := model prog w)
  have L1 := PySem.W.looks_findIn (M := model prog w) X hga
  have L2 := PySem.W.looks_findIn (M := model prog w) X hgt
  have L3 := PySem.W.looks_find (M := model prog w) X I hf
  have L4 := PySem.W.looks_mroIn (M := model prog w) X hB
  unfold getAttr getAttrBy
  refine wpAny_bind (wpAny_mkText (wpAny_holding (wpAny_bind (L0.at (wpAny_bind (L1.at ?_))))))
  have hx2 : (Value.builtin "BaseException.__getattribute__" == Value.builtin "object.__getattribute__") = false := by decide +kernel
  have hx1 : (onTheHeap (Value.ref C) && Value.builtin "BaseException.__getattribute__" == Value.builtin "object.__getattribute__") = false := by rw [hx2]; rfl
  dsimp only
  rw [hx1, if_neg Bool.false_ne_true]
  unfold getAttrByItsOwn
  refine wpAny_bind (show wpAny _ _ (typeLookup (.ref C) "__getattr__") _ _ _ from L2.at ?_)
  refine wpAny_bind (wpAny_attempt (wpAny_holding ?_))
  have hx0 : (expr && onTheHeap (Value.builtin "BaseException.__getattribute__")) = false := by cases expr <;> rfl
  unfold callGetattribute
  rw [hx0, if_neg Bool.false_ne_true]
  unfold boundAndCalled
  rw [bga_bind]
  refine wpAny_bind (wpAny_pure ?_)
  refine wpAny_call (codeAny_call_builtin (by decide +kernel) F.entry_bexc_ga (check_slot (i := "BaseException.__getattribute__") (owner := "BaseException") (n := "__getattribute__") (by decide +kernel) (by decide +kernel) (L0.andThen L4) (F.args_bexc_ga _ _) ?_))
  unfold Builtin.«object.__getattribute__»
  refine wpAny_bind (wpAny_pure (wpAny_bind (wpAny_pure (wpAny_bind (L0.at (wpAny_bind (L3.at ?_)))))))
  refine wpAny_pure ?_
  show wpAny _ _ (handedOut v) _ _ _
  rw [PySem.W.handedOut_of hh]
  exact wpAny_pure h
end
end L2

set_option maxRecDepth 100000
set_option maxHeartbeats 4000000
namespace L2
open PySem PySem.Spec PyProof.Rows PySem.W Builtin Builtin.ObjectAttr
def excTail : List Value → Bool
  | [.type a, .type b, .type c, .type d] => a == "ValueError" && b == "Exception" && c == "BaseException" && d == "object"
  | .ref _ :: r => excTail r
  | _ => false
def valTail : List Value := [.type "ValueError", .type "Exception", .type "BaseException", .type "object"]
theorem refuse_val (self : Value) : refuseLoop self "__setattr__" valTail = pure () := by kernel_rfl
theorem excTail_eq : ∀ {l : List Value}, excTail l = true → ∃ rs : List Addr, l = rs.map Value.ref ++ valTail
  | [.type a, .type b, .type c, .type d], e => by
    have e : (a == "ValueError" && b == "Exception" && c == "BaseException" && d == "object") = true := e
    simp only [Bool.and_eq_true, beq_iff_eq] at e
    obtain ⟨⟨⟨rfl, rfl⟩, rfl⟩, rfl⟩ := e
    exact ⟨[], rfl⟩
  | .ref a :: r, e => by
    have e : excTail r = true := by cases r <;> first | exact e | cases e
    obtain ⟨rs, h⟩ := excTail_eq e
    exact ⟨a :: rs, by rw [h]; rfl⟩
theorem refuse_exc (self : Value) (rs : List Addr) : refuseLoop self "__setattr__" (rs.map Value.ref ++ valTail) = pure () := by
  induction rs with
  | nil => exact refuse_val self
  | cons a r ih => rw [List.map_cons, List.cons_append, refuseLoop_ref]; exact ih
theorem tail_has (rs : List Addr) {T : String} (h : valTail.contains (.type T) = true) : (rs.map Value.ref ++ valTail).contains (.type T) = true := by
  induction rs with
  | nil => exact h
  | cons a r ih => rw [List.map_cons, List.cons_append, List.contains_cons, ih, Bool.or_true]
section
variable {prog : Program} {w : World} {A : Around} {s : Shared} {K : PySem.W.Frag} {x C : Addr} {R : Result → Shared → Prop}
theorem osa_openX {ox : Obj} {od : Option Obj} {name : Str} {tk : Tok} {v : Value} {cd : ClassData} (X : K.In s.heap) (I : PySem.W.InstAt s.heap x ox C od) (hc : clsIn K C = some cd) (hp : excTail cd.mro = true) (ht : findIn K (.ref C) name = some none)
    (h : wpAny (model prog w) A.in1 (storeInOwnDict (.ref x) (.ref C) (.str name tk) name v false)
      (fun fin s' => match fin with | .done f => R (.ok f) s' | .again c' => c'.quiet = true ∧ codeAny (model prog w) A c' R s') (fun e s' => R (.error e) s') s) :
    codeAny (model prog w) A (.call (.builtin "object.__setattr__") ⟨[.ref x, .str name tk, v], []⟩) R s := by
  have SF := PySem.F.store_object
  obtain ⟨rs, hm⟩ := excTail_eq hp
  have ne : cd.mro.isEmpty = false := by rw [hm]; cases rs <;> rfl
  have sub : Looks (model prog w) s.heap (isInstance (.ref x) (.type "object")) true := I.type.andThen (looks_mroIn X (by unfold mroIn; rw [hc, Option.bind_some, if_neg (by rw [ne]; decide), hm, tail_has rs (by decide +kernel)]))
  refine codeAny_call_builtin SF.slot.plain SF.entry (@check_slot (model prog w) _ _ s "object.__setattr__" "object" "__setattr__" (.ref x) [.str name tk, v] [] _ SF.kind SF.split sub (SF.args (.ref x) (.str name tk) v) ?_)
  have hmr : Looks (model prog w) s.heap (mroOf (.ref C)) cd.mro := (looks_clsIn X hc).andThen .now
  rw [osa_eq, refuse_eq]
  refine wpAny_bind (wpAny_bind (I.type.here (wpAny_bind (hmr.here ?_))))
  rw [hm, refuse_exc]
  refine wpAny_pure (wpAny_bind (I.type.here (wpAny_bind ((looks_findIn X ht).here (wpAny_bind (wpAny_pure ?_))))))
  exact h
end
section
variable {prog : Program} {w : World} {A : Around} {E : Value → Shared → Prop} {s : Shared} {K : PySem.W.Frag} {x dx C f : Addr} {mA : Str → Option Value} {name : Str} {v : Value} {vs : Array Value}
/-- a field of an exception that has fields -/
theorem set_exc {ns : List Str} {Q : Unit → Shared → Prop} {cd : ClassData} (X : K.In s.heap) (hx : s.heap.get? x = some (excObj C (some dx) vs)) (hn : s.heap.Ns1 dx mA) (hne : dx ≠ x)
    (hs : findIn K (.ref C) "__setattr__" = some (some (.builtin "object.__setattr__"))) (hc : clsIn K C = some cd) (hp : excTail cd.mro = true) (hd' : cd.hasDict = true) (ht : findIn K (.ref C) name = some none)
    (hw : PySem.Within mA ns) (hsz : ns.length ≤ sizeLine)
    (h : ∀ h', h'.get? x = some (excObj C (some dx) vs) → h'.Ns1 dx (fun y => if y = name then some v else mA y) → Heap.SameBut dx s.heap h' → Q () { s with heap := h', toks := s.toks + 2 }) :
    wpAny (model prog w) A (setAttr (.ref x) name v) Q E s := by
  obtain ⟨od, ho, hl⟩ := lookIn_ns hn
  have J : PySem.W.InstAt s.heap x (excObj C (some dx) vs) C (some od) := ⟨hx, rfl, rfl, ho⟩
  refine set_plain X J hs (osa_openX (s := { s with toks := s.toks + 1 }) X J hc hp ht ?_)
  refine wpAny_bind (wpAny_pure (wpAny_bind (wpAny_bind (wpAny_loadPart hx (wpAny_bind (Looks.here (s := { s with toks := s.toks + 1 }) (looks_clsIn X hc) ?_))))))
  rw [hd']
  refine wpAny_pure (a := some dx) (wpAny_bind (wpAny_pure (wpAny_bind ?_)))
  refine wpAny_nsSet1 (s := { s with toks := s.toks + 1 }) hn fun h' hn2 hs2 => ?_
  obtain ⟨oD, esD, epD, hoD, hdD, hcD⟩ := hn2.count (PySem.Within.cons name v hw)
  refine wpAny_bind (wpAny_lookBehind hoD (by rw [hdD]; exact pastItsLine_dict (Nat.le_trans hcD (by rw [List.length_cons]; omega))) ?_)
  exact wpAny_pure (h _ ((hs2.2 _ (Ne.symm hne)).trans hx) hn2 hs2)
/-- the first field: the dict is made -/
theorem set_exc0 {Q : Unit → Shared → Prop} {cd : ClassData} (X : K.In s.heap) (hx : s.heap.get? x = some (excObj C none vs))
    (hs : findIn K (.ref C) "__setattr__" = some (some (.builtin "object.__setattr__"))) (hc : clsIn K C = some cd) (hp : excTail cd.mro = true) (hd' : cd.hasDict = true) (ht : findIn K (.ref C) name = some none)
    (h : ∀ h', h'.get? x = some (excObj C (some s.heap.objs.size) vs) → h'.Ns1 s.heap.objs.size (fun y => if y = name then some v else none) → (∀ b o, b ≠ x → s.heap.get? b = some o → h'.get? b = some o) → Q () { s with heap := h', toks := s.toks + 2 }) :
    wpAny (model prog w) A (setAttr (.ref x) name v) Q E s := by
  have J : PySem.W.InstAt s.heap x (excObj C none vs) C none := ⟨hx, rfl, rfl, True.intro⟩
  refine set_plain X J hs (osa_openX (s := { s with toks := s.toks + 1 }) X J hc hp ht ?_)
  refine wpAny_bind (wpAny_pure (wpAny_bind (wpAny_bind (wpAny_loadPart hx (wpAny_bind (Looks.here (s := { s with toks := s.toks + 1 }) (looks_clsIn X hc) ?_))))))
  rw [hd']
  rw [if_neg (by decide)]
  refine wpAny_bind (wpAny_alloc (wpAny_bind (wpAny_update (Heap.get?_push_of_some _ hx) ?_)))
  refine wpAny_pure (a := some s.heap.objs.size) (wpAny_bind (wpAny_pure (wpAny_bind ?_)))
  have e1 : (s.heap.push emptyDict).get? s.heap.objs.size = some emptyDict := Heap.get?_push_size s.heap rfl
  have hne : x ≠ s.heap.objs.size := Nat.ne_of_lt (Heap.lt_size hx)
  have e2 : ((s.heap.push emptyDict).update x fun o => { o with dict := some s.heap.objs.size }).get? s.heap.objs.size = some emptyDict := by rw [Heap.get?_update_other _ _ hne]; exact e1
  have e3 : ((s.heap.push emptyDict).update x fun o => { o with dict := some s.heap.objs.size }).get? x = some (excObj C (some s.heap.objs.size) vs) := Heap.get?_update_self _ (Heap.get?_push_of_some _ hx) rfl
  have n0 : ((s.heap.push emptyDict).update x fun o => { o with dict := some s.heap.objs.size }).Ns s.heap.objs.size (fun _ => none) := ⟨emptyDict, #[], _, e2, rfl, (fun e he => absurd he (by simp)), fun _ => rfl⟩
  refine wpAny_nsSet1 (s := { s with heap := (s.heap.push emptyDict).update x fun o => { o with dict := some s.heap.objs.size }, toks := s.toks + 1 }) (Heap.Ns1.of_empty n0) fun h' hn2 hs2 => ?_
  obtain ⟨oD, esD, epD, hoD, hdD, hcD⟩ := hn2.count (ns := [name]) (fun y hy => by
    by_cases e : y = name
    · rw [e]; simp
    · exact absurd (by rw [if_neg e]) hy)
  refine wpAny_bind (wpAny_lookBehind hoD (by rw [hdD]; exact pastItsLine_dict (Nat.le_trans hcD (by show 1 ≤ sizeLine + 1; decide))) ?_)
  refine wpAny_pure (h _ ((hs2.2 _ hne).trans e3) hn2 fun b o hb e => ?_)
  have hbs : b ≠ s.heap.objs.size := Nat.ne_of_lt (Heap.lt_size e)
  refine (hs2.2 b hbs).trans ?_
  show ((s.heap.push emptyDict).update x _).get? b = some o
  rw [Heap.get?_update_other _ _ (Ne.symm hb)]
  exact Heap.get?_push_of_some _ e
end
end L2

set_option maxRecDepth 100000
set_option maxHeartbeats 4000000
namespace L2
open PySem PySem.Spec PySem.W Builtin Builtin.ObjectAttr
open Sem (wp)
/-- what an own class of refusals is -/
structure ECls (K : PySem.W.Frag) (C : Addr) : Prop where
  obj : ∃ nm q N bs bm hdct sn sub ab col dd k0 k1 k2 k3 k5, K.lookup C = some (excClassObj nm q C N bs bm hdct sn sub ab col dd k0 k1 k2 k3 k5 "ValueError.__new__") ∧ excTail bm = true ∧ hdct = true
  sa : findIn K (.ref C) "__setattr__" = some (some (.builtin "object.__setattr__"))
  ga : findIn K (.ref C) "__getattribute__" = some (some (.builtin "BaseException.__getattribute__"))
  gt : findIn K (.ref C) "__getattr__" = some none
  ca : findIn K (.ref C) "__class__" = some (some (.builtin "object.__class__"))
  hn : specialIn K (.builtin "object.__class__") "__get__" = some (some (.builtin "getset_descriptor.__get__"))
  htk : takesIn K (.builtin "object.__class__") = some true
theorem excTail_has {bm : List Value} (h : excTail bm = true) {T : String} {b : Bool} (hb : valTail.contains (.type T) = b) : bm.contains (.type T) = b := by
  obtain ⟨rs, rfl⟩ := excTail_eq h
  induction rs with
  | nil => exact hb
  | cons a r ih =>
    have h' : excTail (r.map Value.ref ++ valTail) = true := by
      cases r <;> exact h
    rw [List.map_cons, List.cons_append, List.contains_cons, ih h']
    rfl
section
variable {M : Model} {A : Around} {E : Value → Shared → Prop} {h : Heap} {g : Array GenState} {d : Drawn} {t : Nat} {os : OsState}
variable {nm q : Str} {C N : Addr} {bs bm : List Value} {hdct : Bool} {sn : List Str} {sub : List Value} {ab : Bool} {col : Option Bool} {dd : Option Addr} {k0 k1 k2 k3 k5 : Option Value}
theorem wpAny_check_new_X (T : excTail bm = true) {rest : List Value} {Q : Unit → Shared → Prop} (hC : h.get? C = some (excClassObj nm q C N bs bm hdct sn sub ab col dd k0 k1 k2 k3 k5 "ValueError.__new__"))
    (hq : Q () ⟨h, g, d, t, os⟩) : wpAny M A (checkBuiltinCall "ValueError.__new__" ⟨.ref C :: rest, []⟩) Q E ⟨h, g, d, t, os⟩ := by
  have F := PySem.F.excBase_ValueError
  have hcont : (Value.ref C :: bm).contains (.type "ValueError") = true := by rw [List.contains_cons, excTail_has T (show valTail.contains (.type "ValueError") = true by decide +kernel), Bool.or_true]
  have hstar := F.noStar
  simp only [checkBuiltinCall, F.newKind, F.newSplit, F.newRow]
  repeat (first | refine wpAny_loadPart_at hC ?_ | (refine wpAny_isSubtype_exc hC ?_; rw [hcont]) | refine wpAny_staticBase_exc hC ?_ | refine wpAny_madeBy_exc hC ?_ | simp only [bne_self_eq_false, Bool.false_eq_true, if_false] | wp_step)
  exact hq
end
section
variable {prog : Program} {w : World} {A : Around} {R : Result → Shared → Prop} {h : Heap} {g : Array GenState} {d : Drawn} {t : Nat} {os : OsState}
variable {nm q : Str} {C N : Addr} {bs bm : List Value} {hdct : Bool} {sn : List Str} {sub : List Value} {ab : Bool} {col : Option Bool} {dd : Option Addr} {k0 k1 k2 k3 k5 : Option Value}
theorem codeAny_exc_new_X (T : excTail bm = true) {rest : List Value} (hC : h.get? C = some (excClassObj nm q C N bs bm hdct sn sub ab col dd k0 k1 k2 k3 k5 "ValueError.__new__"))
    (hq : R (.ok (.ret (.ref (h.objs.size + 1)))) ⟨(h.push { cls := .type "tuple", data := .seq rest.toArray }).push
      { cls := .ref C, data := .fields #[.ref h.objs.size, .none, .none, .none, .bool false, .none] }, g, d, t, os⟩) (hrest : rest.length ≤ sizeLine) :
    codeAny (model prog w) A (.builtin "ValueError.__new__" ⟨.ref C :: rest, []⟩) R ⟨h, g, d, t, os⟩ := by
  have F := PySem.F.excBase_ValueError
  have hends := F.ends
  have hcB : (Value.ref C :: bm).contains (.type "ValueError") = true := by rw [List.contains_cons, excTail_has T (show valTail.contains (.type "ValueError") = true by decide +kernel), Bool.or_true]
  have hcA : (Value.ref C :: bm).contains (.type "AttributeError") = false := by rw [List.contains_cons, excTail_has T (show valTail.contains (.type "AttributeError") = false by decide +kernel)]; rfl
  have hcN : (Value.ref C :: bm).contains (.type "NameError") = false := by rw [List.contains_cons, excTail_has T (show valTail.contains (.type "NameError") = false by decide +kernel)]; rfl
  refine codeAny_builtinAt F.entry ?_
  unfold Builtin.«BaseException.__new__»
  refine wpAt_bind ?_
  show wpAt _ _ _ (stack >>= _) _ _ _
  refine wpAt_bind (wpAt_stack fun p below => wpAt_of_wpAny ?_)
  wp_walk
  refine wpAt_of_wpAny ?_
  rw [F.owner]
  repeat (first | with_reducible refine wpAny_madeHere_exc F.canon hC ?_ | with_reducible refine wpAny_loadPart_at hC ?_ | (with_reducible refine wpAny_isSubtype_exc hC ?_; first | rw [hcB] | rw [hcA] | rw [hcN]) | wp_step)
  show R _ _
  rw [Heap.size_push]
  exact hq
end
end L2

set_option maxRecDepth 100000
set_option maxHeartbeats 4000000
namespace L2
open PySem PySem.Spec PySem.W Builtin Builtin.ObjectAttr
open Sem (wp)
section
variable {prog : Program} {w : World} {A : Around} {E : Value → Shared → Prop} {h : Heap} {g : Array GenState} {d : Drawn} {t : Nat} {os : OsState}
variable {nm q : Str} {C N f : Addr} {bs bm : List Value} {hdct : Bool} {sn : List Str} {sub : List Value} {ab : Bool} {col : Option Bool} {dd : Option Addr} {k0 k1 k2 k3 k5 : Option Value}
/-- the heap with a new exception -/
abbrev excHeap (h : Heap) (C : Addr) (rest : List Value) : Heap := (h.push { cls := .type "tuple", data := .seq rest.toArray }).push { cls := .ref C, data := .fields #[.ref h.objs.size, .none, .none, .none, .bool false, .none] }
theorem wpAny_type_call_X (T : excTail bm = true) {rest : List Value} {Q : Fin → Shared → Prop}
    (hC : h.get? C = some (excClassObj nm q C N bs bm hdct sn sub ab col dd k0 k1 k2 k3 k5 "ValueError.__new__"))
    (hi : Looks (model prog w) h (typeLookup (.ref C) "__init__") (some (.ref f))) (hb : ∀ self, Looks (model prog w) h (bindSpecial (.ref f) self) (.ref f, [self]))
    (hq : wpAny (model prog w) A (call (.ref f) (.ref (h.objs.size + 1) :: rest)) (fun v s' => v = .none ∧ Q (.done (.ret (.ref (h.objs.size + 1)))) s') E ⟨excHeap h C rest, g, d, t, os⟩) (hrest : rest.length ≤ sizeLine) :
    wpAny (model prog w) A (Builtin.«type.__call__» ⟨.ref C :: rest, []⟩) Q E ⟨h, g, d, t, os⟩ := by
  have F := PySem.F.excBase_ValueError
  repeat (first | with_reducible refine wpAny_loadPart_at hC ?_ | with_reducible refine wpAny_madeBy_exc hC ?_ | wp_step)
  refine codeAny_call_builtin_code (Code.quiet_builtin _ F.quiet) (wpAny_check_new_X T hC ?_)
  refine codeAny_exc_new_X T hC ?_ hrest
  show wpAny _ _ _ _ _ _
  have kp : ∀ b o, h.get? b = some o → (excHeap h C rest).get? b = some o := fun b o e => Heap.get?_push_of_some _ (Heap.get?_push_of_some _ e)
  have hC₁ := kp _ _ hC
  have hget : (excHeap h C rest).get? (h.objs.size + 1) = some { cls := .ref C, data := .fields #[.ref h.objs.size, .none, .none, .none, .bool false, .none] } := by heap_get
  have hcC : (Value.ref C :: bm).contains (.ref C) = true := by simp
  unfold isInstance
  repeat (first | with_reducible refine wpAny_loadPart_at hget ?_ | (with_reducible refine wpAny_isSubtype_exc hC₁ ?_; rw [hcC]) | wp_step)
  show wpAny _ _ (typeLookup (.ref C) _) _ _ _
  refine (hi.keeps kp).at ?_
  refine wpAny_holding (wpAny_bind (((hb _).keeps kp).at ?_))
  refine wpAny_bind (wpAny_mono hq (fun v s' z => ?_) fun _ _ z => z)
  obtain ⟨rfl, z⟩ := z
  exact wpAny_pure (wpAny_pure z)
theorem make_exc (T : excTail bm = true) {rest : List Value} {R : Result → Shared → Prop}
    (hC : h.get? C = some (excClassObj nm q C N bs bm hdct sn sub ab col dd k0 k1 k2 k3 k5 "ValueError.__new__"))
    (hi : Looks (model prog w) h (typeLookup (.ref C) "__init__") (some (.ref f))) (hb : ∀ self, Looks (model prog w) h (bindSpecial (.ref f) self) (.ref f, [self]))
    (hq : codeAny (model prog w) (A.under (.builtin "type.__call__" ⟨.ref C :: rest, []⟩)) (.call (.ref f) ⟨.ref (h.objs.size + 1) :: rest, []⟩) (InitBack (h.objs.size + 1) R) ⟨excHeap h C rest, g, d, t, os⟩) (hrest : rest.length ≤ sizeLine) :
    codeAny (model prog w) A (.call (.ref C) ⟨rest, []⟩) R ⟨h, g, d, t, os⟩ := by
  have f1 := tc_lookup
  have f2 := tc_bind (.ref C)
  have hT : (⟨h, g, d, t, os⟩ : Shared).TypeIs (.ref C) "type" := ⟨_, hC, rfl⟩
  refine codeAny_of_tree ?_
  show wpAny _ _ (callAny (.ref C) _) _ _ _
  repeat (any_goals (first | assumption | with_reducible refine wpAny_loadPart_at hC ?_ | wp_step))
  refine ⟨rfl, ?_⟩
  refine codeAny_call_builtin_at (Code.quiet_builtin _ (by decide +kernel)) entry_typeCall (wpAny_check_type_call_sub hC (wpAny_type_call_X T hC hi hb (wpAny_call (codeAny_mono hq fun r s' z => ?_)) hrest))
  rcases r with e | (v | _ | _ | _) <;> first | exact z | exact z.elim
/-- without an __init__ of its own -/
theorem wpAny_type_call_X0 (T : excTail bm = true) {rest : List Value} {Q : Fin → Shared → Prop}
    (hC : h.get? C = some (excClassObj nm q C N bs bm hdct sn sub ab col dd k0 k1 k2 k3 k5 "ValueError.__new__"))
    (hi : Looks (model prog w) h (typeLookup (.ref C) "__init__") (some (.builtin "ValueError.__init__")))
    (hq : ∀ h' e, Heap.MadeExcOf h h' e (.ref C) rest → e = h.objs.size + 1 → Q (.done (.ret (.ref e))) ⟨h', g, d, t, os⟩) (hrest : rest.length ≤ sizeLine) :
    wpAny (model prog w) A (Builtin.«type.__call__» ⟨.ref C :: rest, []⟩) Q E ⟨h, g, d, t, os⟩ := by
  have F := PySem.F.excBase_ValueError
  repeat (first | with_reducible refine wpAny_loadPart_at hC ?_ | with_reducible refine wpAny_madeBy_exc hC ?_ | wp_step)
  refine codeAny_call_builtin_code (Code.quiet_builtin _ F.quiet) (wpAny_check_new_X T hC ?_)
  refine codeAny_exc_new_X T hC ?_ hrest
  show wpAny _ _ _ _ _ _
  have kp : ∀ b o, h.get? b = some o → (excHeap h C rest).get? b = some o := fun b o e => Heap.get?_push_of_some _ (Heap.get?_push_of_some _ e)
  have hC₁ := kp _ _ hC
  have hget : (excHeap h C rest).get? (h.objs.size + 1) = some { cls := .ref C, data := .fields #[.ref h.objs.size, .none, .none, .none, .bool false, .none] } := by heap_get
  have hcC : (Value.ref C :: bm).contains (.ref C) = true := by simp
  have hcB : (Value.ref C :: bm).contains (.type "ValueError") = true := by rw [List.contains_cons, excTail_has T (show valTail.contains (.type "ValueError") = true by decide +kernel), Bool.or_true]
  unfold isInstance
  repeat (first | with_reducible refine wpAny_loadPart_at hget ?_ | (with_reducible refine wpAny_isSubtype_exc hC₁ ?_; rw [hcC]) | wp_step)
  show wpAny _ _ (typeLookup (.ref C) _) _ _ _
  refine (hi.keeps kp).at ?_
  refine wpAny_holding (wpAny_bind (wpAny_of_eq (F.init.bind _) ?_))
  have chk : ∀ {Q' : Unit → Shared → Prop} {E' : Value → Shared → Prop} {A' : Around}, Q' () ⟨excHeap h C rest, g, d, t, os⟩ → wpAny (model prog w) A' (checkBuiltinCall "ValueError.__init__" ⟨.ref (h.objs.size + 1) :: rest, []⟩) Q' E' ⟨excHeap h C rest, g, d, t, os⟩ := fun {Q' E' A'} hq' => by
    have hshort := F.noStar
    simp only [checkBuiltinCall, F.initKind, F.initSplit, F.initRow]
    repeat (first | with_reducible refine wpAny_loadPart_at hget ?_ | with_reducible refine wpAny_loadPart_at hC₁ ?_ | (with_reducible refine wpAny_isSubtype_exc hC₁ ?_; rw [hcB]) | wp_step)
    refine wpAny_onRaise ?_
    rw [show ∀ (a b : String) (n : Nat), Bind.check ⟨.positional, "*", "ValueError", .self, [⟨"args", .varPos, false⟩]⟩ a b n (List.map (fun x => x.fst) ({ pos := Value.ref (h.objs.size + 1) :: rest } : Args).kw) = pure () from
      fun a b n => check_star_args _ _ _ _ _ _]
    exact wpAny_pure hq'
  refine wpAny_bind (wpAny_call (codeAny_call_builtin F.init.plain F.initEntry (chk ?_)))
  wp_walk
  refine hq _ _ ⟨fun b o hb => ?_, Heap.get?_none_of_le (Nat.le_succ _), h.objs.size + 2, ?_, Heap.get?_none_of_le (by omega), ?_⟩ rfl
  · rw [Heap.get?_update_other _ _ (Nat.ne_of_gt (Nat.lt_succ_of_lt (Heap.lt_size hb)))]
    exact Heap.get?_push_of_some _ (Heap.get?_push_of_some _ (Heap.get?_push_of_some _ hb))
  · rw [Heap.get?_update_self _ (Heap.get?_push_of_some _ hget) rfl]
    simp only [Heap.size_push]
    rfl
  · rw [Heap.get?_update_other _ _ (show h.objs.size + 1 ≠ h.objs.size + 2 by omega)]
    exact Heap.get?_push_at (by simp only [Heap.size_push]) rfl
theorem make_exc0 (T : excTail bm = true) {rest : List Value} {R : Result → Shared → Prop}
    (hC : h.get? C = some (excClassObj nm q C N bs bm hdct sn sub ab col dd k0 k1 k2 k3 k5 "ValueError.__new__"))
    (hi : Looks (model prog w) h (typeLookup (.ref C) "__init__") (some (.builtin "ValueError.__init__")))
    (hq : ∀ h' e, Heap.MadeExcOf h h' e (.ref C) rest → e = h.objs.size + 1 → R (.ok (.ret (.ref e))) ⟨h', g, d, t, os⟩) (hrest : rest.length ≤ sizeLine) :
    codeAny (model prog w) A (.call (.ref C) ⟨rest, []⟩) R ⟨h, g, d, t, os⟩ := by
  have f1 := tc_lookup
  have f2 := tc_bind (.ref C)
  have hT : (⟨h, g, d, t, os⟩ : Shared).TypeIs (.ref C) "type" := ⟨_, hC, rfl⟩
  refine codeAny_of_tree ?_
  show wpAny _ _ (callAny (.ref C) _) _ _ _
  repeat (any_goals (first | assumption | with_reducible refine wpAny_loadPart_at hC ?_ | wp_step))
  refine ⟨rfl, ?_⟩
  exact codeAny_call_builtin_at (Code.quiet_builtin _ (by decide +kernel)) entry_typeCall (wpAny_check_type_call_sub hC (wpAny_type_call_X0 T hC hi hq hrest))
end
end L2

set_option maxRecDepth 100000
set_option maxHeartbeats 4000000
namespace L2
open PySem PySem.Spec PySem.W PyProof.Rows
theorem ECls.cls {K : PySem.W.Frag} {C : Addr} (c : ECls K C) : ∃ cd, clsIn K C = some cd ∧ excTail cd.mro = true ∧ cd.hasDict = true := by
  obtain ⟨nm, q, N, bs, bm, hdct, sn, sub, ab, col, dd, k0, k1, k2, k3, k5, hl, ht, hd⟩ := c.obj
  refine ⟨_, by unfold clsIn; rw [hl], ?_, hd⟩
  obtain ⟨rs, e⟩ := excTail_eq ht
  show excTail (Value.ref C :: bm) = true
  rw [e]
  clear e
  show excTail (List.map Value.ref (C :: rs) ++ valTail) = true
  have : ∀ l : List Addr, excTail (List.map Value.ref l ++ valTail) = true := fun l => by
    induction l with
    | nil => decide +kernel
    | cons a r ih => cases r <;> exact ih
  exact this _
theorem ECls.sub {K : PySem.W.Frag} {C : Addr} (c : ECls K C) {T : String} (h : valTail.contains (.type T) = true) : mroIn K C (.type T) = some true := by
  obtain ⟨cd, h1, h2, _⟩ := c.cls
  obtain ⟨rs, e⟩ := excTail_eq h2
  unfold mroIn
  rw [h1, Option.bind_some, e, tail_has rs h, if_neg]
  cases rs <;> exact Bool.false_ne_true
section
variable {prog : Program} {w : World} {A : Around} {E : Value → Shared → Prop} {s : Shared} {K : PySem.W.Frag} {x C : Addr} {ox : Obj} {od : Option Obj} {name : Str}
theorem get_excB {g a v : Value} {Q : Option Value → Shared → Prop} (X : K.In s.heap) (I : PySem.W.InstAt s.heap x ox C od) (hga : PySem.W.findIn K (.ref C) "__getattribute__" = some (some (.builtin "BaseException.__getattribute__"))) (hgt : PySem.W.findIn K (.ref C) "__getattr__" = some none)
    (hB : PySem.W.mroIn K C (.type "BaseException") = some true) (hf : PySem.W.findObj K C od name = some (.bind g a)) (hh : PySem.W.handedIn v = true)
    (h : ∀ {A' : Around} {R : Result → Shared → Prop}, R (.ok (.ret v)) { s with toks := s.toks + 1 } → codeAny (model prog w) A' (.call g ⟨[a, .ref x, .ref C], []⟩) R { s with toks := s.toks + 1 }) (hq : Q (some v) { s with toks := s.toks + 1 }) :
    wpAny (model prog w) A (getAttr? (.ref x) name) Q E s := by
  obtain ⟨hp, gg, d, t, os⟩ := s
  have L0 := I.type (M := model prog w)
  have L1 := PySem.W.looks_findIn (M := model prog w) X hga
  have L2 := PySem.W.looks_findIn (M := model prog w) X hgt
  have L3 := PySem.W.looks_find (M := model prog w) X I hf
  have L4 := PySem.W.looks_mroIn (M := model prog w) X hB
  unfold getAttr? getAttrBy? getAttrBy
  refine wpAny_bind (wpAny_mkText (wpAny_bind (wpAny_attempt (wpAny_holding (wpAny_bind (L0.at (wpAny_bind (L1.at ?_))))))))
  have hx2 : (Value.builtin "BaseException.__getattribute__" == Value.builtin "object.__getattribute__") = false := by decide +kernel
  have hx1 : (onTheHeap (Value.ref C) && Value.builtin "BaseException.__getattribute__" == Value.builtin "object.__getattribute__") = false := by rw [hx2]; rfl
  dsimp only
  rw [hx1, if_neg Bool.false_ne_true]
  unfold getAttrByItsOwn
  refine wpAny_bind (show wpAny _ _ (typeLookup (.ref C) "__getattr__") _ _ _ from L2.at ?_)
  refine wpAny_bind (wpAny_attempt (wpAny_holding ?_))
  have hx0 : (false && onTheHeap (Value.builtin "BaseException.__getattribute__")) = false := rfl
  unfold callGetattribute
  rw [hx0, if_neg Bool.false_ne_true]
  unfold boundAndCalled
  rw [bga_bind]
  refine wpAny_bind (wpAny_pure ?_)
  refine wpAny_call (codeAny_call_builtin (by decide +kernel) F.entry_bexc_ga (check_slot (i := "BaseException.__getattribute__") (owner := "BaseException") (n := "__getattribute__") (by decide +kernel) (by decide +kernel) (L0.andThen L4) (F.args_bexc_ga _ _) ?_))
  unfold Builtin.«object.__getattribute__»
  refine wpAny_bind (wpAny_pure (wpAny_bind (wpAny_pure (wpAny_bind (L0.at (wpAny_bind (L3.at ?_)))))))
  refine wpAny_bind (wpAny_holding (wpAny_call (h ?_)))
  refine wpAny_pure ?_
  show wpAny _ _ (handedOut v) _ _ _
  rw [PySem.W.handedOut_of hh]
  exact wpAny_pure (wpAny_pure hq)
theorem findObj_dataO {a g : Value} (hc : (clsIn K C).isSome = true) (ha : findIn K (.ref C) name = some (some a)) (hg : specialIn K a "__get__" = some (some g)) (ht : takesIn K a = some true) : findObj K C od name = some (.bind g a) := by
  obtain ⟨cd, hc⟩ := Option.isSome_iff_exists.mp hc
  unfold findObj
  rw [hc, Option.bind_some, ha, Option.bind_some]
  simp [hg, ht]
theorem exc_class {Q : Option Value → Shared → Prop} (c : ECls K C) (X : K.In s.heap) (I : InstAt s.heap x ox C od) (h : Q (some (.ref C)) { s with toks := s.toks + 1 }) : wpAny (model prog w) A (getAttr? (.ref x) "__class__") Q E s := by
  have hf : findObj K C od "__class__" = some (.bind (.builtin "getset_descriptor.__get__") (.builtin "object.__class__")) := findObj_dataO (by obtain ⟨cd, hc, _⟩ := c.cls; rw [hc]; rfl) c.ca c.hn c.htk
  exact get_excB (v := .ref C) X I c.ga c.gt (c.sub (by decide +kernel)) hf rfl (fun q => class_get (s := { s with toks := s.toks + 1 }) (ox := ox) (od := od) X I (c.sub (by decide +kernel)) q) h
end
theorem kitx_exc {K : PySem.W.Frag} {x D : Addr} (c : ECls K D) : KitX K (.ref x) (.ref D) (fun h => ∃ ox od, InstAt h x ox D od) where
  ty := fun _ _ _ ⟨_, _, I⟩ => I.type
  it := fun _ _ X _ => by
    obtain ⟨cdD, hcD, _⟩ := c.cls
    unfold clsIn at hcD
    split at hcD
    · rename_i c' d' cd' sl' ho
      intro A' Q' E' s' k q
      unfold isType loadHead
      exact wpAny_bind (wpAny_loadPart (k _ _ (X _ _ ho)) (wpAny_pure q))
    · cases hcD
  ne := fun h tp dd its n sl X htp => by
    obtain ⟨cdD, hcD, _⟩ := c.cls
    refine Bool.eq_false_iff.mpr fun q => ?_
    have e : D = tp := Value.ref.inj (beq_iff_eq.mp q)
    subst e
    unfold clsIn at hcD
    split at hcD
    · rename_i c' d' cd' sl' ho
      have z := (X _ _ ho).symm.trans htp
      cases z
    · cases hcD
  ca := fun X ⟨_, _, I⟩ k => exc_class c X I k
/-- an exception and its fields -/
def ExcAt (H : Hp) (a C : Addr) (fs : List (Str × V)) : Prop := (fs = [] ∧ (H a = some (excO a C none) ∨ H a = some (flO a C none))) ∨ ∃ dx, dx ≠ a ∧ (H a = some (excO a C (some dx)) ∨ H a = some (flO a C (some dx))) ∧ H dx = some (xdO dx fs)
/-- the type of a value, exceptions among them -/
inductive TyX (K : PySem.W.Frag) (H : Hp) (x : V) (t : Value) : Prop where
  | of (h : TyOf K H x t)
  | exc {a C : Addr} {fs : List (Str × V)} (ex : x = .ref a) (e : ExcAt H a C fs) (c : ECls K C) (et : t = .ref C)
  | sqT {a : Addr} {xs : List V} (ex : x = .ref a) (e : SqT K H a xs) (et : t = .type "tuple")
  | sqL {a : Addr} {xs : List V} (ex : x = .ref a) (e : SqL K H a xs) (et : t = .type "list")
section
variable {X : Cx} {pins : List (Addr × Obj)} {σ : St} {H : Hp} {s : Shared} {A : Around} {E : Value → Shared → Prop} {a C : Addr} {fs : List (Str × V)}
theorem exc_at {dx : Option Addr} (I : Inv X pins σ H s) (e : H a = some (excO a C dx)) : ∃ vs : Array Value, s.heap.get? a = some (excObj C dx vs) ∧ vs.size = 6 ∧ vs[1]? = some .none := (I.hok a _ e).1
theorem fl_at {dx : Option Addr} (I : Inv X pins σ H s) (e : H a = some (flO a C dx)) : ∃ vs : Array Value, s.heap.get? a = some (excObj C dx vs) ∧ vs.size = 6 := (I.hok a _ e).1
theorem ex_at {dx : Option Addr} (I : Inv X pins σ H s) (e : H a = some (excO a C dx) ∨ H a = some (flO a C dx)) : ∃ vs : Array Value, s.heap.get? a = some (excObj C dx vs) ∧ vs.size = 6 := by
  rcases e with e | e
  · obtain ⟨vs, h1, h2, _⟩ := exc_at I e; exact ⟨vs, h1, h2⟩
  · exact fl_at I e
theorem xd_at {dx : Addr} (I : Inv X pins σ H s) (e : H dx = some (xdO dx fs)) : fs.length ≤ 1000 ∧ ∃ mA, s.heap.Ns1 dx mA ∧ (∀ f, RelO (fs.lookup f) (mA f)) ∧ PySem.Within mA (fs.map (·.1)) := (I.hok dx _ e).1
/-- the exception in the heap itself -/
theorem ExcAt.inst (I : Inv X pins σ H s) (e : ExcAt H a C fs) : ∃ vs dx od, InstAt s.heap a (excObj C dx vs) C od ∧ (∀ o, od = some o → ∀ name, ∃ v, lookIn name o = some v ∧ RelO (fs.lookup name) v) ∧ (od = none → fs = []) := by
  rcases e with ⟨rfl, e⟩ | ⟨dx, ne, e, ed⟩
  · obtain ⟨vs, h1, _⟩ := ex_at I e
    exact ⟨vs, none, none, ⟨h1, rfl, rfl, True.intro⟩, fun o z => (nomatch z), fun _ => rfl⟩
  · obtain ⟨vs, h1, _⟩ := ex_at I e
    obtain ⟨_, mA, hn, hr, _⟩ := xd_at I ed
    obtain ⟨od, ho, hl⟩ := lookIn_ns hn
    refine ⟨vs, some dx, some od, ⟨h1, rfl, rfl, ho⟩, fun o z name => ?_, fun z => nomatch z⟩
    cases z
    exact ⟨_, hl name, hr name⟩
theorem isinst_okX {Q : Value → Shared → Prop} {c : Value} {b : Bool} {x : V} {u t : Value} (I : Inv X pins σ H s) (rx : RelV x u) (ty : TyX X.K H x t) (e : PySem.W.kitOne X.K t c = some b) (h : ∀ tk, Q (.bool b) { s with toks := tk }) :
    wpAny (model X.prog X.w) A (call (.builtin "isinstance") [u, c]) Q E s := by
  cases ty with
  | of ty => exact isinst_ok I rx ty e h
  | @exc a C fs ex ea cl et =>
    subst ex et
    cases (show u = Value.ref a from rx)
    obtain ⟨vs, dx, od, J, _⟩ := ea.inst I
    exact PySem.W.kia_one (kitx_exc cl) I.kIn ⟨_, _, J⟩ e (fun z => nomatch z) h
  | @sqT a xs ex q et =>
    subst ex et
    cases (show u = Value.ref a from rx)
    obtain ⟨_, _, ⟨o, h1, h2, _⟩, _⟩ := I.tuple q
    exact PySem.W.kia_one PySem.W.kitx_tuple I.kIn ⟨o, h1, h2⟩ e (fun z => nomatch z) h
  | @sqL a xs ex q et =>
    subst ex et
    cases (show u = Value.ref a from rx)
    obtain ⟨_, _, ⟨o, _, h1, h2, _⟩, _⟩ := I.list q
    exact PySem.W.kia_one PySem.W.kitx_list I.kIn ⟨o, h1, h2⟩ e (fun z => nomatch z) h
theorem getexc_ok {b : Bool} {f : Str} {v : V} {Q : Value → Shared → Prop} (I : Inv X pins σ H s) (e : ExcAt H a C fs) (c : ECls X.K C) (n : NoAttr X.K C f) (l : fs.lookup f = some v)
    (h : ∀ u s', Inv X pins σ H s' → RelV v u → Q u s') : wpAny (model X.prog X.w) A (getAttr (.ref a) f b) Q E s := by
  obtain ⟨vs, dx, od, J, hl, hn⟩ := e.inst I
  obtain ⟨cd, hc, _, hd⟩ := c.cls
  cases od with
  | none => rw [hn rfl] at l; cases l
  | some o =>
    obtain ⟨u?, h1, h2⟩ := hl o rfl f
    rw [l] at h2
    obtain ⟨u, hu, ru⟩ := RelO.some_of h2
    subst hu
    refine get_exc I.kIn J c.ga c.gt (c.sub (by decide +kernel)) (PySem.W.findObj_own (by unfold hasDictIn; rw [hc]; exact hd) n rfl h1) (handed_of ru) (h u _ (I.tok _) ru)
/-- what a field's assignment makes of the abstract heap -/
def SetX (H : Hp) (a C : Addr) (f : Str) (y : V) (N : Hp → Prop) : Prop :=
  (H a = some (excO a C none) ∧ ∀ dx, H dx = none → dx ≠ a → N (upd (upd H dx (xdO dx [(f, y)])) a (excO a C (some dx)))) ∨
  ∃ dx fs, dx ≠ a ∧ H a = some (excO a C (some dx)) ∧ H dx = some (xdO dx fs) ∧ fs.length < 1000 ∧ N (upd H dx (xdO dx (putF f y fs)))
theorem excO_ok {P : Program} {w : World} {H : Hp} {h : Heap} {dx : Option Addr} {vs : Array Value} (h1 : h.get? a = some (excObj C dx vs)) (h2 : vs.size = 6) (h3 : vs[1]? = some .none) : ObjOk P w H h a (excO a C dx) :=
  ⟨⟨vs, h1, h2, h3⟩, ⟨_, h1⟩, fun _ _ ⟨vs', q1, q2⟩ k => ⟨vs', k _ q1, q2⟩⟩
theorem flO_ok {P : Program} {w : World} {H : Hp} {h : Heap} {dx : Option Addr} {vs : Array Value} (h1 : h.get? a = some (excObj C dx vs)) (h2 : vs.size = 6) : ObjOk P w H h a (flO a C dx) :=
  ⟨⟨vs, h1, h2⟩, ⟨_, h1⟩, fun _ _ ⟨vs', q1, q2⟩ k => ⟨vs', k _ q1, q2⟩⟩
theorem xdO_ok {P : Program} {w : World} {H : Hp} {h : Heap} {dx : Addr} {mA : Str → Option Value} (z : fs.length ≤ 1000) (h1 : h.Ns1 dx mA) (h2 : ∀ f, RelO (fs.lookup f) (mA f)) (h3 : PySem.Within mA (fs.map (·.1))) : ObjOk P w H h dx (xdO dx fs) :=
  ⟨⟨z, mA, h1, h2, h3⟩, (let ⟨o, _, _, e, _⟩ := h1; ⟨o, e⟩), fun _ _ ⟨z', mB, q1, q2, q3⟩ k => ⟨z', mB, q1.at k, q2, q3⟩⟩
theorem setexc_ok {f : Str} {y : V} {u : Value} {Q : Unit → Shared → Prop} {N : Hp → Prop} (I : Inv X pins σ H s) (c : ECls X.K C) (n : NoAttr X.K C f) (ry : RelV y u) (h0 : SetX H a C f y N)
    (h : ∀ H' s', Inv X pins σ H' s' → N H' → Q () s') : wpAny (model X.prog X.w) A (setAttr (.ref a) f u) Q E s := by
  obtain ⟨cd, hc, hp, hd⟩ := c.cls
  rcases h0 with ⟨e, hN⟩ | ⟨dx, fs, ne, e, ed, hz, hN⟩
  · obtain ⟨vs, h1, h2, h3⟩ := exc_at I e
    refine set_exc0 I.kIn h1 c.sa hc hp hd n fun h' q1 q2 q3 => ?_
    have fr : H s.heap.objs.size = none := I.hok.fresh (Nat.le_refl _)
    have ane : s.heap.objs.size ≠ a := fun z => by rw [z, e] at fr; cases fr
    refine h _ _ ?_ (hN _ fr ane)
    obtain ⟨o, es, ep, eo, hrest⟩ := id q2
    have eo1 : (s.heap.push o).get? s.heap.objs.size = some o := Heap.get?_push_size s.heap (Heap.get?_some_iff.mp eo).2
    have I1 := I.laid (a := s.heap.objs.size) (o := xdO s.heap.objs.size [(f, y)]) (h' := s.heap.push o) (t' := s.toks + 2) (fun b u e => Heap.get?_push_of_some _ e) (Nat.le_refl _)
      (xdO_ok (by simp) (q2.at fun o' e' => by rw [eo] at e'; cases e'; exact eo1) (fun g => by
        show RelO (List.lookup g [(f, y)]) (if g = f then some u else none)
        by_cases q : g = f
        · rw [if_pos q, q]; simp only [List.lookup, beq_self_eq_true]; exact ry
        · rw [if_neg q]; simp only [List.lookup, beq_eq_false_iff_ne.mpr q]; exact True.intro) (fun g hg => by
        by_cases q : g = f
        · rw [q]; simp
        · exact absurd (by show (if g = f then some u else none) = none; rw [if_neg q]) hg))
    exact I1.write (x := a) (e := a) (t' := s.toks + 2) (by rw [upd_ne (Ne.symm ane), e]; exact True.intro) (.inl rfl) (fun b u hb eb => by
      by_cases hs : b = s.heap.objs.size
      · rw [hs] at eb ⊢
        rw [eo1] at eb
        cases eb
        exact eo
      · refine q3 b u hb ?_
        rcases Heap.get?_push_cases eb with z | z
        · exact absurd z.1 hs
        · exact z) ⟨_, q1⟩ (excO_ok q1 h2 h3)
  · obtain ⟨vs, h1, h2, h3⟩ := exc_at I e
    obtain ⟨z, mA, hn, hr, wi⟩ := xd_at I ed
    refine set_exc (ns := fs.map (·.1)) I.kIn h1 hn ne c.sa hc hp hd n wi (by rw [List.length_map, sizeLine_eq]; omega) fun h' q1 q2 q3 => ?_
    refine h _ _ ?_ hN
    refine I.write (x := dx) (e := dx) (by rw [ed]; exact True.intro) (.inl rfl) (fun b q hb z => (q3.2 b hb).trans z) (let ⟨o, _, _, e', _⟩ := q2; ⟨o, e'⟩) ?_
    refine xdO_ok ?_ q2 (fun g => ?_) (fun g hg => ?_)
    · have := length_putF f y fs; omega
    · show RelO ((putF f y fs).lookup g) (if g = f then some u else mA g)
      rw [lookup_putF]
      by_cases q : g = f
      · rw [if_pos q, if_pos q]; exact ry
      · rw [if_neg q, if_neg q]; exact hr g
    · by_cases q : g = f
      · rw [q]; exact (keys_putF f y fs).1
      · refine (keys_putF f y fs).2 g (wi g fun z => hg ?_)
        show (if g = f then some u else mA g) = none
        rw [if_neg q]; exact z
theorem Inv.madeX (I : Inv X pins σ H s) (C : Addr) (rest : List Value) : Inv X pins σ (upd H (s.heap.objs.size + 1) (excO (s.heap.objs.size + 1) C none)) { s with heap := excHeap s.heap C rest } := by
  have hget : (excHeap s.heap C rest).get? (s.heap.objs.size + 1) = some (excObj C none #[.ref s.heap.objs.size, .none, .none, .none, .bool false, .none]) := by heap_get
  exact I.laid (t' := s.toks) (fun b u e => Heap.get?_push_of_some _ (Heap.get?_push_of_some _ e)) (Nat.le_succ _) (excO_ok hget rfl rfl)
variable {CX : CXT} {k : Nat} {f : Addr} {fd : FuncData} {ps : List Str} {sp : Sp} {dvs : List V} {ds us : List Value} {vs : List V} {Q : VK}
theorem run_makeX0 (c : ECls X.K C) (hi : findIn X.K (.ref C) "__init__" = some (some (.builtin "ValueError.__init__"))) (I : Inv X pins σ H s) (r : Vals vs us) (hl : vs.length ≤ 1000) (h : ∀ a, H a = none → Q (.ref a) (upd H a (excO a C none))) :
    wpAny (model X.prog X.w) X.A (call (.ref C) us) (EP X pins σ Q) X.xe s := by
  obtain ⟨nm, q, N, bs, bm, hdct, sn, sub, ab, col, dd, k0, k1, k2, k3, k5, hC, ht, _⟩ := c.obj
  obtain ⟨hh, g, d, t, os⟩ := s
  refine wpAny_call (make_exc0 ht (I.kIn _ _ hC) (looks_findIn I.kIn hi) (fun h' e M ee => ?_) (by rw [← r.length, sizeLine_eq]; omega))
  subst ee
  obtain ⟨kp, _, t0, q1, _, _⟩ := M
  refine ⟨.ref (hh.objs.size + 1), upd H (hh.objs.size + 1) (excO (hh.objs.size + 1) C none), ?_, rfl, h _ (I.hok.fresh (Nat.le_succ _))⟩
  exact I.laid (t' := t) kp (Nat.le_succ _) (excO_ok q1 rfl rfl)
theorem run_makeX (c : ECls X.K C) (hi : findIn X.K (.ref C) "__init__" = some (some (.ref f))) (hf : isFn X.K (.ref f) = true) (F : FnOk X.prog X.w X.K X.mg X.base CX k f fd ps sp) (hr : Room (k + 1) X.A) (hb : Binds X.K fd ps ds) (hd : Vals dvs ds)
    (I : Inv X pins σ H s) (r : Vals vs us) (hl : vs.length ≤ 1000) {EX : XK} (hx : ∀ e s1 s' H1, Inv X pins σ H1 s1 → CX X.stack H1 s1 EX e s' → X.xe e s')
    (h : ∀ a, H a = none → sp (.ref a :: (vs ++ dvs)) (upd H a (excO a C none)) (fun v H2 => v = .non ∧ Q (.ref a) H2) EX) :
    wpAny (model X.prog X.w) X.A (call (.ref C) us) (EP X pins σ Q) X.xe s := by
  obtain ⟨nm, q, N, bs, bm, hdct, sn, sub, ab, col, dd, k0, k1, k2, k3, k5, hC, ht, _⟩ := c.obj
  have hq := h (s.heap.objs.size + 1) (I.hok.fresh (Nat.le_succ _))
  have I2 := I.madeX C us
  have r2 : Vals (V.ref (s.heap.objs.size + 1) :: (vs ++ dvs)) (Value.ref (s.heap.objs.size + 1) :: (us ++ ds)) := .cons rfl (r.append hd)
  have hlen : (Value.ref (s.heap.objs.size + 1) :: us ++ ds).length = ps.length := by
    have e := r2.length
    rw [F.len _ _ _ _ hq] at e
    exact e.symm
  refine wpAny_call (make_exc (f := f) ht (I.kIn _ _ hC) (looks_findIn I.kIn hi) (fun self => PySem.W.bind_fn I.kIn self (beq_iff_eq.mp hf)) (codeAny_mono (F.run _ X.stack { s with heap := excHeap s.heap C us } _ ⟨Value.ref (s.heap.objs.size + 1) :: us, []⟩ (Value.ref (s.heap.objs.size + 1) :: (us ++ ds)) _ _ EX (hr.make C us [])
    (I2.env0.make C us []) (hb _ (Value.ref (s.heap.objs.size + 1) :: us) I2.kIn hlen) r2 hq) fun r s' hq' => ?_) (by rw [← r.length, sizeLine_eq]; omega))
  cases r with
  | error e => exact hx e _ s' _ I2 hq'
  | ok fl =>
    cases fl with
    | ret u =>
      obtain ⟨v, H', I3, rv, ev, q3⟩ := I2.after hq'
      subst ev
      exact ⟨rv, ⟨V.ref (s.heap.objs.size + 1), H', I3, rfl, q3⟩⟩
    | next => exact False.elim hq'
    | brk => exact False.elim hq'
    | cont => exact False.elim hq'
end
end L2

set_option maxRecDepth 100000
set_option maxHeartbeats 4000000
namespace L2
open PySem PySem.Spec PyProof.Rows
def Ite (K : PySem.W.Frag) (l : Addr) : It :=
  ⟨fun i H => ∃ xs x, SqL K H l xs ∧ xs[i]? = some x,
   fun i H v H' => ∃ T x, H T = none ∧ v = .ref T ∧ (∀ xs, SqL K H l xs → xs[i]? = some x) ∧ H' = upd H T (.tup [.int i, x]),
   fun i H => ∃ xs, SqL K H l xs ∧ xs.length ≤ i⟩
theorem turn_enum {P : Program} {w : World} {K : PySem.W.Frag} {elts : List Expr} {kt : Nat} {pt : Pos} {e it l : Addr} (ne : e ≠ it) :
    Turn P w K (.Tuple elts kt pt) (Ite K l) [e, it] e (fun i h => (∃ old, IsEnum h e it (i : Int) old) ∧ h.IsListIter it l i) where
  mem := by simp
  obj := fun i h st b hb => by
    obtain ⟨⟨old, he⟩, ⟨o1, e1, c1, d1⟩⟩ := st
    have hb : b = e ∨ b = it := by simpa using hb
    rcases hb with rfl | rfl
    · exact ⟨_, he, fun v q => nomatch q⟩
    · exact ⟨o1, e1, fun v q => by rw [d1] at q; cases q⟩
  keep := fun i h h' st k => by
    obtain ⟨⟨old, he⟩, h1⟩ := st
    exact ⟨⟨old, k e (by simp) _ he⟩, h1.at fun o q => k it (by simp) o q⟩
  item := by
    intro X hP hw hK hc i pins s σ H E I hf st hg
    subst hP hw hK
    obtain ⟨xs, x, q1, hx⟩ := hg
    obtain ⟨its1, r1, p1, z1⟩ := I.list q1
    obtain ⟨u, hu, ru⟩ := r1.get hx
    obtain ⟨⟨old, he⟩, h1⟩ := st
    refine wpAny_pyNext_enum_item he h1 p1.isList (x := u) (by simpa using hu) ne fun h' a1 a2 a3 a4 hk => ?_
    refine ⟨_, rfl, wpAny_letOwnedTupleGo_enum a1 fun h'' hz' hs' => ?_⟩
    have hT := I.hok.fresh (Nat.le_refl s.heap.objs.size)
    have up' : ∀ b o, b ∉ [e, it] → s.heap.get? b = some o → h''.get? b = some o := fun b o hb q => by
      have b1 : b ≠ e := by rintro rfl; exact hb (by simp)
      have b2 : b ≠ it := by rintro rfl; exact hb (by simp)
      exact hs'.extBut b o b1 (hk b o b1 b2 q)
    have nT : ∀ {b o}, s.heap.get? b = some o → b ≠ s.heap.objs.size := fun q => Nat.ne_of_lt (Heap.lt_size q)
    have Tnew : h''.get? s.heap.objs.size = some { cls := .type "tuple", data := .seq #[.int i s.toks, u] } := hs'.extBut _ _ (Ne.symm (nT he)) a3
    have I1 : Inv X pins σ (upd H s.heap.objs.size (.tup [.int i, x])) { s with heap := h'', toks := s.toks + 1 } :=
      I.turnedN (t' := s.toks + 1) (ch := [e, it]) (fun b hb => hf b hb) up' (Nat.le_refl _) ⟨by show 2 ≤ sizeLine; decide, [.int i s.toks, u], .cons ⟨_, rfl⟩ (.cons ru .nil), ⟨_, Tnew, rfl, _, rfl⟩⟩
    refine ⟨.ref s.heap.objs.size, _, I1, rfl, ⟨s.heap.objs.size, x, hT, rfl, fun xs' h' => by rw [I.list_inj h' q1]; exact hx, rfl⟩, ⟨⟨_, hz'⟩, a2.at fun o q => hs'.extBut _ o (Ne.symm ne) q⟩, fun b hb => ?_⟩
    have q := (hf b hb).1
    rw [upd_ne ?_]
    · exact q
    · have hb : b = e ∨ b = it := by simpa using hb
      rcases hb with rfl | rfl
      · exact nT he
      · obtain ⟨_, q, _⟩ := h1; exact nT q
  done := by
    intro X hP hw hK hc i pins s σ H E I hf st hg
    subst hP hw hK
    obtain ⟨xs, q1, hx⟩ := hg
    obtain ⟨its1, r1, p1, z1⟩ := I.list q1
    have e1 := r1.length
    obtain ⟨⟨old, he⟩, h1⟩ := st
    refine wpAny_pyNext_enum_end (I.ok.hd hc) he h1 p1.isList (by simp; omega) fun h' hk => ⟨rfl, ?_⟩
    refine I.turnedL (t' := s.toks) (ch := [e, it]) (fun b hb => hf b hb) fun b o hb q => ?_
    have b2 : b ≠ it := by rintro rfl; exact hb (by simp)
    exact hk b o b2 q
  self := fun A i s Q E st h => let ⟨_, he⟩ := st.1; wpAny_pyIter_enum he h
end L2

set_option maxRecDepth 100000
set_option maxHeartbeats 4000000
namespace L2
open PySem PySem.Spec PyProof.Rows
open Sem (wp)
section
variable {M : Model} {A : Around} {E : Value → Shared → Prop} {env : Env}
variable {nm q : Str} {C N : Addr} {bs bm : List Value} {hdct : Bool} {sn : List Str} {sub : List Value} {ab : Bool} {col : Option Bool} {dd : Option Addr} {k0 k1 k2 k3 k5 : Option Value} {newId : String}
end
section
variable {X : Cx} {e : Expr} {te : TE} {pos : Pos}
/-- raise e -/
def rRaise (K : PySem.W.Frag) (R : EK) : VK := fun x H => match x with
  | .ref a => ∃ C dx, H a = some (excO a C dx) ∧ ECls K C ∧ R a (upd H a (flO a C dx))
  | _ => False
theorem ps_raise {Ex : St → EK} (m : Meets X Ex) (hh : X.A.handled = none) (he : PE X e te) : PS X (.Raise (some e) none pos) (fun _ σ H => te σ H (rRaise X.K (Ex σ))) := by
  intro pins s σ H D I h
  rw [arm_exec_Raise]
  show wpAny _ _ (do standAt pos; raiseStmt X.env (some (do let v ← eval e X.env; standAt pos; pure v)) none) _ _ s
  refine wpAny_bind (wpAny_standAt ?_)
  unfold raiseStmt
  refine wpAny_bind (wpAny_bind (thn (he pins s σ H _ I h) fun v s1 ⟨x, H1, I1, r1, q1⟩ => wpAny_bind (wpAny_standAt (wpAny_pure ?_))))
  cases x with
  | ref a =>
    cases r1
    obtain ⟨C, dx, ea, c, q⟩ := q1
    obtain ⟨vs, g1, g2, g3⟩ := exc_at I1 ea
    obtain ⟨nm, qn, N, bs, bm, hdct, sn, sub, ab, col, dd, k0, k1, k2, k3, k5, hl, ht, hd⟩ := c.obj
    have hC := I1.kIn _ _ hl
    have hb : bm.contains (.type "BaseException") = true := excTail_has ht (by decide +kernel)
    have I2 : Inv X pins σ (upd H1 a (flO a C dx)) s1 := by
      have := I1.write (x := a) (e := a) (h' := s1.heap) (t' := s1.toks) (o := flO a C dx) (by rw [ea]; exact True.intro) (.inl rfl) (fun b u _ z => z) ⟨_, g1⟩ (flO_ok g1 g2)
      exact this
    have hx := m pins σ _ s1 a I2 ⟨C, dx, vs, upd_same, g1, g2, .inl g3⟩ q
    have hcB : (Value.ref C :: bm).contains (.type "BaseException") = true := by rw [List.contains_cons, hb, Bool.or_true]
    obtain ⟨hp, g, d, tk, os⟩ := s1
    repeat (first | with_reducible refine wpAny_field g1 rfl g3 ?_ | with_reducible refine wpAny_loadPart_at g1 ?_ | with_reducible refine wpAny_loadPart_at hC ?_ | (with_reducible refine wpAny_isSubtype_exc hC ?_; rw [hcB]) | wp_step)
    exact wpAny_raiseNew_none hh hx
  | _ => exact (show False from q1).elim
end
end L2

set_option maxRecDepth 100000
set_option maxHeartbeats 4000000
namespace L2
open PySem PySem.Spec PyProof.Rows
inductive Dt where
  | at_ (v : V)
  | lst (l : List Dt)
  | tup (l : List Dt)
mutual
def deq : Dt → Dt → Bool
  | .at_ v, .at_ w => eqV v w
  | .lst xs, .lst ys => deqs xs ys
  | .tup xs, .tup ys => deqs xs ys
  | _, _ => false
def deqs : List Dt → List Dt → Bool
  | [], [] => true
  | x :: xs, y :: ys => deq x y && deqs xs ys
  | _, _ => false
end
mutual
def dep : Dt → Nat
  | .at_ _ => 0
  | .lst l => deps l + 1
  | .tup l => deps l + 1
def deps : List Dt → Nat
  | [] => 0
  | x :: xs => Nat.max (dep x) (deps xs)
end
mutual
def At (K : PySem.W.Frag) (H : Hp) : Dt → V → Prop
  | .at_ v, x => x = v ∧ flatV v = true
  | .lst ds, x => ∃ a xs, x = .ref a ∧ SqL K H a xs ∧ AtL K H ds xs
  | .tup ds, x => ∃ a xs, x = .ref a ∧ SqT K H a xs ∧ AtL K H ds xs
def AtL (K : PySem.W.Frag) (H : Hp) : List Dt → List V → Prop
  | [], xs => xs = []
  | d :: ds, xs => ∃ y ys, xs = y :: ys ∧ At K H d y ∧ AtL K H ds ys
end
theorem AtL.length {K : PySem.W.Frag} {H : Hp} : ∀ {ds : List Dt} {xs : List V}, AtL K H ds xs → xs.length = ds.length
  | [], xs, h => by unfold AtL at h; subst h; rfl
  | d :: ds, xs, h => by
    unfold AtL at h
    obtain ⟨y, ys, rfl, _, h2⟩ := h
    rw [List.length_cons, List.length_cons, AtL.length h2]
theorem eqV_refl {v : V} (h : flatV v = true) : eqV v v = true := by
  cases v <;> first | rfl | (exact beq_self_eq_true _) | exact absurd (show false = true from h) Bool.false_ne_true
mutual
theorem deq_refl {K : PySem.W.Frag} {H : Hp} : ∀ {d : Dt} {x : V}, At K H d x → deq d d = true
  | .at_ v, x, h => by unfold At at h; unfold deq; exact eqV_refl h.2
  | .lst l, x, h => by unfold At at h; obtain ⟨a, xs, _, _, h⟩ := h; unfold deq; exact deqs_refl h
  | .tup l, x, h => by unfold At at h; obtain ⟨a, xs, _, _, h⟩ := h; unfold deq; exact deqs_refl h
theorem deqs_refl {K : PySem.W.Frag} {H : Hp} : ∀ {ds : List Dt} {xs : List V}, AtL K H ds xs → deqs ds ds = true
  | [], xs, h => by unfold deqs; rfl
  | d :: ds, xs, h => by
    unfold AtL at h
    obtain ⟨y, ys, rfl, h1, h2⟩ := h
    unfold deqs
    rw [deq_refl h1, deqs_refl h2]
    rfl
end
theorem deqs_len : ∀ {xs ys : List Dt}, xs.length ≠ ys.length → deqs xs ys = false
  | [], [], h => absurd rfl h
  | [], _ :: _, _ => by unfold deqs; rfl
  | _ :: _, [], _ => by unfold deqs; rfl
  | x :: xs, y :: ys, h => by
    unfold deqs
    rw [deqs_len (xs := xs) (ys := ys) (fun e => h (by rw [List.length_cons, List.length_cons, e])), Bool.and_false]
theorem deqs_range (z : Dt) : ∀ {xs ys : List Dt}, xs.length = ys.length → deqs xs ys = (List.range xs.length).all fun j => deq (xs.getD j z) (ys.getD j z)
  | [], [], _ => by unfold deqs; rfl
  | [], _ :: _, h => by simp at h
  | _ :: _, [], h => by simp at h
  | x :: xs, y :: ys, h => by
    unfold deqs
    rw [List.length_cons, List.range_succ_eq_map, List.all_cons, List.all_map, deqs_range z (xs := xs) (ys := ys) (by simpa using h)]
    rfl
section
variable {X : Cx} {pins : List (Addr × Obj)} {σ : St} {H : Hp} {s : Shared}
theorem not_both {a : Addr} {xs ys : List V} (I : Inv X pins σ H s) (h : SqL X.K H a xs) (h' : SqT X.K H a ys) : False := by
  obtain ⟨its, r, ⟨o, n, e, c, _, d⟩, _⟩ := I.list h
  obtain ⟨its', r', ⟨o', e', c', n', d'⟩, _⟩ := I.tuple h'
  rw [e] at e'; cases e'
  rw [c] at c'
  injection c' with c'
  exact absurd c' (by decide)
mutual
theorem at_inj (I : Inv X pins σ H s) : ∀ {d d' : Dt} {x : V}, At X.K H d x → At X.K H d' x → d = d'
  | .at_ v, .at_ w, x, h, h' => by unfold At at h h'; rw [← h.1, ← h'.1]
  | .at_ v, .lst l, x, h, h' => by
    unfold At at h h'
    obtain ⟨a, xs, rfl, _⟩ := h'
    rw [← h.1] at h
    exact absurd (show false = true from h.2) Bool.false_ne_true
  | .at_ v, .tup l, x, h, h' => by
    unfold At at h h'
    obtain ⟨a, xs, rfl, _⟩ := h'
    rw [← h.1] at h
    exact absurd (show false = true from h.2) Bool.false_ne_true
  | .lst l, .at_ v, x, h, h' => by
    unfold At at h h'
    obtain ⟨a, xs, rfl, _⟩ := h
    rw [← h'.1] at h'
    exact absurd (show false = true from h'.2) Bool.false_ne_true
  | .tup l, .at_ v, x, h, h' => by
    unfold At at h h'
    obtain ⟨a, xs, rfl, _⟩ := h
    rw [← h'.1] at h'
    exact absurd (show false = true from h'.2) Bool.false_ne_true
  | .lst l, .lst l', x, h, h' => by
    unfold At at h h'
    obtain ⟨a, xs, rfl, q, h⟩ := h
    obtain ⟨a', xs', e, q', h'⟩ := h'
    cases e
    rw [I.list_inj q q'] at h
    rw [atL_inj I h h']
  | .tup l, .tup l', x, h, h' => by
    unfold At at h h'
    obtain ⟨a, xs, rfl, q, h⟩ := h
    obtain ⟨a', xs', e, q', h'⟩ := h'
    cases e
    rw [I.tuple_inj q q'] at h
    rw [atL_inj I h h']
  | .lst l, .tup l', x, h, h' => by
    unfold At at h h'
    obtain ⟨a, xs, rfl, q, h⟩ := h
    obtain ⟨a', xs', e, q', h'⟩ := h'
    cases e
    exact (not_both I q q').elim
  | .tup l, .lst l', x, h, h' => by
    unfold At at h h'
    obtain ⟨a, xs, rfl, q, h⟩ := h
    obtain ⟨a', xs', e, q', h'⟩ := h'
    cases e
    exact (not_both I q' q).elim
theorem atL_inj (I : Inv X pins σ H s) : ∀ {ds ds' : List Dt} {xs : List V}, AtL X.K H ds xs → AtL X.K H ds' xs → ds = ds'
  | [], [], _, _, _ => rfl
  | [], _ :: _, _, h, h' => by unfold AtL at h h'; obtain ⟨y, ys, e, _⟩ := h'; rw [h] at e; cases e
  | _ :: _, [], _, h, h' => by unfold AtL at h h'; obtain ⟨y, ys, e, _⟩ := h; rw [h'] at e; cases e
  | d :: ds, d' :: ds', xs, h, h' => by
    unfold AtL at h h'
    obtain ⟨y, ys, rfl, h1, h2⟩ := h
    obtain ⟨y', ys', e, h1', h2'⟩ := h'
    cases e
    rw [at_inj I h1 h1', atL_inj I h2 h2']
end
theorem flat_list {A : Around} {v : V} {u : Value} {a : Addr} {its : Array Value} (f : flatV v = true) (r : RelV v u) (hl : s.heap.IsList a its) (hu : A.units < cLine) : SeqAt.EqAt A s u (.ref a) false ∧ SeqAt.EqAt A s (.ref a) u false := by
  cases v with
  | non => cases r; exact ⟨.none_list hl hu, .list_none hl hu⟩
  | bl b => cases r; exact ⟨.bool_list b hl hu, .list_bool b hl hu⟩
  | int i => obtain ⟨t, rfl⟩ := r; exact ⟨.int_list i t hl hu, .list_int i t hl hu⟩
  | str i => obtain ⟨t, rfl⟩ := r; exact ⟨.str_list i t hl hu, .list_str i t hl hu⟩
  | _ => exact absurd (show false = true from f) Bool.false_ne_true
theorem flat_tuple {A : Around} {v : V} {u : Value} {a : Addr} {its : Array Value} (f : flatV v = true) (r : RelV v u) (hl : s.heap.IsTuple a its) (hu : A.units < cLine) : SeqAt.EqAt A s u (.ref a) false ∧ SeqAt.EqAt A s (.ref a) u false := by
  cases v with
  | non => cases r; exact ⟨.none_tuple hl hu, .tuple_none hl hu⟩
  | bl b => cases r; exact ⟨.bool_tuple b hl hu, .tuple_bool b hl hu⟩
  | int i => obtain ⟨t, rfl⟩ := r; exact ⟨.int_tuple i t hl hu, .tuple_int i t hl hu⟩
  | str i => obtain ⟨t, rfl⟩ := r; exact ⟨.str_tuple i t hl hu, .tuple_str i t hl hu⟩
  | _ => exact absurd (show false = true from f) Bool.false_ne_true
mutual
theorem eqAt_D (I : Inv X pins σ H s) : ∀ (d d' : Dt) (A : Around) (x y : V) (u v : Value), At X.K H d x → At X.K H d' y → RelV x u → RelV y v → A.units + dep d < cLine → SeqAt.EqAt A s u v (deq d d')
  | .at_ p, .at_ q, A, x, y, u, v, h, h', r, r', hu => by
    unfold At at h h'; unfold deq
    obtain ⟨rfl, f⟩ := h
    obtain ⟨rfl, f'⟩ := h'
    exact eqAt_V r r' f f'
  | .at_ p, .lst l, A, x, y, u, v, h, h', r, r', hu => by
    unfold At at h h'; unfold deq
    obtain ⟨rfl, f⟩ := h
    obtain ⟨a, xs, rfl, q, _⟩ := h'
    obtain ⟨its, _, pl, _⟩ := I.list q
    cases r'
    exact (flat_list f r pl.isList (by omega)).1
  | .at_ p, .tup l, A, x, y, u, v, h, h', r, r', hu => by
    unfold At at h h'; unfold deq
    obtain ⟨rfl, f⟩ := h
    obtain ⟨a, xs, rfl, q, _⟩ := h'
    obtain ⟨its, _, pl, _⟩ := I.tuple q
    cases r'
    exact (flat_tuple f r pl (by omega)).1
  | .lst l, .at_ p, A, x, y, u, v, h, h', r, r', hu => by
    unfold At at h h'; unfold deq
    obtain ⟨rfl, f⟩ := h'
    obtain ⟨a, xs, rfl, q, _⟩ := h
    obtain ⟨its, _, pl, _⟩ := I.list q
    cases r
    exact (flat_list f r' pl.isList (by omega)).2
  | .tup l, .at_ p, A, x, y, u, v, h, h', r, r', hu => by
    unfold At at h h'; unfold deq
    obtain ⟨rfl, f⟩ := h'
    obtain ⟨a, xs, rfl, q, _⟩ := h
    obtain ⟨its, _, pl, _⟩ := I.tuple q
    cases r
    exact (flat_tuple f r' pl (by omega)).2
  | .lst l, .tup l', A, x, y, u, v, h, h', r, r', hu => by
    unfold At at h h'; unfold deq
    obtain ⟨a, xs, rfl, q, _⟩ := h
    obtain ⟨b, ys, rfl, q', _⟩ := h'
    obtain ⟨its, _, pl, _⟩ := I.list q
    obtain ⟨its', _, pl', _⟩ := I.tuple q'
    cases r; cases r'
    exact .list_tuple pl.isList pl' (by omega)
  | .tup l, .lst l', A, x, y, u, v, h, h', r, r', hu => by
    unfold At at h h'; unfold deq
    obtain ⟨a, xs, rfl, q, _⟩ := h
    obtain ⟨b, ys, rfl, q', _⟩ := h'
    obtain ⟨its, _, pl, _⟩ := I.tuple q
    obtain ⟨its', _, pl', _⟩ := I.list q'
    cases r; cases r'
    exact .tuple_list pl pl'.isList (by omega)
  | .lst l, .lst l', A, x, y, u, v, h, h', r, r', hu => by
    by_cases e : x = y
    · subst e
      have := at_inj I h h'
      rw [← this, deq_refl h]
      have hx : ∃ a, x = .ref a := by unfold At at h; obtain ⟨a, _, e, _⟩ := h; exact ⟨a, e⟩
      obtain ⟨a, rfl⟩ := hx
      cases r; cases r'
      exact .same _
    · unfold At at h h'; unfold deq
      unfold dep at hu
      obtain ⟨a, xs, rfl, q, h⟩ := h
      obtain ⟨b, ys, rfl, q', h'⟩ := h'
      obtain ⟨its, ri, pl, _⟩ := I.list q
      obtain ⟨its', ri', pl', _⟩ := I.list q'
      cases r; cases r'
      have ne : a ≠ b := fun z => e (by rw [z])
      have e1 := h.length
      have e2 := h'.length
      have e3 := ri.length
      have e4 := ri'.length
      refine .of_refs ne ?_
      by_cases hl : l.length = l'.length
      · rw [deqs_range (.lst []) hl]
        have hsz : its.toArray.size = l.length := by simp; omega
        rw [← hsz]
        exact .lists pl.isList pl'.isList (by simp; omega) (by omega) fun j h1 h2 => by
          have := eqAts_D I l l' A.in1 xs ys its its' h h' ri ri' (by show A.units + 1 + deps l < cLine; omega) j (by simpa using h1) (by simpa using h2)
          simpa using this
      · rw [deqs_len hl]
        exact .lists_lengths pl.isList pl'.isList (by simp; omega) (by omega)
  | .tup l, .tup l', A, x, y, u, v, h, h', r, r', hu => by
    by_cases e : x = y
    · subst e
      have := at_inj I h h'
      rw [← this, deq_refl h]
      have hx : ∃ a, x = .ref a := by unfold At at h; obtain ⟨a, _, e, _⟩ := h; exact ⟨a, e⟩
      obtain ⟨a, rfl⟩ := hx
      cases r; cases r'
      exact .same _
    · unfold At at h h'; unfold deq
      unfold dep at hu
      obtain ⟨a, xs, rfl, q, h⟩ := h
      obtain ⟨b, ys, rfl, q', h'⟩ := h'
      obtain ⟨its, ri, pl, _⟩ := I.tuple q
      obtain ⟨its', ri', pl', _⟩ := I.tuple q'
      cases r; cases r'
      have ne : a ≠ b := fun z => e (by rw [z])
      have e1 := h.length
      have e2 := h'.length
      have e3 := ri.length
      have e4 := ri'.length
      refine .of_refs ne ?_
      have T := SeqAt.RcAt.tuples (A := A) (s := s) (e := fun j => deq (l.getD j (.lst [])) (l'.getD j (.lst []))) pl pl' (by omega) fun j h1 h2 => by
          have := eqAts_D I l l' A.in1 xs ys its its' h h' ri ri' (by show A.units + 1 + deps l < cLine; omega) j (by simpa using h1) (by simpa using h2)
          simpa using this
      by_cases hl : l.length = l'.length
      · rw [deqs_range (.lst []) hl]
        have hsz : its.toArray.size = l.length := by simp; omega
        have hsz' : its'.toArray.size = l.length := by simp; omega
        rw [hsz, hsz', Nat.min_self, beq_self_eq_true, Bool.and_true] at T
        exact T
      · rw [deqs_len hl]
        have hne : (its.toArray.size == its'.toArray.size) = false := by
          rw [beq_eq_false_iff_ne]; simp; omega
        rw [hne, Bool.and_false] at T
        exact T
theorem eqAts_D (I : Inv X pins σ H s) : ∀ (ds ds' : List Dt) (A : Around) (xs ys : List V) (us vs : List Value), AtL X.K H ds xs → AtL X.K H ds' ys → Vals xs us → Vals ys vs → A.units + deps ds < cLine →
    ∀ (j : Nat) (h1 : j < us.length) (h2 : j < vs.length), SeqAt.EqAt A s us[j] vs[j] (deq (ds.getD j (.lst [])) (ds'.getD j (.lst [])))
  | [], _, A, xs, ys, us, vs, h, h', r, r', hu => fun j h1 h2 => by
    unfold AtL at h
    subst h
    cases r
    cases h1
  | _ :: _, [], A, xs, ys, us, vs, h, h', r, r', hu => fun j h1 h2 => by
    unfold AtL at h'
    subst h'
    cases r'
    cases h2
  | d :: ds, d' :: ds', A, xs, ys, us, vs, h, h', r, r', hu => fun j h1 h2 => by
    unfold AtL at h h'
    obtain ⟨y, ys, rfl, q1, q2⟩ := h
    obtain ⟨z, zs, rfl, q1', q2'⟩ := h'
    cases r with
    | cons r1 r2 =>
      cases r' with
      | cons r1' r2' =>
        unfold deps at hu
        have m1 : dep d ≤ Nat.max (dep d) (deps ds) := Nat.le_max_left _ _
        have m2 : deps ds ≤ Nat.max (dep d) (deps ds) := Nat.le_max_right _ _
        cases j with
        | zero => exact eqAt_D I d d' A _ _ _ _ q1 q1' r1 r1' (by omega)
        | succ j => exact eqAts_D I ds ds' A _ _ _ _ q2 q2' r2 r2' (by omega) j (by simpa using h1) (by simpa using h2)
end
theorem isRef_D {K : PySem.W.Frag} {d : Dt} {a : Addr} (h : At K H d (.ref a)) : (∃ l xs, d = .lst l ∧ SqL K H a xs ∧ AtL K H l xs) ∨ (∃ l xs, d = .tup l ∧ SqT K H a xs ∧ AtL K H l xs) := by
  cases d with
  | at_ v =>
    unfold At at h
    rw [← h.1] at h
    exact absurd (show false = true from h.2) Bool.false_ne_true
  | lst l => unfold At at h; obtain ⟨b, xs, e, q, h⟩ := h; cases e; exact .inl ⟨l, xs, rfl, q, h⟩
  | tup l => unfold At at h; obtain ⟨b, xs, e, q, h⟩ := h; cases e; exact .inr ⟨l, xs, rfl, q, h⟩
theorem notRef_D {K : PySem.W.Frag} {d : Dt} {x : V} (h : At K H d x) (f : ∀ a, x ≠ .ref a) : d = .at_ x ∧ flatV x = true := by
  cases d with
  | at_ v => unfold At at h; rw [h.1]; exact ⟨rfl, h.2⟩
  | lst l => unfold At at h; obtain ⟨b, xs, e, _⟩ := h; exact absurd e (f b)
  | tup l => unfold At at h; obtain ⟨b, xs, e, _⟩ := h; exact absurd e (f b)
/-- == and != of two objects -/
theorem rc_D (I : Inv X pins σ H s) {A : Around} {d d' : Dt} {a b : Addr} (h : At X.K H d (.ref a)) (h' : At X.K H d' (.ref b)) (hu : A.units + dep d < cLine) : SeqAt.RcAt A s (.ref a) (.ref b) (deq d d') ∧ SeqAt.RcNeAt A s (.ref a) (.ref b) (!deq d d') := by
  rcases isRef_D h with ⟨l, xs, rfl, q, h⟩ | ⟨l, xs, rfl, q, h⟩
  · rcases isRef_D h' with ⟨l', ys, rfl, q', h'⟩ | ⟨l', ys, rfl, q', h'⟩
    · unfold deq
      unfold dep at hu
      obtain ⟨its, ri, pl, _⟩ := I.list q
      obtain ⟨its', ri', pl', _⟩ := I.list q'
      have e1 := h.length
      have e2 := h'.length
      have e3 := ri.length
      have e4 := ri'.length
      have it : ∀ j (h1 : j < its.toArray.size) (h2 : j < its'.toArray.size), SeqAt.EqAt A.in1 s its.toArray[j] its'.toArray[j] (deq (l.getD j (.lst [])) (l'.getD j (.lst []))) := fun j h1 h2 => by
        have := eqAts_D I l l' A.in1 xs ys its its' h h' ri ri' (by show A.units + 1 + deps l < cLine; omega) j (by simpa using h1) (by simpa using h2)
        simpa using this
      by_cases hl : l.length = l'.length
      · rw [deqs_range (.lst []) hl]
        have hsz : its.toArray.size = l.length := by simp; omega
        rw [← hsz]
        exact ⟨.lists pl.isList pl'.isList (by simp; omega) (by omega) it, .lists pl.isList pl'.isList (by simp; omega) (by omega) it⟩
      · rw [deqs_len hl]
        exact ⟨.lists_lengths pl.isList pl'.isList (by simp; omega) (by omega), .lists_lengths pl.isList pl'.isList (by simp; omega) (by omega)⟩
    · unfold deq
      obtain ⟨its, ri, pl, _⟩ := I.list q
      obtain ⟨its', ri', pl', _⟩ := I.tuple q'
      exact ⟨.list_tuple pl.isList pl' (by omega), .list_tuple pl.isList pl' (by omega)⟩
  · rcases isRef_D h' with ⟨l', ys, rfl, q', h'⟩ | ⟨l', ys, rfl, q', h'⟩
    · unfold deq
      obtain ⟨its, ri, pl, _⟩ := I.tuple q
      obtain ⟨its', ri', pl', _⟩ := I.list q'
      exact ⟨.tuple_list pl pl'.isList (by omega), .tuple_list pl pl'.isList (by omega)⟩
    · unfold deq
      unfold dep at hu
      obtain ⟨its, ri, pl, _⟩ := I.tuple q
      obtain ⟨its', ri', pl', _⟩ := I.tuple q'
      have e1 := h.length
      have e2 := h'.length
      have e3 := ri.length
      have e4 := ri'.length
      have it : ∀ j (h1 : j < its.toArray.size) (h2 : j < its'.toArray.size), SeqAt.EqAt A.in1 s its.toArray[j] its'.toArray[j] (deq (l.getD j (.lst [])) (l'.getD j (.lst []))) := fun j h1 h2 => by
        have := eqAts_D I l l' A.in1 xs ys its its' h h' ri ri' (by show A.units + 1 + deps l < cLine; omega) j (by simpa using h1) (by simpa using h2)
        simpa using this
      have T := SeqAt.RcAt.tuples pl pl' (by omega) it
      have T' := SeqAt.RcNeAt.tuples pl pl' (by omega) it
      by_cases hl : l.length = l'.length
      · rw [deqs_range (.lst []) hl]
        have hsz : its.toArray.size = l.length := by simp; omega
        have hsz' : its'.toArray.size = l.length := by simp; omega
        rw [hsz, hsz', Nat.min_self, beq_self_eq_true, Bool.and_true] at T T'
        exact ⟨T, T'⟩
      · rw [deqs_len hl]
        have hne : (its.toArray.size == its'.toArray.size) = false := by
          rw [beq_eq_false_iff_ne]; simp; omega
        rw [hne, Bool.and_false] at T T'
        exact ⟨T, T'⟩
theorem rc_flat (I : Inv X pins σ H s) {A : Around} {d : Dt} {a : Addr} {v : V} {u : Value} (h : At X.K H d (.ref a)) (f : flatV v = true) (r : RelV v u) (hu : A.units < cLine) :
    SeqAt.RcAt A s (.ref a) u false ∧ SeqAt.RcNeAt A s (.ref a) u true ∧ SeqAt.RcAt A s u (.ref a) false ∧ SeqAt.RcNeAt A s u (.ref a) true := by
  rcases isRef_D h with ⟨l, xs, rfl, q, h⟩ | ⟨l, xs, rfl, q, h⟩
  · obtain ⟨its, ri, pl, _⟩ := I.list q
    cases v with
    | non => cases r; exact ⟨.list_none pl.isList hu, .list_none pl.isList hu, .none_list pl.isList hu, .none_list pl.isList hu⟩
    | bl b => cases r; exact ⟨.list_bool b pl.isList hu, .list_bool b pl.isList hu, .bool_list b pl.isList hu, .bool_list b pl.isList hu⟩
    | int b => obtain ⟨t, rfl⟩ := r; exact ⟨.list_int b t pl.isList hu, .list_int b t pl.isList hu, .int_list b t pl.isList hu, .int_list b t pl.isList hu⟩
    | str b => obtain ⟨t, rfl⟩ := r; exact ⟨.list_str b t pl.isList hu, .list_str b t pl.isList hu, .str_list b t pl.isList hu, .str_list b t pl.isList hu⟩
    | _ => exact absurd (show false = true from f) Bool.false_ne_true
  · obtain ⟨its, ri, pl, _⟩ := I.tuple q
    cases v with
    | non => cases r; exact ⟨.tuple_none pl hu, .tuple_none pl hu, .none_tuple pl hu, .none_tuple pl hu⟩
    | bl b => cases r; exact ⟨.tuple_bool b pl hu, .tuple_bool b pl hu, .bool_tuple b pl hu, .bool_tuple b pl hu⟩
    | int b => obtain ⟨t, rfl⟩ := r; exact ⟨.tuple_int b t pl hu, .tuple_int b t pl hu, .int_tuple b t pl hu, .int_tuple b t pl hu⟩
    | str b => obtain ⟨t, rfl⟩ := r; exact ⟨.tuple_str b t pl hu, .tuple_str b t pl hu, .str_tuple b t pl hu, .str_tuple b t pl hu⟩
    | _ => exact absurd (show false = true from f) Bool.false_ne_true
/-- == and != where an object is among the two -/
def rEqT (K : PySem.W.Frag) (neg : Bool) : R2 := fun x y H Q => ∃ d d', At K H d x ∧ At K H d' y ∧ dep d ≤ 40 ∧ Q (.bl (if neg then !deq d d' else deq d d')) H
theorem rc_any (I : Inv X pins σ H s) {A : Around} {d d' : Dt} {x y : V} {u v : Value} (h : At X.K H d x) (h' : At X.K H d' y) (r : RelV x u) (r' : RelV y v) (hr : (∃ a, x = .ref a) ∨ ∃ b, y = .ref b) (hu : A.units + dep d < cLine) :
    SeqAt.RcAt A s u v (deq d d') ∧ SeqAt.RcNeAt A s u v (!deq d d') := by
  by_cases hx : ∃ a, x = .ref a
  · obtain ⟨a, rfl⟩ := hx
    cases r
    by_cases hy : ∃ b, y = .ref b
    · obtain ⟨b, rfl⟩ := hy
      cases r'
      exact rc_D I h h' hu
    · obtain ⟨rfl, f⟩ := notRef_D h' (fun b e => hy ⟨b, e⟩)
      obtain ⟨q1, q2, _⟩ := rc_flat I h f r' (show A.units < cLine by omega)
      have e : deq d (.at_ y) = false := by
        rcases isRef_D h with ⟨l, xs, rfl, _⟩ | ⟨l, xs, rfl, _⟩ <;> (unfold deq; rfl)
      rw [e]
      exact ⟨q1, q2⟩
  · have hy : ∃ b, y = .ref b := hr.resolve_left hx
    obtain ⟨b, rfl⟩ := hy
    cases r'
    obtain ⟨rfl, f⟩ := notRef_D h (fun b e => hx ⟨b, e⟩)
    obtain ⟨_, _, q1, q2⟩ := rc_flat I h' f r (show A.units < cLine by omega)
    have e : deq (.at_ x) d' = false := by
      rcases isRef_D h' with ⟨l, xs, rfl, _⟩ | ⟨l, xs, rfl, _⟩ <;> (unfold deq; rfl)
    rw [e]
    exact ⟨q1, q2⟩
theorem op_eqT (hu : X.A.units + 64 < cLine) {x y : V} {u v : Value} {Q : VK} (I : Inv X pins σ H s) (rx : RelV x u) (ry : RelV y v) (hr : (∃ a, x = .ref a) ∨ ∃ b, y = .ref b) (h : rEqT X.K false x y H Q) : wpAny (model X.prog X.w) X.A (compareOp .Eq u v) (EP X pins σ Q) X.xe s := by
  obtain ⟨d, d', h1, h2, hd, q⟩ := h
  exact (rc_any I h1 h2 rx ry hr (A := X.A) (by omega)).1 _ _ _ _ ⟨.bl _, H, I, rfl, q⟩
theorem op_neT (hu : X.A.units + 64 < cLine) {x y : V} {u v : Value} {Q : VK} (I : Inv X pins σ H s) (rx : RelV x u) (ry : RelV y v) (hr : (∃ a, x = .ref a) ∨ ∃ b, y = .ref b) (h : rEqT X.K true x y H Q) : wpAny (model X.prog X.w) X.A (compareOp .NotEq u v) (EP X pins σ Q) X.xe s := by
  obtain ⟨d, d', h1, h2, hd, q⟩ := h
  exact (rc_any I h1 h2 rx ry hr (A := X.A) (by omega)).2 _ _ _ _ ⟨.bl _, H, I, rfl, q⟩
noncomputable def eqW (K : PySem.W.Frag) (H : Hp) (d' : Dt) (u : Value) : Bool := @decide (∃ x d, RelV x u ∧ At K H d x ∧ deq d d' = true) (Classical.propDecidable _)
theorem eqW_of (I : Inv X pins σ H s) {d d' : Dt} {x : V} {u : Value} (r : RelV x u) (h : At X.K H d x) : eqW X.K H d' u = deq d d' := by
  unfold eqW
  cases e : deq d d' with
  | true => exact @decide_eq_true _ (Classical.propDecidable _) ⟨x, d, r, h, e⟩
  | false =>
    refine @decide_eq_false _ (Classical.propDecidable _) fun ⟨x', d2, r', h', e'⟩ => ?_
    have := r.inj r'
    subst this
    rw [at_inj I h h'] at e
    rw [e] at e'
    cases e'
theorem items_eqW (I : Inv X pins σ H s) {A : Around} {d' : Dt} {y : V} {v : Value} (h' : At X.K H d' y) (r' : RelV y v) : ∀ {ds : List Dt} {xs : List V} {us : List Value}, AtL X.K H ds xs → Vals xs us → A.units + deps ds < cLine →
    (∀ u ∈ us, SeqAt.EqAt A s u v (eqW X.K H d' u)) ∧ us.countP (eqW X.K H d') = ds.countP (fun d => deq d d') ∧ us.any (eqW X.K H d') = ds.any (fun d => deq d d')
  | [], xs, us, h, r, hu => by
    unfold AtL at h
    subst h
    cases r
    exact ⟨(fun u hu => by cases hu), rfl, rfl⟩
  | d :: ds, xs, us, h, r, hu => by
    unfold AtL at h
    obtain ⟨x, xs, rfl, h1, h2⟩ := h
    cases r with
    | cons r1 r2 =>
      unfold deps at hu
      have m1 : dep d ≤ Nat.max (dep d) (deps ds) := Nat.le_max_left _ _
      have m2 : deps ds ≤ Nat.max (dep d) (deps ds) := Nat.le_max_right _ _
      obtain ⟨q1, q2, q3⟩ := items_eqW I h' r' h2 r2 (A := A) (by omega)
      have e := eqW_of I (d' := d') r1 h1
      refine ⟨fun u hu => ?_, ?_, ?_⟩
      · rcases List.mem_cons.mp hu with rfl | hu
        · rw [e]; exact eqAt_D I d d' A _ _ _ _ h1 h' r1 r' (by omega)
        · exact q1 u hu
      · rw [List.countP_cons, List.countP_cons, q2, e]
      · rw [List.any_cons, List.any_cons, q3, e]
def rCount (K : PySem.W.Frag) : V → List V → Hp → VK → Prop := fun x xs H Q => ∃ p y ds d ys, x = .ref p ∧ xs = [y] ∧ SqL K H p ys ∧ AtL K H ds ys ∧ At K H d y ∧ deps ds ≤ 40 ∧ Q (.int (ds.countP fun c => deq c d : Nat)) H
theorem mt_count (hu : X.A.units + 64 < cLine) : MtR X "list.count" (rCount X.K) := by
  intro pins s σ H x xs v us Q I rx rs h
  obtain ⟨p, y, ds, d, ys, rfl, rfl, hq, hL, hd, hz, q⟩ := h
  cases rx
  cases rs with
  | cons ry t =>
    cases t
    obtain ⟨its, r, ⟨o, n, e, c, dn, dt⟩, hz2⟩ := I.list hq
    obtain ⟨oc, od, odt, osl⟩ := o
    simp only at c dn dt
    subst c dn dt
    obtain ⟨q1, q2, q3⟩ := items_eqW I hd ry hL r (A := X.A.in1) (by show X.A.units + 1 + deps ds < cLine; omega)
    refine call_meets PySem.F.slot_list_count ⟨_, e, rfl⟩ PySem.F.entry_list_count (PySem.F.args_list_count_2 _ _) (SeqAt.list_countAt p its.toArray n none osl _ (eqW X.K H d)) ⟨e, fun z hz => q1 z (by simpa using hz), ?_⟩
    refine ⟨.int _, H, I.tok _, ⟨_, rfl⟩, ?_⟩
    rw [← q2] at q
    exact q
end
end L2

set_option maxRecDepth 100000
set_option maxHeartbeats 4000000
namespace L2
open PySem PySem.Spec PyProof.Rows

def rNo : R2 := fun _ _ _ _ => False
def rAddD (K : PySem.W.Frag) : R2 := fun x y H Q => match x, y with
  | .int i, .int j => Q (.int (i + j)) H
  | .str a, .str b => a.length + b.length ≤ sizeLine ∧ Q (.str (a ++ b)) H
  | .ref a, .ref b => rCat (.ref a) (.ref b) H Q ∨ rCatT K (.ref a) (.ref b) H Q
  | _, _ => False
def rSubD : R2 := fun x y H Q => match x, y with
  | .int i, .int j => Q (.int (i - j)) H
  | _, _ => False
def rMulD : R2 := fun x y H Q => match x, y with
  | .int i, .int j => CMul i j ∧ Q (.int (i * j)) H
  | .ref a, .int k => rRep (.ref a) (.int k) H Q
  | _, _ => False
def rFdivD : R2 := fun x y H Q => match x, y with
  | .int i, .int j => CDiv i j ∧ Q (.int (i / j)) H
  | _, _ => False
def rModD : R2 := fun x y H Q => match x, y with
  | .int i, .int j => 0 < j ∧ Q (.int (i % j)) H
  | _, _ => False
def rPowD : R2 := fun x y H Q => match x, y with
  | .int i, .int j => CPow i j ∧ Q (.int (i ^ j.toNat)) H
  | _, _ => False
def rShlD : R2 := fun x y H Q => match x, y with
  | .int i, .int j => CPow i j ∧ Q (.int (i * 2 ^ j.toNat)) H
  | _, _ => False
def rShrD : R2 := fun x y H Q => match x, y with
  | .int i, .int j => 0 ≤ j ∧ Q (.int (i / 2 ^ j.toNat)) H
  | _, _ => False
def rAndD : R2 := fun x y H Q => match x, y with
  | .int i, .int j => Q (.int (Builtin.bitAnd i j)) H
  | _, _ => False
def rOrD : R2 := fun x y H Q => match x, y with
  | .int i, .int j => Q (.int (Builtin.bitOr i j)) H
  | _, _ => False
def rXorD : R2 := fun x y H Q => match x, y with
  | .int i, .int j => Q (.int (Builtin.bitXor i j)) H
  | _, _ => False
def rOp (K : PySem.W.Frag) : Operator → R2
  | .Add => rAddD K
  | .Sub => rSubD
  | .Mult => rMulD
  | .FloorDiv => rFdivD
  | .Mod => rModD
  | .Pow => rPowD
  | .LShift => rShlD
  | .RShift => rShrD
  | .BitAnd => rAndD
  | .BitOr => rOrD
  | .BitXor => rXorD
  | _ => rNo
section
variable {X : Cx}
theorem op_D (op : Operator) : OpR X (binaryOp op) (rOp X.K op) := by
  intro pins s σ H x y v u Q I rx ry h
  cases op with
  | Add =>
    cases x <;> cases y <;> first
      | exact (show False from h).elim
      | exact op_add pins s σ H _ _ v u Q I rx ry ⟨_, _, rfl, rfl, h⟩
      | exact op_add_str pins s σ H _ _ v u Q I rx ry ⟨_, _, rfl, rfl, h⟩
      | exact (op_cat.or op_catT) pins s σ H _ _ v u Q I rx ry h
  | Sub => cases x <;> cases y <;> first | exact (show False from h).elim | exact op_sub pins s σ H _ _ v u Q I rx ry ⟨_, _, rfl, rfl, h⟩
  | Mult => cases x <;> cases y <;> first | exact (show False from h).elim | exact op_mul pins s σ H _ _ v u Q I rx ry ⟨_, _, rfl, rfl, h⟩ | exact op_rep pins s σ H _ _ v u Q I rx ry h
  | FloorDiv => cases x <;> cases y <;> first | exact (show False from h).elim | exact op_fdiv pins s σ H _ _ v u Q I rx ry ⟨_, _, rfl, rfl, h⟩
  | Mod => cases x <;> cases y <;> first | exact (show False from h).elim | exact op_mod pins s σ H _ _ v u Q I rx ry ⟨_, _, rfl, rfl, h⟩
  | Pow => cases x <;> cases y <;> first | exact (show False from h).elim | exact op_pow pins s σ H _ _ v u Q I rx ry ⟨_, _, rfl, rfl, h⟩
  | LShift => cases x <;> cases y <;> first | exact (show False from h).elim | exact op_shl pins s σ H _ _ v u Q I rx ry ⟨_, _, rfl, rfl, h⟩
  | RShift => cases x <;> cases y <;> first | exact (show False from h).elim | exact op_shr pins s σ H _ _ v u Q I rx ry ⟨_, _, rfl, rfl, h⟩
  | BitAnd => cases x <;> cases y <;> first | exact (show False from h).elim | exact op_and pins s σ H _ _ v u Q I rx ry ⟨_, _, rfl, rfl, h⟩
  | BitOr => cases x <;> cases y <;> first | exact (show False from h).elim | exact op_or pins s σ H _ _ v u Q I rx ry ⟨_, _, rfl, rfl, h⟩
  | BitXor => cases x <;> cases y <;> first | exact (show False from h).elim | exact op_xor pins s σ H _ _ v u Q I rx ry ⟨_, _, rfl, rfl, h⟩
  | _ => exact (show False from h).elim
end

/-- == of two things that are not both objects (an object and a scalar are told apart by their kinds elsewhere) -/
def rEqD (K : PySem.W.Frag) (neg : Bool) : R2 := fun x y H Q => match x, y with
  | .ref a, .ref b => rEqL K neg (.ref a) (.ref b) H Q ∨ rEqT K neg (.ref a) (.ref b) H Q
  | .ref a, y => rEqT K neg (.ref a) y H Q
  | x, .ref b => rEqT K neg x (.ref b) H Q
  | .int i, .int j => Q (.bl (if neg then !decide (i = j) else decide (i = j))) H
  | .str i, .str j => Q (.bl (if neg then !decide (i = j) else decide (i = j))) H
  | .bl i, .bl j => Q (.bl (if neg then !(i == j) else (i == j))) H
  | x, y => scal x y = true ∧ Q (.bl (if neg then !decide (x = y) else decide (x = y))) H
def rLtD : R2 := fun x y H Q => match x, y with
  | .int i, .int j => Q (.bl (decide (i < j))) H
  | .str i, .str j => Q (.bl (decide (i.cps.toList < j.cps.toList))) H
  | _, _ => False
def rLeD : R2 := fun x y H Q => match x, y with
  | .int i, .int j => Q (.bl (decide (i ≤ j))) H
  | .str i, .str j => Q (.bl (!decide (j.cps.toList < i.cps.toList))) H
  | _, _ => False
def rGtD : R2 := fun x y H Q => match x, y with
  | .int i, .int j => Q (.bl (decide (j < i))) H
  | _, _ => False
def rGeD : R2 := fun x y H Q => match x, y with
  | .int i, .int j => Q (.bl (decide (j ≤ i))) H
  | _, _ => False
def rInD (K : PySem.W.Frag) (neg : Bool) : R2 := fun x y H Q => match x, y with
  | .str i, .str j => Q (.bl (if neg then !(!(Builtin.Str.occurrences j i 0 j.length 1).isEmpty) else !(Builtin.Str.occurrences j i 0 j.length 1).isEmpty)) H
  | x, .ref p => rIn K neg x (.ref p) H Q
  | _, _ => False
def rIsD (neg : Bool) : R2 := fun x y H Q => match y with
  | .non => Q (.bl (if neg then !decide (x = .non) else decide (x = .non))) H
  | .bl d => (match x with
    | .bl c => Q (.bl (if neg then !(c == d) else (c == d))) H
    | _ => False)
  | _ => False
def rCmp (K : PySem.W.Frag) : CmpOp → R2
  | .Eq => rEqD K false
  | .NotEq => rEqD K true
  | .Lt => rLtD
  | .LtE => rLeD
  | .Gt => rGtD
  | .GtE => rGeD
  | .In => rInD K false
  | .NotIn => rInD K true
  | .Is => rIsD false
  | .IsNot => rIsD true
section
variable {X : Cx}
theorem cmp_D (hu : X.A.units + 64 < cLine) (op : CmpOp) : OpR X (compareOp op) (rCmp X.K op) := by
  intro pins s σ H x y v u Q I rx ry h
  cases op with
  | Eq =>
    cases x <;> cases y <;> first
      | (rcases h with h | h
         · exact op_eqL (by omega) pins s σ H _ _ v u Q I rx ry h
         · exact op_eqT hu I rx ry (.inl ⟨_, rfl⟩) h)
      | exact op_eqT hu I rx ry (.inl ⟨_, rfl⟩) h
      | exact op_eqT hu I rx ry (.inr ⟨_, rfl⟩) h
      | exact op_eq pins s σ H _ _ v u Q I rx ry h
      | exact op_eq pins s σ H _ _ v u Q I rx ry ⟨rfl, by rw [dec_int, Bool.beq_eq_decide_eq]; exact h⟩
      | exact op_eq pins s σ H _ _ v u Q I rx ry ⟨rfl, by rw [dec_str, Bool.beq_eq_decide_eq]; exact h⟩
      | exact op_eq pins s σ H _ _ v u Q I rx ry ⟨rfl, by rw [dec_bl]; exact h⟩
  | NotEq =>
    cases x <;> cases y <;> first
      | (rcases h with h | h
         · exact op_neL (by omega) pins s σ H _ _ v u Q I rx ry h
         · exact op_neT hu I rx ry (.inl ⟨_, rfl⟩) h)
      | exact op_neT hu I rx ry (.inl ⟨_, rfl⟩) h
      | exact op_neT hu I rx ry (.inr ⟨_, rfl⟩) h
      | exact op_ne pins s σ H _ _ v u Q I rx ry h
      | exact op_ne pins s σ H _ _ v u Q I rx ry ⟨rfl, by rw [dec_int, Bool.beq_eq_decide_eq]; exact h⟩
      | exact op_ne pins s σ H _ _ v u Q I rx ry ⟨rfl, by rw [dec_str, Bool.beq_eq_decide_eq]; exact h⟩
      | exact op_ne pins s σ H _ _ v u Q I rx ry ⟨rfl, by rw [dec_bl]; exact h⟩
  | Lt => cases x <;> cases y <;> first | exact (show False from h).elim | exact op_lt pins s σ H _ _ v u Q I rx ry ⟨_, _, rfl, rfl, h⟩ | exact op_lt_str pins s σ H _ _ v u Q I rx ry ⟨_, _, rfl, rfl, h⟩
  | LtE => cases x <;> cases y <;> first | exact (show False from h).elim | exact op_le pins s σ H _ _ v u Q I rx ry ⟨_, _, rfl, rfl, h⟩ | exact op_le_str pins s σ H _ _ v u Q I rx ry ⟨_, _, rfl, rfl, h⟩
  | Gt => cases x <;> cases y <;> first | exact (show False from h).elim | exact op_gt pins s σ H _ _ v u Q I rx ry ⟨_, _, rfl, rfl, h⟩
  | GtE => cases x <;> cases y <;> first | exact (show False from h).elim | exact op_ge pins s σ H _ _ v u Q I rx ry ⟨_, _, rfl, rfl, h⟩
  | In => cases x <;> cases y <;> first | exact (show False from h).elim | exact op_in_str pins s σ H _ _ v u Q I rx ry ⟨_, _, rfl, rfl, h⟩ | exact op_in_seq pins s σ H _ _ v u Q I rx ry h
  | NotIn => cases x <;> cases y <;> first | exact (show False from h).elim | exact op_notin_str pins s σ H _ _ v u Q I rx ry ⟨_, _, rfl, rfl, h⟩ | exact op_notIn_seq pins s σ H _ _ v u Q I rx ry h
  | Is => cases y <;> first | exact (show False from h).elim | exact op_isN pins s σ H _ _ v u Q I rx ry ⟨rfl, h⟩ | (cases x <;> first | exact (show False from h).elim | (cases rx; cases ry; exact is_bool ⟨.bl _, H, I, rfl, h⟩))
  | IsNot => cases y <;> first | exact (show False from h).elim | exact op_notN pins s σ H _ _ v u Q I rx ry ⟨rfl, h⟩ | (cases x <;> first | exact (show False from h).elim | (cases rx; cases ry; exact isnot_bool ⟨.bl _, H, I, rfl, h⟩))
end
def rNegD : V → Hp → VK → Prop := fun x H Q => match x with
  | .int i => Q (.int (-i)) H
  | _ => False
theorem un_D {X : Cx} : UnR X (unaryOp .USub) rNegD := by
  intro pins s σ H x v Q I rx h
  cases x <;> first | exact (show False from h).elim | exact un_neg pins s σ H _ v Q I rx ⟨_, rfl, h⟩
theorem tru_D {X : Cx} : TruR X (truD X.K) := by
  intro pins s σ H x v Q I rx h
  cases x with
  | non => exact tru_ok pins s σ H _ v Q I rx ⟨_, rfl, h⟩
  | bl b => exact tru_ok pins s σ H _ v Q I rx ⟨_, rfl, h⟩
  | int i => exact tru_ok pins s σ H _ v Q I rx ⟨_, rfl, h⟩
  | str y => exact tru_ok pins s σ H _ v Q I rx ⟨_, ⟨h.1, rfl⟩, h.2⟩
  | ref p => exact tru_ok pins s σ H _ v Q I rx h
  | _ => exact (show False from h).elim
def rIxD (K : PySem.W.Frag) : R2 := fun x y H Q => match x, y with
  | .str z, .int i => z.length ≤ sizeLine ∧ ∃ c, atI z.cps.toList i = some c ∧ Q (.str ⟨#[c]⟩) H
  | .ref p, .int i => ∃ xs v, (SqL K H p xs ∨ SqT K H p xs) ∧ atI xs i = some v ∧ Q v H
  | _, _ => False
theorem ix_D {X : Cx} : IxR X (rIxD X.K) := by
  intro value slice pins s σ H x y v u Q I rx ry h hs
  cases x <;> cases y <;> first
    | exact (show False from h).elim
    | (obtain ⟨h1, c, h2, h3⟩ := h; exact ix_str value slice pins s σ H _ _ v u Q I rx ry ⟨_, _, c, rfl, rfl, h1, h2, h3⟩ hs)
    | (obtain ⟨xs, w, h1 | h1, h2, h3⟩ := h
       · exact ix_list value slice pins s σ H _ _ v u Q I rx ry ⟨_, _, _, _, rfl, rfl, h1, h2, h3⟩ hs
       · exact ix_tup value slice pins s σ H _ _ v u Q I rx ry ⟨_, _, _, _, rfl, rfl, h1, h2, h3⟩ hs)
def rGetD (K : PySem.W.Frag) (f : Str) : V → Hp → VK → Prop := fun x H Q => match x with
  | .ref a => (∃ C dx fs v, H a = some (.ins C dx fs) ∧ Cls K C ∧ NoAttr K C f ∧ fs.lookup f = some v ∧ Q v H) ∨ (∃ C fs v, ExcAt H a C fs ∧ ECls K C ∧ NoAttr K C f ∧ fs.lookup f = some v ∧ Q v H)
  | _ => False
def rSetD (K : PySem.W.Frag) (f : Str) : V → V → Hp → (Hp → Prop) → Prop := fun x y H N => match x with
  | .ref a => (∃ C dx fs, H a = some (.ins C dx fs) ∧ Cls K C ∧ NoAttr K C f ∧ fs.length < 1000 ∧ N (upd H a (.ins C dx (putF f y fs)))) ∨ (∃ C, ECls K C ∧ NoAttr K C f ∧ SetX H a C f y N)
  | _ => False
section
variable {X : Cx} {pins : List (Addr × Obj)} {σ : St} {H : Hp} {s : Shared} {A : Around} {E : Value → Shared → Prop}
theorem get_D {f : Str} {x : V} {u : Value} {b : Bool} {Q : VK} (I : Inv X pins σ H s) (rx : RelV x u) (h : rGetD X.K f x H Q) : wpAny (model X.prog X.w) A (getAttr u f b) (EP X pins σ Q) E s := by
  cases x with
  | ref a =>
    cases rx
    rcases h with ⟨C, dx, fs, v, ea, c, n, l, q⟩ | ⟨C, fs, v, ea, c, n, l, q⟩
    · exact getattr_ok I ea c n l fun u' s2 I2 ru => ⟨v, H, I2, ru, q⟩
    · exact getexc_ok I ea c n l fun u' s2 I2 ru => ⟨v, H, I2, ru, q⟩
  | _ => exact (show False from h).elim
theorem set_D {f : Str} {x y : V} {u v : Value} {N : Hp → Prop} {Q : Unit → Shared → Prop} (I : Inv X pins σ H s) (rx : RelV x u) (ry : RelV y v) (h : rSetD X.K f x y H N) (hQ : ∀ H' s', Inv X pins σ H' s' → N H' → Q () s') :
    wpAny (model X.prog X.w) A (setAttr u f v) Q E s := by
  cases x with
  | ref a =>
    cases rx
    rcases h with ⟨C, dx, fs, ea, c, n, l, q⟩ | ⟨C, c, n, q⟩
    · exact setattr_ok I ea c n l ry fun s3 I3 => hQ _ _ I3 q
    · exact setexc_ok I c n ry q hQ
  | _ => exact (show False from h).elim
end
end L2

set_option maxRecDepth 100000
set_option maxHeartbeats 4000000
namespace L2
open PySem PySem.Spec PyProof.Rows

structure FI where
  f : Addr
  fd : FuncData
  ps : List Str
  k : Nat
  sp : Sp
  dfs : List V
  ds : List Value
/-- a method of the class at C -/
structure MI where
  C : Addr
  i : FI
inductive GB where
  | fn (i : FI)
  | cls (C : Addr) (i : Option FI)
  | met (m : Str) (l : List MI)
  | val (v : V) (u : Value)
  | exc (C : Addr) (i : Option FI)
/-- the methods of a name, by their classes -/
def findMet : List (Str × GB) → Str → Option (List MI)
  | [], _ => none
  | (_, .met m l) :: r, x => if m = x then some l else findMet r x
  | _ :: r, x => findMet r x
theorem findMet_mem : ∀ {gb : List (Str × GB)} {x : Str} {l : List MI}, findMet gb x = some l → ∃ k, (k, GB.met x l) ∈ gb
  | (k, .met m l') :: r, x, l, h => by
    unfold findMet at h
    by_cases e : m = x
    · rw [if_pos e] at h; cases h; subst e; exact ⟨k, by simp⟩
    · rw [if_neg e] at h; obtain ⟨k, q⟩ := findMet_mem h; exact ⟨k, List.mem_cons_of_mem _ q⟩
  | (_, .fn _) :: r, x, l, h => by unfold findMet at h; obtain ⟨k, q⟩ := findMet_mem h; exact ⟨k, List.mem_cons_of_mem _ q⟩
  | (_, .cls _ _) :: r, x, l, h => by unfold findMet at h; obtain ⟨k, q⟩ := findMet_mem h; exact ⟨k, List.mem_cons_of_mem _ q⟩
  | (_, .val _ _) :: r, x, l, h => by unfold findMet at h; obtain ⟨k, q⟩ := findMet_mem h; exact ⟨k, List.mem_cons_of_mem _ q⟩
  | (_, .exc _ _) :: r, x, l, h => by unfold findMet at h; obtain ⟨k, q⟩ := findMet_mem h; exact ⟨k, List.mem_cons_of_mem _ q⟩
structure Sg where
  K : PySem.W.Frag
  N : List Str
  sc : List (Str × NameKind)
  gb : List (Str × GB)
  bl : List Str
  top : Bool
  calm : Bool

def slotF : List Str → Str → Nat → Option Nat
  | [], _, _ => none
  | y :: r, x, i => if y = x then some i else slotF r x (i + 1)
theorem slotF_get : ∀ {N : List Str} {x : Str} {i j : Nat}, slotF N x j = some i → j ≤ i ∧ N[i - j]? = some x
  | [], _, _, _, h => by cases h
  | y :: r, x, i, j, h => by
    unfold slotF at h
    by_cases e : y = x
    · rw [if_pos e] at h
      cases h
      refine ⟨Nat.le_refl _, ?_⟩
      rw [Nat.sub_self, e]
      rfl
    · rw [if_neg e] at h
      obtain ⟨h1, h2⟩ := slotF_get h
      refine ⟨by omega, ?_⟩
      have : i - j = (i - (j + 1)) + 1 := by omega
      rw [this, List.getElem?_cons_succ]
      exact h2
theorem slot_get {N : List Str} {x : Str} {i : Nat} (h : slotF N x 0 = some i) : N[i]? = some x := (slotF_get h).2
def plainName (x : Str) : Bool := !(x == ("__debug__" : Str)) && !(x == ("__classdict__" : Str)) && !(x == ("__name__" : Str))
def isGl (G : Sg) (x : Str) : Bool := (G.sc.lookup x == some .globalImplicit) && plainName x

/-- types that stand as values -/
def tyName (x : Str) : Option String :=
  if x = "int" then some "int" else if x = "bool" then some "bool" else if x = "str" then some "str" else if x = "list" then some "list" else if x = "tuple" then some "tuple" else if x = "dict" then some "dict" else if x = "ValueError" then some "ValueError" else none
theorem boot_VE : bootBuiltins "ValueError" = some (.type "ValueError") := by decide +kernel
theorem tyName_ok {x : Str} {T : String} (h : tyName x = some T) : bootBuiltins x = some (.type T) := by
  unfold tyName at h
  by_cases e1 : x = "int"
  · rw [if_pos e1] at h; cases h; rw [e1]; exact PyProof.Rows.boot_int
  rw [if_neg e1] at h
  by_cases e2 : x = "bool"
  · rw [if_pos e2] at h; cases h; rw [e2]; exact PyProof.Rows.boot_bool
  rw [if_neg e2] at h
  by_cases e3 : x = "str"
  · rw [if_pos e3] at h; cases h; rw [e3]; exact PyProof.Rows.boot_str
  rw [if_neg e3] at h
  by_cases e4 : x = "list"
  · rw [if_pos e4] at h; cases h; rw [e4]; exact PyProof.Rows.boot_list
  rw [if_neg e4] at h
  by_cases e5 : x = "tuple"
  · rw [if_pos e5] at h; cases h; rw [e5]; exact PyProof.Rows.boot_tuple
  rw [if_neg e5] at h
  by_cases e6 : x = "dict"
  · rw [if_pos e6] at h; cases h; rw [e6]; exact PyProof.Rows.boot_dict
  rw [if_neg e6] at h
  by_cases e7 : x = "ValueError"
  · rw [if_pos e7] at h; cases h; rw [e7]; exact boot_VE
  rw [if_neg e7] at h
  cases h

/-- an exception of a callee reaches what the body wants -/
def PassX (CX : CXT) (X : Cx) : Prop := ∀ Ex, Meets X Ex → ∀ (pins : List (Addr × Obj)) (σ : St) (H : Hp) (s : Shared) (e : Value) (s' : Shared), Inv X pins σ H s → CX X.stack H s (fun v _ H' => ∃ a, v = .ref a ∧ Ex σ a H') e s' → X.xe e s'
structure FIOk (X : Cx) (i : FI) : Prop where
  kp : PySem.W.keepIn X.K (.ref i.f) = true
  ok : ∃ CX, (∀ X' : Cx, X'.prog = X.prog → X'.w = X.w → PassX CX X') ∧ FnOk X.prog X.w X.K X.mg X.base CX i.k i.f i.fd i.ps i.sp
  room : Room i.k X.A
  binds : ∀ j, j ≤ i.dfs.length → Binds X.K i.fd i.ps (i.ds.drop j)
  vals : Vals i.dfs i.ds
/-- what a class of exceptions must have to be made -/
def InitOk (X : Cx) (C : Addr) : Option FI → Prop
  | none => PySem.W.findIn X.K (.ref C) "__init__" = some (some (.builtin "ValueError.__init__"))
  | some i => PySem.W.findIn X.K (.ref C) "__init__" = some (some (.ref i.f)) ∧ PySem.W.isFn X.K (.ref i.f) = true ∧ FIOk X i ∧ Room (i.k + 1) X.A
/-- what a class of one's own must have to be made -/
def MkOk (X : Cx) (C : Addr) : Option FI → Prop
  | none => PySem.W.makesIn X.K C = true ∧ PySem.W.findIn X.K (.ref C) "__init__" = some (some (.builtin "object.__init__"))
  | some i => PySem.W.makesIn X.K C = true ∧ PySem.W.findIn X.K (.ref C) "__init__" = some (some (.ref i.f)) ∧ PySem.W.isFn X.K (.ref i.f) = true ∧ FIOk X i ∧ Room (i.k + 1) X.A
structure GOk (X : Cx) (G : Sg) : Prop where
  K : X.K = G.K
  kind : X.env.scope.kind = .function
  own : PassesOwn (model X.prog X.w) X.A X.env X.xe
  N : X.N = G.N
  nd : G.N.Nodup
  sc : ∀ x, X.env.scope.names.lookup x = G.sc.lookup x
  vis : ∀ x ∈ G.N, Vis X.env.scope x
  top : G.top = true → ∀ x, X.fn x = true
  calm : G.calm = X.calm
  hd : X.calm = true → X.A.handled = none
  units : X.A.units + 64 < cLine
  cel : ∀ x, (X.env.scope.names.lookup x = some .cell ∨ X.env.scope.names.lookup x = some .free) → ∃ c, X.env.cells.lookup x = some c
  fn : ∀ x i, G.gb.lookup x = some (.fn i) → X.mg x = some (.ref i.f) ∧ FIOk X i
  val : ∀ x v u, G.gb.lookup x = some (.val v u) → X.mg x = some u ∧ RelV v u
  bl : ∀ x, G.bl.contains x = true → X.mg x = none
  exc : ∀ x C oi, G.gb.lookup x = some (.exc C oi) → X.mg x = some (.ref C) ∧ PySem.W.keepIn X.K (.ref C) = true ∧ ECls X.K C ∧ InitOk X C oi
  cls : ∀ x C oi, G.gb.lookup x = some (.cls C oi) → X.mg x = some (.ref C) ∧ PySem.W.keepIn X.K (.ref C) = true ∧ MkOk X C oi
  met : ∀ m l, findMet G.gb m = some l → ∀ mi ∈ l, Cls X.K mi.C ∧ Meth X.K mi.C m mi.i.f ∧ FIOk X mi.i
section
variable {X : Cx} {G : Sg}
theorem GOk.gl (O : GOk X G) {x : Str} (h : isGl G x = true) : Gl X x := by
  unfold isGl at h
  rw [Bool.and_eq_true] at h
  have := eq_of_beq h.1
  unfold Gl
  show X.env.scope.names.lookup x = _
  rw [O.sc x]
  exact this
theorem plain_d {x : Str} (h : plainName x = true) : (x == ("__debug__" : Str)) = false ∧ (x == ("__classdict__" : Str)) = false ∧ x ≠ "__name__" := by
  unfold plainName at h
  simp only [Bool.and_eq_true, Bool.not_eq_true'] at h
  exact ⟨h.1.1, h.1.2, fun e => by rw [e] at h; simp at h⟩
theorem isGl_d {x : Str} (h : isGl G x = true) : (x == ("__debug__" : Str)) = false ∧ (x == ("__classdict__" : Str)) = false ∧ x ≠ "__name__" := by
  unfold isGl at h
  rw [Bool.and_eq_true] at h
  exact plain_d h.2

def wName (G : Sg) (x : Str) : DE :=
  match slotF G.N x 0 with
  | some i => if plainName x = true then dVar i else dNo
  | none => if isGl G x = true then (match G.gb.lookup x with
      | some (.val v _) => dC v
      | some (.exc C _) => dC (.ref C)
      | some (.cls C _) => dC (.ref C)
      | some _ => dNo
      | none => if G.bl.contains x = true then (match tyName x with
        | some T => dC (.ty T)
        | none => dNo) else dNo) else dNo
theorem qe_no {e : Expr} : QE X e dNo := fun _ _ _ _ _ _ _ _ h => h.elim
theorem qe_var {i : Nat} {x : Str} {pos : Pos} (hN : X.N[i]? = some x) (hv : Vis X.env.scope x) (hp : plainName x = true) : QE X (.Name x pos) (dVar i) := by
  intro Ex _ pins s σ H Q I h
  unfold dVar at h
  split at h
  · rename_i v e
    exact pe_var hN hv (plain_d hp).1 (plain_d hp).2.1 pins s σ H Q I ⟨v, e, h⟩
  · exact h.elim
theorem qe_name (O : GOk X G) (x : Str) (pos : Pos) : QE X (.Name x pos) (wName G x) := by
  unfold wName
  split
  · rename_i i e
    split
    · rename_i hp
      have hi := slot_get e
      exact qe_var (by rw [O.N]; exact hi) (O.vis x (List.mem_of_getElem? hi)) hp
    · exact qe_no
  · split
    · rename_i hg
      have dd := isGl_d hg
      split
      · rename_i v u e
        obtain ⟨h1, h2⟩ := O.val x v u e
        exact fun _ _ => pe_glob (O.gl hg) h1 h2 dd.1
      · rename_i C oi e
        exact fun _ _ => pe_glob (v := .ref C) (O.gl hg) (O.exc x C oi e).1 rfl dd.1
      · rename_i C oi e
        exact fun _ _ => pe_glob (v := .ref C) (O.gl hg) (O.cls x C oi e).1 rfl dd.1
      · exact qe_no
      · split
        · rename_i hb
          split
          · rename_i T e
            exact fun _ _ => pe_bltn (O.gl hg) (O.bl x hb) (tyName_ok e) rfl dd.2.2 dd.1
          · exact qe_no
        · exact qe_no
    · exact qe_no

def wConst : Const → DE
  | .int i => dC (.int i)
  | .bool b => dC (.bl b)
  | .none => dC .non
  | .str x => dC (.str x)
  | _ => dNo
theorem qe_const (c : Const) (j : Nat) (pos : Pos) : QE X (.Constant c j pos) (wConst c) := by
  cases c with
  | int i => exact fun _ _ => pe_int
  | bool b => exact fun _ _ => pe_bl
  | none => exact fun _ _ => pe_non
  | str x => exact fun _ _ => pe_str
  | _ => exact qe_no

variable {a b c : Expr} {da db dc : DE} {ta tb : DT} {es : List Expr} {r : DA} {pos : Pos}
theorem qe_bin (op : Operator) (ha : QE X a da) (hb : QE X b db) : QE X (.BinOp a op b pos) (dBin (rOp X.K op) da db) := fun Ex m => pe_op (op_D op) (ha Ex m) (hb Ex m)
theorem qe_neg (ha : QE X a da) : QE X (.UnaryOp .USub a pos) (dUn rNegD da) := fun Ex m => pe_un un_D (ha Ex m)
theorem qe_cmp (hu : X.A.units + 64 < cLine) (op : CmpOp) (ha : QE X a da) (hb : QE X b db) (hm : behindInMarks op b = false) : QE X (.Compare a [op] [b] pos) (dBin (rCmp X.K op) da db) := fun Ex m => pe_cmpR (cmp_D hu op) (ha Ex m) (hb Ex m) hm
theorem qt_cmp (hu : X.A.units + 64 < cLine) (op : CmpOp) (ha : QE X a da) (hb : QE X b db) (hm : behindInMarks op b = false) : QT X (.Compare a [op] [b] pos) (dTst (dBin (rCmp X.K op) da db)) := by
  intro Ex m pins s σ H Q I h
  refine wpAny_isTrue_Compare1 (thn (ha Ex m pins s σ H _ I h) fun v s1 ⟨x, H1, I1, r1, q1⟩ => thn (hb Ex m pins s1 σ H1 _ I1 q1) fun u s2 ⟨y, H2, I2, r2, q2⟩ =>
    thn (cmp_D hu op pins s2 σ H2 x y v u _ I2 r1 r2 q2) fun c s3 ⟨z, H3, I3, r3, q3⟩ => ?_) hm
  cases z with
  | bl k => cases r3; exact wpAny_truthy_bool ⟨H3, I3, q3⟩
  | _ => exact (show False from q3).elim
theorem qe_chain (hu : X.A.units + 64 < cLine) (op op' : CmpOp) (ha : QE X a da) (hb : QE X b db) (hc : QE X c dc) (hm : lastMarks [op, op'] [b, c] = false) :
    QE X (.Compare a [op, op'] [b, c] pos) (dChain (rCmp X.K op) (rCmp X.K op') da db dc) := by
  intro Ex m pins s σ H Q I h
  refine Compare_chain (thn (ha Ex m pins s σ H _ I h) fun v s1 ⟨x, H1, I1, r1, q1⟩ => chain_link (thn (hb Ex m pins s1 σ H1 _ I1 q1) fun u s2 ⟨y, H2, I2, r2, q2⟩ =>
    thn (cmp_D hu op pins s2 σ H2 x y v u _ I2 r1 r2 q2) fun d s3 ⟨z, H3, I3, r3, q3⟩ => ?_)) hm
  cases z with
  | bl k =>
    cases r3
    refine wpAny_truthy_bool ?_
    cases k with
    | false => exact ite_ff ⟨.bl false, H3, I3, rfl, q3⟩
    | true => exact ite_tt (chain_last (thn (hc Ex m pins s3 σ H3 _ I3 q3) fun w' s4 ⟨z', H4, I4, r4, q4⟩ => cmp_D hu op' pins s4 σ H4 y z' u w' Q I4 r2 r4 q4))
  | _ => exact (show False from q3).elim
theorem qt_chain (hu : X.A.units + 64 < cLine) (op op' : CmpOp) (ha : QE X a da) (hb : QE X b db) (hc : QE X c dc) (hm : lastMarks [op, op'] [b, c] = false) :
    QT X (.Compare a [op, op'] [b, c] pos) (dTst (dChain (rCmp X.K op) (rCmp X.K op') da db dc)) := by
  intro Ex m pins s σ H Q I h
  refine isTrue_chain (thn (ha Ex m pins s σ H _ I h) fun v s1 ⟨x, H1, I1, r1, q1⟩ => test_link (thn (hb Ex m pins s1 σ H1 _ I1 q1) fun u s2 ⟨y, H2, I2, r2, q2⟩ =>
    thn (cmp_D hu op pins s2 σ H2 x y v u _ I2 r1 r2 q2) fun d s3 ⟨z, H3, I3, r3, q3⟩ => ?_)) hm
  cases z with
  | bl k =>
    cases r3
    refine wpAny_truthy_bool ?_
    cases k with
    | false => exact ite_ff ⟨H3, I3, q3⟩
    | true =>
      refine ite_tt (test_last (thn (hc Ex m pins s3 σ H3 _ I3 q3) fun w' s4 ⟨z', H4, I4, r4, q4⟩ => thn (cmp_D hu op' pins s4 σ H4 y z' u w' _ I4 r2 r4 q4) fun d' s5 ⟨z2, H5, I5, r5, q5⟩ => ?_))
      cases z2 with
      | bl k2 => cases r5; exact wpAny_truthy_bool ⟨H5, I5, q5⟩
      | _ => exact (show False from q5).elim
  | _ => exact (show False from q3).elim
/-- a test that is its value's truth -/
def plainT : Expr → Bool
  | .UnaryOp .Not _ _ => false
  | .BoolOp _ _ _ => false
  | .IfExp _ _ _ _ => false
  | .Compare _ _ _ _ => false
  | _ => true
theorem plainT_ok {e : Expr} (h : plainT e = true) (whole : Sem Value) : isTrue e X.env whole = (do let v ← whole; standAt e.pos; holding [v] (truthy v)) := by
  cases e with
  | UnaryOp op _ _ => cases op <;> first | rfl | cases h
  | BoolOp _ _ _ => cases h
  | IfExp _ _ _ _ => cases h
  | Compare _ _ _ _ => cases h
  | _ => rfl
theorem qt_tru (ha : QE X a da) (h : plainT a = true) : QT X a (dTru X.K da) := by
  intro Ex m pins s σ H Q I hw
  exact isTrue_plain (thn (ha Ex m pins s σ H _ I hw) fun v s1 ⟨x, H1, I1, r1, q1⟩ => tru_D pins s1 σ H1 x v Q I1 r1 q1) (plainT_ok h _)
theorem qt_not (ha : QT X a ta) : QT X (.UnaryOp .Not a pos) (dNot ta) := fun Ex m => pt_not (ha Ex m)
theorem qw_and1 (ha : QT X a ta) : QW X (.BoolOp .And [a] pos) ta := fun Ex m => pw_and1 (ha Ex m)
theorem qw_or1 (ha : QT X a ta) : QW X (.BoolOp .Or [a] pos) ta := fun Ex m => pw_or1 (ha Ex m)
theorem qw_and (ha : QT X a ta) (hb : QW X (.BoolOp .And (b :: es) pos) tb) : QW X (.BoolOp .And (a :: b :: es) pos) (dAnd ta tb) := fun Ex m => pw_and (ha Ex m) (hb Ex m)
theorem qw_or (ha : QT X a ta) (hb : QW X (.BoolOp .Or (b :: es) pos) tb) : QW X (.BoolOp .Or (a :: b :: es) pos) (dOr ta tb) := fun Ex m => pw_or (ha Ex m) (hb Ex m)
theorem qe_one {op : BoolOp} (ha : QE X a da) : QE X (.BoolOp op [a] pos) da := fun Ex m => pe_one (ha Ex m)
theorem qe_and (ha : QE X a da) (hb : QE X (.BoolOp .And (b :: es) pos) db) : QE X (.BoolOp .And (a :: b :: es) pos) (dAndV X.K da db) := by
  intro Ex m pins s σ H Q I h
  refine BoolOp_and (thn (ha Ex m pins s σ H _ I h) fun v s1 ⟨x, H1, I1, r1, q1⟩ => thn (tru_D pins s1 σ H1 x v _ I1 r1 q1) fun k s2 ⟨H2, I2, q2⟩ => ?_)
  cases k with
  | true => exact hb Ex m pins s2 σ H2 Q I2 q2
  | false => exact ⟨x, H2, I2, r1, q2⟩
theorem qe_or (ha : QE X a da) (hb : QE X (.BoolOp .Or (b :: es) pos) db) : QE X (.BoolOp .Or (a :: b :: es) pos) (dOrV X.K da db) := by
  intro Ex m pins s σ H Q I h
  refine BoolOp_or (thn (ha Ex m pins s σ H _ I h) fun v s1 ⟨x, H1, I1, r1, q1⟩ => thn (tru_D pins s1 σ H1 x v _ I1 r1 q1) fun k s2 ⟨H2, I2, q2⟩ => ?_)
  cases k with
  | false => exact hb Ex m pins s2 σ H2 Q I2 q2
  | true => exact ⟨x, H2, I2, r1, q2⟩
theorem qe_not (ha : QE X a da) : QE X (.UnaryOp .Not a pos) (dNotV X.K da) := by
  intro Ex m pins s σ H Q I h
  refine UnaryOp_ (thn (ha Ex m pins s σ H _ I h) fun v s1 ⟨x, H1, I1, r1, q1⟩ => not_of (thn (tru_D pins s1 σ H1 x v _ I1 r1 q1) fun k s2 ⟨H2, I2, q2⟩ => ?_))
  exact ⟨.bl (!k), H2, I2, rfl, q2⟩
theorem qe_if {t : Expr} (ht : QT X t ta) (ha : QE X a da) (hb : QE X b db) : QE X (.IfExp t a b pos) (dIfE ta da db) := fun Ex m => pe_ifExp (ht Ex m) (ha Ex m) (hb Ex m)
def noStar : Expr → Bool
  | .Starred _ _ => false
  | _ => true
theorem noStar_ok {e : Expr} (h : noStar e = true) (es : List Expr) (env : Env) : starEach (e :: es) env = (false, eval e env) :: starEach es env := by
  cases e with
  | Starred _ _ => cases h
  | _ => rfl
theorem noStars_any {es : List Expr} (h : es.all noStar = true) (env : Env) (pos : Pos) : (backTo pos (starEach es env)).any (·.1) = false := by
  induction es with
  | nil => rfl
  | cons e es ih =>
    rw [List.all_cons, Bool.and_eq_true] at h
    rw [noStar_ok h.1]
    show (false || (backTo pos (starEach es env)).any (·.1)) = false
    rw [ih h.2]
    rfl
theorem noStars_all {es : List Expr} (h : es.all noStar = true) (env : Env) (pos : Pos) : (backTo pos (starEach es env)).all (fun x => !x.1) = true := by
  induction es with
  | nil => rfl
  | cons e es ih =>
    rw [List.all_cons, Bool.and_eq_true] at h
    rw [noStar_ok h.1]
    show (true && (backTo pos (starEach es env)).all (fun x => !x.1)) = true
    rw [ih h.2]
    rfl
theorem qa_nil : QA X [] dNil := fun _ _ => pa_nil
theorem qa_cons (ha : QE X a da) (hr : QA X es r) (hs : noStar a = true) : QA X (a :: es) (dCons da r) := fun Ex m => pa_cons (ha Ex m) (hr Ex m) (noStar_ok hs es X.env)
theorem qe_tup {k : Nat} (h : QA X es r) : QE X (.Tuple es k pos) (dTup r) := fun Ex m => pe_tup (h Ex m)
theorem qe_lst (h : QA X es r) : QE X (.List es pos) (dLst r) := fun Ex m => pe_lst (h Ex m)
def noSlice : Expr → Bool
  | .Slice _ _ _ _ => false
  | _ => true
theorem noSlice_ok {e : Expr} (h : noSlice e = true) : PlainIx e := by
  intro o i
  cases e with
  | Slice _ _ _ _ => cases h
  | _ => rfl
theorem qe_ix (ha : QE X a da) (hb : QE X b db) (h : noSlice b = true) : QE X (.Subscript a b pos) (dBin (rIxD X.K) da db) := fun Ex m => pe_ix ix_D (ha Ex m) (hb Ex m) (noSlice_ok h)
theorem qe_attr {f : Str} (ha : QE X a da) (h : attributeBase a f X.env (eval a X.env) = eval a X.env) : QE X (.Attribute a f pos) (dUn (rGetD X.K f) da) := by
  intro Ex m pins s σ H Q I hw
  exact attr_of h (thn (ha Ex m pins s σ H _ I hw) fun u s1 ⟨x, H1, I1, rx, q⟩ => get_D I1 rx q)
end
end L2

set_option maxRecDepth 100000
set_option maxHeartbeats 4000000
namespace L2
open PySem PySem.Spec PyProof.Rows

abbrev RF := List V → Hp → VK → Prop
def isTyB (x : V) (T : String) : Bool := match x with
  | .int _ => T == "int"
  | .bl _ => T == "bool" || T == "int"
  | .str _ => T == "str"
  | _ => false
def okT (T : String) : Bool := ["int", "bool", "str", "list", "tuple", "dict"].contains T
def rIsi (K : PySem.W.Frag) : RF := fun xs H Q => match xs with
  | [.int i, .ty T] => okT T = true ∧ Q (.bl (isTyB (.int i) T)) H
  | [.bl i, .ty T] => okT T = true ∧ Q (.bl (isTyB (.bl i) T)) H
  | [.str i, .ty T] => okT T = true ∧ Q (.bl (isTyB (.str i) T)) H
  | [.non, .ty T] => okT T = true ∧ Q (.bl (isTyB .non T)) H
  | [x, .ty T] => ∃ t b, TyX K H x t ∧ PySem.W.kitOne K t (.type T) = some b ∧ Q (.bl b) H
  | [x, .ref C] => ∃ t b, TyX K H x t ∧ PySem.W.kitOne K t (.ref C) = some b ∧ Q (.bl b) H
  | _ => False
def rLen (K : PySem.W.Frag) : RF := fun xs H Q => match xs with
  | [.str z] => z.length ≤ sizeLine ∧ Q (.int z.length) H
  | [.ref p] => ∃ ys, (SqL K H p ys ∨ SqT K H p ys) ∧ Q (.int ys.length) H
  | _ => False
def rAll (K : PySem.W.Frag) : RF := fun xs H Q => match xs with
  | [.ref p] => ∃ bs : List Bool, SqL K H p (bs.map V.bl) ∧ Q (.bl (bs.all fun b => b)) H
  | _ => False
def rInt : RF := fun xs H Q => match xs with
  | [.int i] => Q (.int i) H
  | [.bl k] => Q (.int (if k then 1 else 0)) H
  | _ => False
def rOrd : RF := fun xs H Q => match xs with
  | [.str x] => x.length = 1 ∧ Q (.int (x.cps.getD 0 0 : Nat)) H
  | _ => False
def rListOf (K : PySem.W.Frag) : RF := fun xs H Q => match xs with
  | [.ref p] => ∃ ys, (SqL K H p ys ∨ SqT K H p ys) ∧ ∀ l, H l = none → Q (.ref l) (upd H l (.lst ys))
  | _ => False
def rTupOf (K : PySem.W.Frag) : RF := fun xs H Q => match xs with
  | [.ref p] => ∃ ys, (SqL K H p ys ∧ ∀ l, H l = none → Q (.ref l) (upd H l (.tup ys))) ∨ (SqT K H p ys ∧ Q (.ref p) H)
  | _ => False
/-- str(..) -/
def rStrOf : RF := fun xs H Q => match xs with
  | [.int i] => i.natAbs.log2 < 1920 ∧ Q (.str (toString i)) H
  | [.str z] => Q (.str z) H
  | _ => False
inductive BF where
  | bf (id : String) | ty (T : String)
/-- the built-in of that name, what it is, what it does -/
def bltR (K : PySem.W.Frag) (calm : Bool) (x : Str) : Option (BF × RF) :=
  if x = "len" then some (.bf "len", rLen K) else
  if x = "isinstance" then some (.bf "isinstance", rIsi K) else
  if x = "all" then (if calm = true then some (.bf "all", rAll K) else none) else
  if x = "int" then some (.ty "int", rInt) else
  if x = "ord" then some (.bf "ord", rOrd) else
  if x = "list" then some (.ty "list", rListOf K) else
  if x = "tuple" then some (.ty "tuple", rTupOf K) else
  if x = "str" then some (.ty "str", rStrOf) else none
def BF.val : BF → Value
  | .bf id => .builtin id
  | .ty T => .type T
section
variable {X : Cx}
theorem kit_scalar {K : PySem.W.Frag} {x : V} {T : String} (hx : flatV x = true) (h : okT T = true) : ∃ t, (∀ H, TyOf K H x t) ∧ PySem.W.kitOne K t (.type T) = some (isTyB x T) := by
  have hT : T = "int" ∨ T = "bool" ∨ T = "str" ∨ T = "list" ∨ T = "tuple" ∨ T = "dict" := by
    unfold okT at h
    simpa using h
  cases x with
  | int i => refine ⟨_, fun H => TyOf.int i, ?_⟩; rcases hT with rfl | rfl | rfl | rfl | rfl | rfl <;> rfl
  | bl i => refine ⟨_, fun H => TyOf.bl i, ?_⟩; rcases hT with rfl | rfl | rfl | rfl | rfl | rfl <;> rfl
  | str i => refine ⟨_, fun H => TyOf.str i, ?_⟩; rcases hT with rfl | rfl | rfl | rfl | rfl | rfl <;> rfl
  | non => refine ⟨_, fun H => TyOf.non, ?_⟩; rcases hT with rfl | rfl | rfl | rfl | rfl | rfl <;> rfl
  | _ => cases hx
theorem call_isi : CallR X (.builtin "isinstance") (rIsi X.K) := by
  intro pins s σ H xs us Q I r h
  have sc : ∀ x T, xs = [x, .ty T] → flatV x = true → okT T = true → Q (.bl (isTyB x T)) H → wpAny (model X.prog X.w) X.A (call (.builtin "isinstance") us) (EP X pins σ Q) X.xe s := fun x T e hx hT q => by
    subst e
    obtain ⟨t, ht, hk⟩ := kit_scalar (K := X.K) hx hT
    exact call_isT pins s σ H _ us Q I r ⟨x, T, t, _, rfl, ht H, hk, q⟩
  unfold rIsi at h
  split at h
  · exact sc _ _ rfl rfl h.1 h.2
  · exact sc _ _ rfl rfl h.1 h.2
  · exact sc _ _ rfl rfl h.1 h.2
  · exact sc _ _ rfl rfl h.1 h.2
  · obtain ⟨t, b, ty, e, q⟩ := h
    obtain ⟨u, v, rfl, ru, rv⟩ := r.two
    cases rv
    exact isinst_okX I ru ty e fun tk => ⟨.bl b, H, I.tok tk, rfl, q⟩
  · obtain ⟨t, b, ty, e, q⟩ := h
    obtain ⟨u, v, rfl, ru, rv⟩ := r.two
    cases rv
    exact isinst_okX I ru ty e fun tk => ⟨.bl b, H, I.tok tk, rfl, q⟩
  · exact h.elim
theorem call_lenD : CallR X (.builtin "len") (rLen X.K) := by
  intro pins s σ H xs us Q I r h
  unfold rLen at h
  split at h
  · exact call_len_str pins s σ H _ us Q I r ⟨_, rfl, h.1, h.2⟩
  · obtain ⟨ys, h1, h2⟩ := h
    exact call_len_seq pins s σ H _ us Q I r ⟨_, ys, rfl, h1, h2⟩
  · exact h.elim
theorem call_allD (hc : X.calm = true) : CallR X (.builtin "all") (rAll X.K) := by
  intro pins s σ H xs us Q I r h
  unfold rAll at h
  split at h
  · obtain ⟨bs, h1, h2⟩ := h
    exact call_all hc pins s σ H _ us Q I r ⟨_, bs, rfl, h1, h2⟩
  · exact h.elim
theorem call_intD : CallR X (.type "int") rInt := by
  intro pins s σ H xs us Q I r h
  unfold rInt at h
  split at h
  · exact call_int1 pins s σ H _ us Q I r (.inl ⟨_, rfl, h⟩)
  · exact call_int1 pins s σ H _ us Q I r (.inr ⟨_, rfl, h⟩)
  · exact h.elim
theorem call_ordD : CallR X (.builtin "ord") rOrd := by
  intro pins s σ H xs us Q I r h
  unfold rOrd at h
  split at h
  · exact call_ord pins s σ H _ us Q I r ⟨_, rfl, h.1, h.2⟩
  · exact h.elim
theorem call_listD : CallR X (.type "list") (rListOf X.K) := by
  intro pins s σ H xs us Q I r h
  unfold rListOf at h
  split at h
  · obtain ⟨ys, h1, h2⟩ := h
    exact call_list_of pins s σ H _ us Q I r ⟨_, ys, rfl, h1, h2⟩
  · exact h.elim
theorem call_tupD : CallR X (.type "tuple") (rTupOf X.K) := by
  intro pins s σ H xs us Q I r h
  unfold rTupOf at h
  split at h
  · obtain ⟨ys, h1⟩ := h
    exact call_tuple_of pins s σ H _ us Q I r ⟨_, ys, rfl, h1⟩
  · exact h.elim
theorem call_strD : CallR X (.type "str") rStrOf := by
  intro pins s σ H xs us Q I r h
  unfold rStrOf at h
  split at h
  · cases r with
    | cons r1 t => cases t; obtain ⟨tk, rfl⟩ := r1; exact PySem.P.str_of_int h.1 ⟨.str _, H, I.tok _, ⟨_, rfl⟩, h.2⟩
  · cases r with
    | cons r1 t => cases t; obtain ⟨tk, rfl⟩ := r1; exact PySem.P.str_of_str ⟨.str _, H, I, ⟨_, rfl⟩, h⟩
  · exact h.elim
theorem bltR_ok {x : Str} {f : BF} {r : RF} {c : Bool} (h : bltR X.K c x = some (f, r)) (hc : c = X.calm) : bootBuiltins x = some f.val ∧ CallR X f.val r := by
  unfold bltR at h
  by_cases e : x = "len"
  · rw [if_pos e] at h; cases h; rw [e]; exact ⟨PySem.boot_len, call_lenD⟩
  rw [if_neg e] at h
  by_cases e : x = "isinstance"
  · rw [if_pos e] at h; cases h; rw [e]; exact ⟨PyProof.Rows.boot_isinstance, call_isi⟩
  rw [if_neg e] at h
  by_cases e : x = "all"
  · rw [if_pos e] at h
    by_cases ec : c = true
    · rw [if_pos ec] at h; cases h; rw [e]; exact ⟨PyProof.Rows.boot_all, call_allD (hc ▸ ec)⟩
    · rw [if_neg ec] at h; cases h
  rw [if_neg e] at h
  by_cases e : x = "int"
  · rw [if_pos e] at h; cases h; rw [e]; exact ⟨PyProof.Rows.boot_int, call_intD⟩
  rw [if_neg e] at h
  by_cases e : x = "ord"
  · rw [if_pos e] at h; cases h; rw [e]; exact ⟨PyProof.Rows.boot_ord, call_ordD⟩
  rw [if_neg e] at h
  by_cases e : x = "list"
  · rw [if_pos e] at h; cases h; rw [e]; exact ⟨PyProof.Rows.boot_list, call_listD⟩
  rw [if_neg e] at h
  by_cases e : x = "tuple"
  · rw [if_pos e] at h; cases h; rw [e]; exact ⟨PyProof.Rows.boot_tuple, call_tupD⟩
  rw [if_neg e] at h
  by_cases e : x = "str"
  · rw [if_pos e] at h; cases h; rw [e]; exact ⟨PyProof.Rows.boot_str, call_strD⟩
  rw [if_neg e] at h
  cases h

abbrev RM := V → List V → Hp → VK → Prop
structure BM where
  T : String
  id : String
  r : RM
/-- what is asked of the receiver ahead of the arguments, then the method itself -/
def rMt (K : PySem.W.Frag) (bs : List BM) : V → Hp → (Hp → (List V → Hp → Prop) → Prop) → VK → Prop := fun x H1 ta Q =>
  match bs with
  | [] => False
  | [b] => tyV K b.T x H1 ∧ ta H1 fun xs H2 => b.r x xs H2 Q
  | b :: rest => (tyV K b.T x H1 ∧ ta H1 fun xs H2 => b.r x xs H2 Q) ∨ rMt K rest x H1 ta Q
structure BMOk (X : Cx) (m : Str) (b : BM) : Prop where
  pa : PlainAttrs b.T
  slot : Slot b.T m b.id
  ty : typeOf (.builtin b.id) = pure (.type "method_descriptor")
  mt : MtR X b.id b.r
def rJoin (K : PySem.W.Frag) : RM := fun x xs H Q => ∃ z p ys, x = .str z ∧ xs = [.ref p] ∧ SqL K H p (ys.map V.str) ∧ (ys.map (·.length)).sum + ys.length * z.length ≤ 16777216 ∧ Q (.str (Txt.join z ys)) H
def rBits : RM := fun x xs H Q => ∃ i, x = .int i ∧ xs = [] ∧ Q (.int (Builtin.Int.intBits i : Nat)) H
def mtR (K : PySem.W.Frag) (m : Str) : List BM :=
  if m = "append" then [⟨"list", "list.append", rAppend⟩] else
  if m = "join" then [⟨"str", "str.join", rJoin K⟩] else
  if m = "bit_length" then [⟨"int", "int.bit_length", rBits⟩] else
  if m = "count" then [⟨"list", "list.count", rCount K⟩] else []
theorem mtR_ok {m : Str} {b : BM} (hu : X.A.units + 64 < cLine) (h : b ∈ mtR X.K m) : BMOk X m b := by
  unfold mtR at h
  by_cases e : m = "append"
  · rw [if_pos e] at h
    have : b = ⟨"list", "list.append", rAppend⟩ := by simpa using h
    subst this; subst e
    exact ⟨PySem.F.plainAttrs_list, PySem.F.slot_list_append, PySem.F.type_list_append, mt_append⟩
  rw [if_neg e] at h
  by_cases e : m = "join"
  · rw [if_pos e] at h
    have : b = ⟨"str", "str.join", rJoin X.K⟩ := by simpa using h
    subst this; subst e
    exact ⟨PySem.F.plainAttrs_str, PySem.F.slot_str_join, PySem.F.type_str_join, mt_join⟩
  rw [if_neg e] at h
  by_cases e : m = "bit_length"
  · rw [if_pos e] at h
    have : b = ⟨"int", "int.bit_length", rBits⟩ := by simpa using h
    subst this; subst e
    exact ⟨PySem.F.plainAttrs_int, PySem.F.slot_int_bit_length, PySem.F.type_int_bit_length, mt_bits⟩
  rw [if_neg e] at h
  by_cases e : m = "count"
  · rw [if_pos e] at h
    have : b = ⟨"list", "list.count", rCount X.K⟩ := by simpa using h
    subst this; subst e
    exact ⟨PySem.F.plainAttrs_list, PySem.F.slot_list_count, PySem.F.type_list_count, mt_count hu⟩
  rw [if_neg e] at h
  cases h
theorem rMt_mem {K : PySem.W.Frag} : ∀ {bs : List BM} {x : V} {H1 : Hp} {ta : Hp → (List V → Hp → Prop) → Prop} {Q : VK}, rMt K bs x H1 ta Q → ∃ b ∈ bs, tyV K b.T x H1 ∧ ta H1 fun xs H2 => b.r x xs H2 Q
  | [], _, _, _, _, h => h.elim
  | [b], _, _, _, _, h => ⟨b, by simp, h⟩
  | b :: c :: rest, x, H1, ta, Q, h => by
    rcases h with h | h
    · exact ⟨b, by simp, h⟩
    · obtain ⟨d, hd, q⟩ := rMt_mem h
      exact ⟨d, List.mem_cons_of_mem _ hd, q⟩
/-- the receiver is no super() -/
def noSuper : Expr → Bool
  | .Call (.Name x _) [] [] _ => !(x == ("super" : Str))
  | _ => true
theorem noSuper_ok {e : Expr} (h : noSuper e = true) (f : Str) (env : Env) (whole : Sem Value) : attributeBase e f env whole = whole := by
  unfold attributeBase
  split
  · rename_i id p pos
    have : (id == ("super" : Str)) = false := by
      have h' : (!(id == ("super" : Str))) = true := h
      simpa using h'
    have e2 : (id != "super") = true := by
      show (!(id == "super")) = true
      rw [this]
      rfl
    rw [e2]
    simp
  · rfl
variable {o : Expr} {do' : DE} {es : List Expr} {r : DA} {m : Str} {apos cpos : Pos}
theorem qe_mt0 {bs : List BM} (hb : ∀ b ∈ bs, BMOk X m b) (ho : QE X o do') (h1 : noSuper o = true) (h4 : (apos.endLine == cpos.line) = true) :
    QE X (.Call (.Attribute o m apos) [] [] cpos) (dMt (rMt X.K bs) do' dNil) := by
  intro Ex mt pins s σ H Q I h
  refine wpAny_Call_method0_late (noSuper_ok h1 m X.env _) h4 (thn (ho Ex mt pins s σ H _ I h) fun v s1 ⟨x, H1, I1, r1, q1⟩ => ?_)
  obtain ⟨b, hbm, ty, q⟩ := rMt_mem q1
  obtain ⟨k1, k2⟩ := tyV_is I1 r1 ty
  have B := hb b hbm
  exact ⟨b.T, b.id, B.pa, B.slot, B.ty, k1, k2, Calls.callWith_builtin rfl (PySem.evalArgs_none (B.mt pins s1 σ H1 x [] v [] Q I1 r1 .nil q))⟩
theorem qe_mt {bs : List BM} {e : Expr} (hb : ∀ b ∈ bs, BMOk X m b) (ho : QE X o do') (ha : QA X (e :: es) r) (h1 : noSuper o = true) (h2 : (e :: es).all noStar = true) (h3 : (e :: es).length < 30) (h4 : (apos.endLine == cpos.line) = true) :
    QE X (.Call (.Attribute o m apos) (e :: es) [] cpos) (dMt (rMt X.K bs) do' r) := by
  intro Ex mt pins s σ H Q I h
  have hs := List.all_cons ▸ h2
  rw [Bool.and_eq_true] at hs
  have hfew : ((backTo cpos (starEach (e :: es) X.env)).all (fun x => !x.1) && (backToKw cpos (keywordEach [] X.env)).all (fun x => x.1.isSome)
      && decide ((e :: es).length + ([] : List Keyword).length + (if ([] : List Keyword).isEmpty then 0 else 1) < 30)) = true := by
    rw [noStars_all h2]
    have : decide ((e :: es).length + ([] : List Keyword).length + (if ([] : List Keyword).isEmpty then 0 else 1) < 30) = true := by
      rw [decide_eq_true_iff]
      simpa using h3
    rw [this]
    rfl
  refine wpAny_Call_method_late (noSuper_ok h1 m X.env _) hfew h4 rfl (thn (ho Ex mt pins s σ H _ I h) fun v s1 ⟨x, H1, I1, r1, q1⟩ => ?_)
  obtain ⟨b, hbm, ty, q⟩ := rMt_mem q1
  obtain ⟨k1, k2⟩ := tyV_is I1 r1 ty
  have B := hb b hbm
  refine ⟨b.T, b.id, B.pa, B.slot, B.ty, k1, k2, ?_⟩
  have hA := ha Ex mt cpos pins s1 σ H1 _ I1 q
  rw [noStar_ok hs.1] at hA ⊢
  refine Calls.callWith_builtin (by show (false || (backTo cpos (starEach es X.env)).any (·.1)) = false; rw [noStars_any hs.2] <;> rfl) (Calls.evalArgs_plain ?_)
  exact thn hA fun us s2 ⟨vs, H2, I2, r2, q2⟩ => B.mt pins s2 σ H2 x vs v us Q I2 r1 r2 q2
variable {x : Str} {p pos : Pos} {G : Sg}
theorem qe_blt {f : BF} {rf : RF} {e : Expr} (hc : CallR X f.val rf) (hg : Gl X x) (hm : X.mg x = none) (hv : bootBuiltins x = some f.val) (ha : QA X (e :: es) r) (hs : (e :: es).all noStar = true) (hn : x ≠ "__name__") (hdb : (x == ("__debug__" : Str)) = false) :
    QE X (.Call (.Name x p) (e :: es) [] pos) (dFn (fun vs H Q _ => rf vs H Q) r) := by
  intro Ex mt
  have h := List.all_cons ▸ hs
  rw [Bool.and_eq_true] at h
  cases f with
  | bf id => exact pe_callB hc hg hm hv (ha Ex mt) hn hdb (noStar_ok h.1 es X.env) (noStars_any h.2 X.env pos)
  | ty T => exact pe_callTy hc hg hm hv (ha Ex mt) hn hdb (noStar_ok h.1 es X.env) (noStars_any h.2 X.env pos)
/-- the promise of a def, the exceptions by their addresses -/
def spE (sp : Sp) (dvs : List V) : List V → Hp → VK → EK → Prop := fun vs H Q E => sp (vs ++ dvs) H Q (fun v _ H' => ∃ a, v = .ref a ∧ E a H')
theorem run_fnX {i : FI} (F : FIOk X i) {j : Nat} (hj : j ≤ i.dfs.length) {Ex : St → EK} (mt : Meets X Ex) {pins : List (Addr × Obj)} {σ : St} {H : Hp} {s : Shared} {Q : VK} {us : List Value} {vs : List V}
    (I : Inv X pins σ H s) (r : Vals vs us) (h : spE i.sp (i.dfs.drop j) vs H Q (Ex σ)) : wpAny (model X.prog X.w) X.A (call (.ref i.f) us) (EP X pins σ Q) X.xe s := by
  obtain ⟨CX, hx, FO⟩ := F.ok
  have r2 : Vals (vs ++ i.dfs.drop j) (us ++ i.ds.drop j) := r.append (F.vals.drop j)
  have hl : (us ++ i.ds.drop j).length = i.ps.length := by rw [← r2.length]; exact FO.len _ _ _ _ h
  refine wpAny_call (codeAny_mono (FO.run X.A X.stack s H ⟨us, []⟩ (us ++ i.ds.drop j) (vs ++ i.dfs.drop j) Q _ F.room I.env0 (F.binds j hj s us I.kIn hl) r2 h) fun r s' hq => ?_)
  cases r with
  | error e => exact hx X rfl rfl Ex mt pins σ H s e s' I hq
  | ok fl =>
    cases fl with
    | ret u => exact I.after hq
    | next => exact False.elim hq
    | brk => exact False.elim hq
    | cont => exact False.elim hq
theorem qe_call0 {i : FI} (F : FIOk X i) {j : Nat} (hj : j ≤ i.dfs.length) (hg : Gl X x) (hm : X.mg x = some (.ref i.f)) (hdb : (x == ("__debug__" : Str)) = false) :
    QE X (.Call (.Name x p) [] [] pos) (dFn (spE i.sp (i.dfs.drop j)) dNil) := by
  intro Ex mt pins s σ H Q I h
  refine wpAny_Call_Name_kw (ld_glob I hg hm ?_ hdb)
  exact PySem.W.callWith_K0 I.kIn F.kp (run_fnX (us := []) F hj mt I .nil h)
theorem qe_call {i : FI} {e : Expr} (F : FIOk X i) {j : Nat} (hj : j ≤ i.dfs.length) (hg : Gl X x) (hm : X.mg x = some (.ref i.f)) (ha : QA X (e :: es) r) (hs : (e :: es).all noStar = true) (hdb : (x == ("__debug__" : Str)) = false) :
    QE X (.Call (.Name x p) (e :: es) [] pos) (dFn (spE i.sp (i.dfs.drop j)) r) := by
  intro Ex mt pins s σ H Q I h
  have h2 := List.all_cons ▸ hs
  rw [Bool.and_eq_true] at h2
  refine wpAny_Call_Name_kw (ld_glob I hg hm ?_ hdb)
  refine PySem.W.callWith_K (h₀ := X.base) I.ok.mod.kin F.kp (thn (ha Ex mt pos pins s σ H _ I h) fun us s1 ⟨vs, H1, I1, r, q⟩ => ⟨I1.kIn, ?_⟩) (noStar_ok h2.1 es X.env) (noStars_any h2.2 X.env pos)
  exact run_fnX F hj mt I1 r q
/-- C(..) of a class of exceptions -/
def mkX (C : Addr) : Option FI → Nat → List V → Hp → VK → EK → Prop
  | none, _ => fun _ H Q _ => ∀ a, H a = none → Q (.ref a) (upd H a (excO a C none))
  | some i, j => fun vs H Q E => ∀ a, H a = none → i.sp (.ref a :: (vs ++ i.dfs.drop j)) (upd H a (excO a C none)) (fun v H2 => v = .non ∧ Q (.ref a) H2) (fun v _ H' => ∃ b, v = .ref b ∧ E b H')
theorem run_mkX {C : Addr} {oi : Option FI} {j : Nat} (c : ECls X.K C) (hi : InitOk X C oi) (hj : ∀ i, oi = some i → j ≤ i.dfs.length) {Ex : St → EK} (mt : Meets X Ex) {pins : List (Addr × Obj)} {σ : St} {H : Hp} {s : Shared} {Q : VK} {us : List Value} {vs : List V}
    (I : Inv X pins σ H s) (rv : Vals vs us) (hl : vs.length ≤ 1000) (h : mkX C oi j vs H Q (Ex σ)) : wpAny (model X.prog X.w) X.A (call (.ref C) us) (EP X pins σ Q) X.xe s := by
  cases oi with
  | none => exact run_makeX0 c hi I rv hl h
  | some i =>
    obtain ⟨h1, h2, F, hr⟩ := hi
    obtain ⟨CX, hx, FO⟩ := F.ok
    exact run_makeX c h1 h2 FO hr (F.binds j (hj i rfl)) (F.vals.drop j) I rv hl (fun e s1 s' H1 I1 q => hx X rfl rfl Ex mt pins σ H1 s1 e s' I1 q) h
theorem qe_mkX0 {C : Addr} {oi : Option FI} {j : Nat} (c : ECls X.K C) (hi : InitOk X C oi) (hj : ∀ i, oi = some i → j ≤ i.dfs.length) (kp : PySem.W.keepIn X.K (.ref C) = true) (hg : Gl X x) (hm : X.mg x = some (.ref C)) (hdb : (x == ("__debug__" : Str)) = false) :
    QE X (.Call (.Name x p) [] [] pos) (dFn (mkX C oi j) dNil) := by
  intro Ex mt pins s σ H Q I h
  refine wpAny_Call_Name_kw (ld_glob I hg hm ?_ hdb)
  exact PySem.W.callWith_K0 I.kIn kp (run_mkX (us := []) c hi hj mt I .nil (by simp) h)
theorem qe_mkX {C : Addr} {oi : Option FI} {j : Nat} {e : Expr} (c : ECls X.K C) (hi : InitOk X C oi) (hj : ∀ i, oi = some i → j ≤ i.dfs.length) (kp : PySem.W.keepIn X.K (.ref C) = true) (hg : Gl X x) (hm : X.mg x = some (.ref C)) (ha : QA X (e :: es) r) (hs : (e :: es).all noStar = true) (hdb : (x == ("__debug__" : Str)) = false) :
    QE X (.Call (.Name x p) (e :: es) [] pos) (dFn (fun vs H Q E => vs.length ≤ 1000 ∧ mkX C oi j vs H Q E) r) := by
  intro Ex mt pins s σ H Q I h
  have h2 := List.all_cons ▸ hs
  rw [Bool.and_eq_true] at h2
  refine wpAny_Call_Name_kw (ld_glob I hg hm ?_ hdb)
  refine PySem.W.callWith_K (h₀ := X.base) I.ok.mod.kin kp (thn (ha Ex mt pos pins s σ H _ I h) fun us s1 ⟨vs, H1, I1, r, q⟩ => ⟨I1.kIn, ?_⟩) (noStar_ok h2.1 es X.env) (noStars_any h2.2 X.env pos)
  exact run_mkX c hi hj mt I1 r q.1 q.2
/-- C(..) of a class that is no exception -/
def mkC (C : Addr) : Option FI → Nat → List V → Hp → VK → EK → Prop
  | none, _ => fun vs H Q _ => vs = [] ∧ ∀ a dx, H a = none → H dx = none → dx ≠ a → Q (.ref a) (upd (upd H dx (.own a)) a (.ins C dx []))
  | some i, j => fun vs H Q E => ∀ a dx, H a = none → H dx = none → dx ≠ a →
      i.sp (.ref a :: (vs ++ i.dfs.drop j)) (upd (upd H dx (.own a)) a (.ins C dx [])) (fun v H2 => v = .non ∧ Q (.ref a) H2) (fun v _ H' => ∃ b, v = .ref b ∧ E b H')
theorem run_make0 {C : Addr} (h1 : PySem.W.makesIn X.K C = true) (h2 : PySem.W.findIn X.K (.ref C) "__init__" = some (some (.builtin "object.__init__"))) {pins : List (Addr × Obj)} {σ : St} {H : Hp} {s : Shared} {Q : VK}
    (I : Inv X pins σ H s) (h : ∀ a dx, H a = none → H dx = none → dx ≠ a → Q (.ref a) (upd (upd H dx (.own a)) a (.ins C dx []))) : wpAny (model X.prog X.w) X.A (call (.ref C) []) (EP X pins σ Q) X.xe s := by
  have hq := h (s.heap.objs.size + 1) s.heap.objs.size (I.hok.fresh (Nat.le_succ _)) (I.hok.fresh (Nat.le_refl _)) (Nat.ne_of_lt (Nat.lt_succ_self _))
  have I2 := Inv.made (C := C) I
  have e2 : ((s.heap.push PySem.W.emptyDict).push (PySem.W.instObj C s.heap.objs.size)).get? (s.heap.objs.size + 1) = some (PySem.W.instObj C s.heap.objs.size) := by
    have z := Heap.get?_push_size (s.heap.push PySem.W.emptyDict) (o := PySem.W.instObj C s.heap.objs.size) rfl
    rwa [Heap.size_push] at z
  refine wpAny_call (make_map0 I.kIn h1 h2 (fun self => .of_pure (PySem.W.oi_bind self)) ?_)
  have ty : PySem.W.Looks (model X.prog X.w) ((s.heap.push PySem.W.emptyDict).push (PySem.W.instObj C s.heap.objs.size)) (typeOf (.ref (s.heap.objs.size + 1))) (.ref C) := (PySem.W.Looks.ld e2).andThen .now
  have io : PySem.W.Looks (model X.prog X.w) ((s.heap.push PySem.W.emptyDict).push (PySem.W.instObj C s.heap.objs.size)) (isInstance (.ref (s.heap.objs.size + 1)) (.type "object")) true :=
    ty.andThen ((PySem.W.makes_of (M := model X.prog X.w) I.kIn h1).top.keeps fun b o e => Heap.get?_push_of_some _ (Heap.get?_push_of_some _ e))
  refine codeAny_call_builtin PySem.W.oi_plain PySem.W.entry_oi (PySem.W.check_slot (s := { s with heap := (s.heap.push PySem.W.emptyDict).push (PySem.W.instObj C s.heap.objs.size) }) (i := "object.__init__") (owner := "object") (self := .ref (s.heap.objs.size + 1)) PySem.W.oi_kind PySem.W.oi_split io (PySem.W.oi_args _) ?_)
  rw [PySem.W.oi_run]
  exact wpAny_pure ⟨rfl, ⟨.ref _, _, I2, rfl, hq⟩⟩
theorem run_mk1 {C f : Addr} {CX : CXT} {k : Nat} {fd : FuncData} {ps : List Str} {sp : Sp} {ds : List Value} {dvs : List V} {E : XK} {pins : List (Addr × Obj)} {σ : St} {H : Hp} {s : Shared} {Q : VK} {us : List Value} {vs : List V}
    (M : Mk X.K C f) (F : FnOk X.prog X.w X.K X.mg X.base CX k f fd ps sp) (hr : Room (k + 1) X.A) (hb : Binds X.K fd ps ds) (hd : Vals dvs ds) (hx : ∀ H1 s1 e s', Inv X pins σ H1 s1 → CX X.stack H1 s1 E e s' → X.xe e s') (I : Inv X pins σ H s) (r : Vals vs us)
    (h : ∀ x dx, H x = none → H dx = none → dx ≠ x → sp (.ref x :: (vs ++ dvs)) (upd (upd H dx (.own x)) x (.ins C dx [])) (fun v H2 => v = .non ∧ Q (.ref x) H2) E) :
    wpAny (model X.prog X.w) X.A (call (.ref C) us) (EP X pins σ Q) X.xe s := by
  have hq := h (s.heap.objs.size + 1) s.heap.objs.size (I.hok.fresh (Nat.le_succ _)) (I.hok.fresh (Nat.le_refl _)) (Nat.ne_of_lt (Nat.lt_succ_self _))
  have I2 := Inv.made (C := C) I
  have r2 : Vals (V.ref (s.heap.objs.size + 1) :: (vs ++ dvs)) (Value.ref (s.heap.objs.size + 1) :: (us ++ ds)) := .cons rfl (r.append hd)
  have hl : (Value.ref (s.heap.objs.size + 1) :: us ++ ds).length = ps.length := by
    have e := r2.length
    rw [F.len _ _ _ _ hq] at e
    exact e.symm
  refine wpAny_call (make_map (f := f) I.kIn M.makes M.init (beq_iff_eq.mp M.fn) (codeAny_mono (F.run _ X.stack _ _ ⟨Value.ref (s.heap.objs.size + 1) :: us, []⟩ (Value.ref (s.heap.objs.size + 1) :: (us ++ ds)) _ _ E (hr.make C us [])
    (I2.env0.make C us []) (hb _ (Value.ref (s.heap.objs.size + 1) :: us) I2.kIn hl) r2 hq) fun r s' hq' => ?_))
  cases r with
  | error e => exact hx _ _ e s' I2 hq'
  | ok fl =>
    cases fl with
    | ret u =>
      obtain ⟨v, H', I3, rv, ev, q3⟩ := I2.after hq'
      subst ev
      exact ⟨rv, ⟨V.ref (s.heap.objs.size + 1), H', I3, rfl, q3⟩⟩
    | next => exact False.elim hq'
    | brk => exact False.elim hq'
    | cont => exact False.elim hq'
theorem run_mkC {C : Addr} {oi : Option FI} {j : Nat} (hi : MkOk X C oi) (hj : ∀ i, oi = some i → j ≤ i.dfs.length) {Ex : St → EK} (mt : Meets X Ex) {pins : List (Addr × Obj)} {σ : St} {H : Hp} {s : Shared} {Q : VK} {us : List Value} {vs : List V}
    (I : Inv X pins σ H s) (rv : Vals vs us) (kp : PySem.W.keepIn X.K (.ref C) = true) (h : mkC C oi j vs H Q (Ex σ)) : wpAny (model X.prog X.w) X.A (call (.ref C) us) (EP X pins σ Q) X.xe s := by
  cases oi with
  | none =>
    obtain ⟨rfl, h⟩ := h
    cases rv
    exact run_make0 hi.1 hi.2 I h
  | some i =>
    obtain ⟨h0, h1, h2, F, hr⟩ := hi
    obtain ⟨CX, hx, FO⟩ := F.ok
    exact run_mk1 ⟨h0, h1, h2, kp⟩ FO hr (F.binds j (hj i rfl)) (F.vals.drop j) (fun H1 s1 e s' I1 q => hx X rfl rfl Ex mt pins σ H1 s1 e s' I1 q) I rv h
theorem qe_mkC0 {C : Addr} {oi : Option FI} {j : Nat} (hi : MkOk X C oi) (hj : ∀ i, oi = some i → j ≤ i.dfs.length) (kp : PySem.W.keepIn X.K (.ref C) = true) (hg : Gl X x) (hm : X.mg x = some (.ref C)) (hdb : (x == ("__debug__" : Str)) = false) :
    QE X (.Call (.Name x p) [] [] pos) (dFn (mkC C oi j) dNil) := by
  intro Ex mt pins s σ H Q I h
  refine wpAny_Call_Name_kw (ld_glob I hg hm ?_ hdb)
  exact PySem.W.callWith_K0 I.kIn kp (run_mkC (us := []) hi hj mt I .nil kp h)
theorem qe_mkC {C : Addr} {oi : Option FI} {j : Nat} {e : Expr} (hi : MkOk X C oi) (hj : ∀ i, oi = some i → j ≤ i.dfs.length) (kp : PySem.W.keepIn X.K (.ref C) = true) (hg : Gl X x) (hm : X.mg x = some (.ref C)) (ha : QA X (e :: es) r) (hs : (e :: es).all noStar = true) (hdb : (x == ("__debug__" : Str)) = false) :
    QE X (.Call (.Name x p) (e :: es) [] pos) (dFn (mkC C oi j) r) := by
  intro Ex mt pins s σ H Q I h
  have h2 := List.all_cons ▸ hs
  rw [Bool.and_eq_true] at h2
  refine wpAny_Call_Name_kw (ld_glob I hg hm ?_ hdb)
  refine PySem.W.callWith_K (h₀ := X.base) I.ok.mod.kin kp (thn (ha Ex mt pos pins s σ H _ I h) fun us s1 ⟨vs, H1, I1, r, q⟩ => ⟨I1.kIn, ?_⟩) (noStar_ok h2.1 es X.env) (noStars_any h2.2 X.env pos)
  exact run_mkC hi hj mt I1 r kp q
/-- o.m(..), the method of the object's own class -/
def dOwn (m : Str) (n : Nat) (l : List MI) (o : DE) (t : DA) : DE := fun σ H Q E => o σ H (fun x H1 => ∃ a dx fs mi, x = .ref a ∧ mi ∈ l ∧ H1 a = some (.ins mi.C dx fs) ∧ fs.lookup m = none ∧ (n + 1 ≤ mi.i.ps.length ∧ mi.i.ps.length ≤ n + 1 + mi.i.dfs.length) ∧
  t σ H1 (fun vs H2 => spE mi.i.sp (mi.i.dfs.drop (n + 1 + mi.i.dfs.length - mi.i.ps.length)) (.ref a :: vs) H2 Q E) E) E
theorem own_call {es : List Expr} {P : Value → Shared → Prop} {s : Shared} (h1 : noSuper o = true) (h2 : es.all noStar = true) (h3 : es.length < 30) (h4 : (apos.endLine == cpos.line) = true)
    (h : wpAny (model X.prog X.w) X.A (eval o X.env) (fun ov s1 => ∀ pl, wpAny (model X.prog X.w) X.A (getMethod ov m pl) (fun fx s2 => wpAny (model X.prog X.w) X.A (callWith cpos fx.1 fx.2 (backTo cpos (starEach es X.env)) (backToKw cpos (keywordEach [] X.env))) P X.xe s2) X.xe s1) X.xe s) :
    wpAny (model X.prog X.w) X.A (eval (.Call (.Attribute o m apos) es [] cpos) X.env) P X.xe s := by
  have few : methodCallForm (es.length + ([] : List Keyword).length) (backTo cpos (starEach es X.env)) (backToKw cpos (keywordEach [] X.env)) = true := by
    unfold methodCallForm
    rw [noStars_all h2]
    simpa [backToKw, keywordEach] using h3
  rw [arm_eval_Call, noSuper_ok h1]
  refine wpAny_bind (thn h fun ov s1 h1 => wpAny_bind (wpAny_standAt ?_))
  unfold methodCall calleeOf
  rw [few, if_pos rfl]
  refine wpAny_bind (wpAny_holding (thn (h1 _) fun fx s2 h2 => ?_))
  have hp : methodCallPos true o X.env apos cpos = pure cpos := by unfold methodCallPos; rw [h4]; rfl
  rw [hp]
  exact wpAny_bind (wpAny_pure h2)
theorem qe_own0 {l : List MI} (hl : ∀ mi ∈ l, Cls X.K mi.C ∧ Meth X.K mi.C m mi.i.f ∧ FIOk X mi.i) (ho : QE X o do') (h1 : noSuper o = true) (h4 : (apos.endLine == cpos.line) = true) :
    QE X (.Call (.Attribute o m apos) [] [] cpos) (dOwn m 0 l do' dNil) := by
  intro Ex mt pins s σ H Q I h
  refine own_call (es := []) h1 rfl (by decide) h4 (thn (ho Ex mt pins s σ H _ I h) fun u s1 ⟨x, H1, I1, rx, a, dx, fs, mi, ex, hm, ea, hf, hn, q⟩ pl => ?_)
  subst ex
  obtain rfl : u = Value.ref a := rx
  obtain ⟨c, k, F⟩ := hl mi hm
  refine getmeth_ok I1 ea c k hf ?_
  exact PySem.W.callWith_K0 (first := [.ref a]) I1.kIn k.kp (run_fnX (us := [.ref a]) (vs := [.ref a]) F (by omega) mt I1 (.cons rfl .nil) q)
theorem qe_own {l : List MI} {e : Expr} (hl : ∀ mi ∈ l, Cls X.K mi.C ∧ Meth X.K mi.C m mi.i.f ∧ FIOk X mi.i) (ho : QE X o do') (ha : QA X (e :: es) r) (h1 : noSuper o = true) (h2 : (e :: es).all noStar = true) (h3 : (e :: es).length < 30) (h4 : (apos.endLine == cpos.line) = true) :
    QE X (.Call (.Attribute o m apos) (e :: es) [] cpos) (dOwn m (es.length + 1) l do' r) := by
  intro Ex mt pins s σ H Q I h
  refine own_call h1 h2 h3 h4 (thn (ho Ex mt pins s σ H _ I h) fun u s1 ⟨x, H1, I1, rx, a, dx, fs, mi, ex, hm, ea, hf, hn, q⟩ pl => ?_)
  subst ex
  obtain rfl : u = Value.ref a := rx
  obtain ⟨c, k, F⟩ := hl mi hm
  refine getmeth_ok I1 ea c k hf ?_
  have hs := List.all_cons ▸ h2
  rw [Bool.and_eq_true] at hs
  refine PySem.W.callWith_K (first := [.ref a]) (h₀ := X.base) I.ok.mod.kin k.kp (thn (ha Ex mt cpos pins s1 σ H1 _ I1 q) fun us s2 ⟨vs, H2, I2, r2, q2⟩ => ⟨I2.kIn, ?_⟩) (noStar_ok hs.1 es X.env) (noStars_any hs.2 X.env cpos)
  exact run_fnX (us := .ref a :: us) (vs := .ref a :: vs) F (by omega) mt I2 (.cons rfl r2) q2
def rFmt : V → Hp → VK → Prop := fun x H Q => match x with
  | .int i => i.natAbs.log2 < 1920 ∧ Q (.str (toString i)) H
  | .str z => z.length ≤ sizeLine ∧ Q (.str z) H
  | _ => False
def dJoin : Str → List DE → DE
  | out, [] => fun _ H Q _ => out.length ≤ sizeLine ∧ Q (.str out) H
  | out, d :: ds => fun σ H Q E => d σ H (fun x H1 => match x with
    | .str y => (out ++ y).length ≤ sizeLine ∧ dJoin (out ++ y) ds σ H1 Q E
    | _ => False) E
theorem qe_fmt (ho : QE X o do') : QE X (.FormattedValue o (-1) none pos) (dUn rFmt do') := by
  intro Ex mt pins s σ H Q I h
  refine FormattedValue_plain (thn (ho Ex mt pins s σ H _ I h) fun u s1 ⟨x, H1, I1, rx, q⟩ => ?_)
  cases x with
  | int i => obtain ⟨t, rfl⟩ := rx; exact formatField_int_small q.1 ⟨.str _, H1, I1.tok _, ⟨_, rfl⟩, q.2⟩
  | str z => obtain ⟨t, rfl⟩ := rx; exact formatField_str (fun t' tk => ⟨.str _, H1, I1.tok _, ⟨_, rfl⟩, q.2⟩) q.1
  | _ => exact (show False from q).elim
theorem join_ok {w : Expr → DE} (h : ∀ e, QE X e (w e)) {Ex : St → EK} (mt : Meets X Ex) {pins : List (Addr × Obj)} {σ : St} {Q : VK} : ∀ {es : List Expr} {out : Str} {s : Shared} {H : Hp}, Inv X pins σ H s → dJoin out (es.map w) σ H Q (Ex σ) →
    wpAny (model X.prog X.w) X.A (joinParts out (evalEach es X.env)) (EP X pins σ Q) X.xe s
  | [], out, s, H, I, q => joinParts_nil ⟨.str _, H, I.tok _, ⟨_, rfl⟩, q.2⟩ q.1
  | e :: es, out, s, H, I, q => joinParts_cons (thn (h e Ex mt pins s σ H _ I q) fun u s1 ⟨x, H1, I1, rx, q⟩ => by
    cases x with
    | str y => obtain ⟨t, rfl⟩ := rx; exact ⟨q.1, join_ok h mt I1 q.2⟩
    | _ => exact (show False from q).elim)
def wJoin (w : Expr → DE) : List Expr → DE
  | [] => dNo
  | [e] => w e
  | e :: f :: es => dJoin Str.empty ((e :: f :: es).map w)
theorem qe_join {w : Expr → DE} (h : ∀ e, QE X e (w e)) : ∀ (es : List Expr), QE X (.JoinedStr es pos) (wJoin w es)
  | [] => qe_no
  | [e] => fun Ex mt pins s σ H Q I q => JoinedStr_one (h e Ex mt pins s σ H Q I q)
  | e :: f :: es => fun Ex mt pins s σ H Q I q => JoinedStr_many (join_ok (es := e :: f :: es) h mt I q)
end
end L2

set_option maxRecDepth 100000
set_option maxHeartbeats 4000000
namespace L2
open PySem PySem.Spec PyProof.Rows

def QI (X : Cx) (tg e : Expr) (t : DI) : Prop := ∀ Ex, Meets X Ex → PI X tg e (fun σ H R => t σ H R (Ex σ))
def iNo : DI := fun _ _ _ _ => False
def iVal (K : PySem.W.Frag) (a : DE) : DI := fun σ H R E => a σ H (fun x H1 => match x with
  | .str z => R (Its z) H1
  | .ref p => ((∃ xs, SqL K H1 p xs) ∧ R (Itl K p) H1) ∨ ((∃ xs, SqT K H1 p xs) ∧ R (Itt K p) H1)
  | _ => False) E
def iRng (t : DA) : DI := fun σ H R E => t σ H (fun vs H1 => match vs with
  | [.int j] => (-(2 ^ 62) ≤ j ∧ j < 2 ^ 62) ∧ R (Itr 0 j.toNat) H1
  | [.int i, .int j] => (-(2 ^ 62) ≤ i ∧ i < 2 ^ 62 ∧ -(2 ^ 62) ≤ j ∧ j < 2 ^ 62) ∧ R (Itr i (j - i).toNat) H1
  | _ => False) E
def iZp (K : PySem.W.Frag) (t : DA) : DI := fun σ H R E => t σ H (fun vs H1 => match vs with
  | [.ref a, .ref b] => (∃ xs, SqL K H1 a xs) ∧ (∃ ys, SqL K H1 b ys) ∧ R (Itz K a b) H1
  | _ => False) E
def iEn (K : PySem.W.Frag) (t : DA) : DI := fun σ H R E => t σ H (fun vs H1 => match vs with
  | [.ref a] => (∃ xs, SqL K H1 a xs) ∧ R (Ite K a) H1
  | _ => False) E
section
variable {X : Cx} {tg e a b : Expr} {da : DE} {r : DA} {p pos : Pos}
theorem qi_no : QI X tg e iNo := fun _ _ _ _ _ _ _ _ h => h.elim
theorem qi_val (ha : QE X e da) : QI X tg e (iVal X.K da) := by
  intro Ex mt pins s σ H R I h
  refine thn (ha Ex mt pins s σ H _ I h) fun v s1 ⟨x, H1, I1, r1, q1⟩ => ?_
  cases x with
  | str z =>
    obtain ⟨t, rfl⟩ := r1
    refine wpAny_pyIter_strU ?_
    refine ⟨s1.heap.objs.size, [s1.heap.objs.size], _, _, H1, rfl, I1.kept (t' := s1.toks) fun b o e => Heap.get?_push_of_some _ e, turn_str s1.heap.objs.size z t (strIterType z) (by unfold strIterType; split <;> simp), ⟨_, Heap.get?_push_size _ rfl, rfl, rfl⟩, fun b hb => ?_, q1⟩
    have e : b = s1.heap.objs.size := by simpa using hb
    subst e
    exact I1.fpOk (Nat.le_refl _) (I1.hok.fresh (Nat.le_refl _))
  | ref a =>
    cases r1
    rcases q1 with ⟨⟨xs, hq⟩, q⟩ | ⟨⟨xs, hq⟩, q⟩
    · obtain ⟨its, rv, p, hz⟩ := I1.list hq
      refine wpAny_pyIter_list p.isList ?_
      refine ⟨s1.heap.objs.size, [s1.heap.objs.size], _, _, H1, rfl, I1.kept (t' := s1.toks) fun b o e => Heap.get?_push_of_some _ e, turn_list a _, ⟨_, Heap.get?_push_size _ rfl, rfl, rfl⟩, fun b hb => ?_, q⟩
      have e : b = s1.heap.objs.size := by simpa using hb
      subst e
      exact I1.fpOk (Nat.le_refl _) (I1.hok.fresh (Nat.le_refl _))
    · obtain ⟨its, rv, p, hz⟩ := I1.tuple hq
      refine wpAny_pyIter_tuple (show s1.heap.IsTuple a its.toArray from p) ?_
      refine ⟨s1.heap.objs.size, [s1.heap.objs.size], _, _, H1, rfl, I1.kept (t' := s1.toks) fun b o e => Heap.get?_push_of_some _ e, turn_tuple a _, ⟨_, Heap.get?_push_size _ rfl, rfl, rfl⟩, fun b hb => ?_, q⟩
      have e : b = s1.heap.objs.size := by simpa using hb
      subst e
      exact I1.fpOk (Nat.le_refl _) (I1.hok.fresh (Nat.le_refl _))
  | _ => exact (show False from q1).elim
variable {es : List Expr}
theorem qi_range (hg : Gl X "range") (hm : X.mg "range" = none) (ha : QA X (a :: es) r) (hs : (a :: es).all noStar = true) : QI X tg (.Call (.Name "range" p) (a :: es) [] pos) (iRng r) := by
  intro Ex mt pins s σ H R I h
  have h2 := List.all_cons ▸ hs
  rw [Bool.and_eq_true] at h2
  refine Call_ (ld_blt I hg hm boot_range (PyProof.Rows.callWith_type1 (thn (ha Ex mt pos pins s σ H _ I h) fun us s1 ⟨vs, H1, I1, r1, q1⟩ => ?_) (noStar_ok h2.1 es X.env) (noStars_any h2.2 X.env pos)))
  dsimp only at q1
  split at q1
  · obtain ⟨⟨h1, h2⟩, q⟩ := q1
    obtain ⟨u, rfl, t, rfl⟩ := vals1 r1
    exact call_range_1 (range_it I1 (by omega) (by omega) h1 h2 (by simpa using q))
  · obtain ⟨⟨h1, h2, h3, h4⟩, q⟩ := q1
    obtain ⟨u, v, rfl, ⟨t, rfl⟩, ⟨t', rfl⟩⟩ := vals2 r1
    exact call_range_2 (range_it I1 h1 h2 h3 h4 q)
  · exact q1.elim
theorem qi_zip {elts : List Expr} {kt : Nat} {pt : Pos} (hg : Gl X "zip") (hm : X.mg "zip" = none) (ha : QA X (a :: es) r) (hs : (a :: es).all noStar = true) : QI X (.Tuple elts kt pt) (.Call (.Name "zip" p) (a :: es) [] pos) (iZp X.K r) := by
  intro Ex mt pins s σ H R I h
  have hh := List.all_cons ▸ hs
  rw [Bool.and_eq_true] at hh
  refine Call_ (ld_blt I hg hm boot_zip (PyProof.Rows.callWith_type1 (thn (ha Ex mt pos pins s σ H _ I h) fun us s1 ⟨vs, H1, I1, r1, q1⟩ => ?_) (noStar_ok hh.1 es X.env) (noStars_any hh.2 X.env pos)))
  dsimp only at q1
  split at q1
  · rename_i l1 l2
    obtain ⟨⟨xs, q1⟩, ⟨ys, q2⟩, q⟩ := q1
    obtain ⟨u, v, rfl, ru, rv⟩ := r1.two
    cases ru
    cases rv
    obtain ⟨its1, t1, p1, z1⟩ := I1.list q1
    obtain ⟨its2, t2, p2, z2⟩ := I1.list q2
    refine call_zip_2 p1.isList p2.isList fun h' hz hTI hTO hi1 hi2 hsz hk => ?_
    refine wpAny_pyIter_zip hz ?_
    have a1 : l1 < s1.heap.objs.size := by obtain ⟨_, e, _⟩ := p1.isList; exact Heap.lt_size e
    have a2 : l2 < s1.heap.objs.size := by obtain ⟨_, e, _⟩ := p2.isList; exact Heap.lt_size e
    refine ⟨_, _, _, _, H1, rfl, I1.kept (t' := s1.toks) hk, turn_zip (PyProof.Rows.zipApart_new a1 a2), ⟨hz, hTI, ⟨_, _, hTO⟩, hi1, hi2⟩, fun b hb => ?_, q⟩
    have hb : b = s1.heap.objs.size + 4 ∨ b = s1.heap.objs.size + 2 ∨ b = s1.heap.objs.size + 3 ∨ b = s1.heap.objs.size ∨ b = s1.heap.objs.size + 1 := by simpa using hb
    have le : s1.heap.objs.size ≤ b := by
      rcases hb with e | e | e | e | e
      · rw [e]; exact Nat.le_add_right _ 4
      · rw [e]; exact Nat.le_add_right _ 2
      · rw [e]; exact Nat.le_add_right _ 3
      · rw [e]; exact Nat.le_refl _
      · rw [e]; exact Nat.le_add_right _ 1
    exact I1.fpOk le (I1.hok.fresh le)
  · exact q1.elim

theorem qi_enum {elts : List Expr} {kt : Nat} {pt : Pos} (hg : Gl X "enumerate") (hm : X.mg "enumerate" = none) (ha : QA X (a :: es) r) (hs : (a :: es).all noStar = true) : QI X (.Tuple elts kt pt) (.Call (.Name "enumerate" p) (a :: es) [] pos) (iEn X.K r) := by
  intro Ex mt pins s σ H R I h
  have hh := List.all_cons ▸ hs
  rw [Bool.and_eq_true] at hh
  refine Call_ (ld_blt I hg hm boot_enumerate (PyProof.Rows.callWith_type1 (thn (ha Ex mt pos pins s σ H _ I h) fun us s1 ⟨vs, H1, I1, r1, q1⟩ => ?_) (noStar_ok hh.1 es X.env) (noStars_any hh.2 X.env pos)))
  dsimp only at q1
  split at q1
  · rename_i l
    obtain ⟨⟨xs, q1⟩, q⟩ := q1
    obtain ⟨u, rfl, ru⟩ := vals1 r1
    cases ru
    obtain ⟨its1, t1, p1, z1⟩ := I1.list q1
    refine call_enumerate_list p1.isList fun h' he hit hsz hk => ?_
    refine wpAny_pyIter_enum he ?_
    refine ⟨_, _, _, _, H1, rfl, I1.kept (t' := s1.toks) hk, turn_enum (Nat.succ_ne_self _), ⟨⟨_, he⟩, hit⟩, fun b hb => ?_, q⟩
    have hb : b = s1.heap.objs.size + 1 ∨ b = s1.heap.objs.size := by simpa using hb
    have le : s1.heap.objs.size ≤ b := by
      rcases hb with e | e
      · rw [e]; exact Nat.le_add_right _ 1
      · rw [e]; exact Nat.le_refl _
    exact I1.fpOk le (I1.hok.fresh le)
  · exact q1.elim

def gNo : DG := fun _ _ _ _ => False
def gdS : List DG → List V → St → Hp → (St → Hp → Prop) → Prop
  | [], [], σ, H, Q => Q σ H
  | g :: gs, v :: vs, σ, H, Q => g v σ H fun σ' H' => gdS gs vs σ' H' Q
  | _, _, _, _, _ => False
def gdT (K : PySem.W.Frag) (n : Nat) (gs : List DG) : DG := fun v σ H Q => match v with
  | .ref a => ∃ xs, SqT K H a xs ∧ xs.length = n ∧ gdS gs xs σ H Q
  | _ => False
theorem pg_no : PG X tg gNo := fun _ _ _ _ _ _ _ _ _ h => h.elim
theorem pgs_N : PGs X [] (gdS []) := by
  intro pins s σ H vs us Q I r h
  cases vs with
  | nil => exact pgs_nil pins s σ H [] us Q I r ⟨rfl, h⟩
  | cons v vs => exact (show False from h).elim
theorem pgs_C {g : DG} {gs : List DG} {ts : List Expr} (h1 : PG X tg g) (h2 : PGs X ts (gdS gs)) (hs : (assignEach (tg :: ts) X.env).map (·.2) = assign tg X.env :: (assignEach ts X.env).map (·.2)) : PGs X (tg :: ts) (gdS (g :: gs)) := by
  intro pins s σ H vs us Q I r h
  cases vs with
  | nil => exact (show False from h).elim
  | cons v vs => exact pgs_cons h1 h2 hs pins s σ H (v :: vs) us Q I r ⟨v, vs, rfl, h⟩
theorem pg_T {ts : List Expr} {k n : Nat} {gs : List DG} (hc : X.calm = true) (h : PGs X ts (gdS gs)) (hn : (assignEach ts X.env).length = n) (hst : (assignEach ts X.env).findIdx? (·.1) = none) : PG X (.Tuple ts k pos) (gdT X.K n gs) := by
  intro pins s σ H v u Q I r hw
  cases v with
  | ref a => exact pg_tup hc h hn hst pins s σ H _ u Q I r (let ⟨xs, h1, h2, h3⟩ := hw; ⟨a, xs, rfl, h1, h2, h3⟩)
  | _ => exact (show False from hw).elim
end
end L2

set_option maxRecDepth 100000
set_option maxHeartbeats 4000000
namespace L2
open PySem PySem.Spec PyProof.Rows

def closL (cs : List (Str × Addr)) : List (Str × NameKind) → List (Str × Addr) → List (Str × Addr)
  | [], acc => acc
  | (n, k) :: r, acc => if k == .free then closL cs r ((n, (cs.lookup n).getD 0) :: acc) else closL cs r acc
theorem closureFor_eq {scope : Scope} {env : Env} (h : ∀ y ∈ scope.names, y.2 = .free → ∃ c, env.cells.lookup y.1 = some c) : closureFor scope env = pure (closL env.cells scope.names []) := by
  unfold closureFor
  generalize scope.names = names at h
  suffices ∀ acc, (forIn names acc fun (x : Str × NameKind) cs => do
      if (x.2 == .free) = true then do
        let c ← cellOf env x.1
        pure (ForInStep.yield ((x.1, c) :: cs))
      else pure (ForInStep.yield cs) : Sem (List (Str × Addr))) = pure (closL env.cells names acc) by
    have := this []
    simp only [bind_pure]
    exact this
  induction names with
  | nil => intro acc; rfl
  | cons y r ih =>
    intro acc
    obtain ⟨n, k⟩ := y
    rw [List.forIn_cons]
    unfold closL
    by_cases e : (k == NameKind.free) = true
    · obtain ⟨c, hc⟩ := h (n, k) (by simp) (eq_of_beq e)
      have ec : cellOf env n = pure c := by
        unfold cellOf
        rw [show env.cells.lookup n = some c from hc]
      simp only [e, if_true, ec, pure_bind]
      rw [ih (fun y hy => h y (List.mem_cons_of_mem _ hy))]
      rw [show env.cells.lookup n = some c from hc]
      rfl
    · have e' : (k == NameKind.free) = false := by simpa using e
      simp only [e', Bool.false_eq_true, if_false, pure_bind]
      rw [ih (fun y hy => h y (List.mem_cons_of_mem _ hy))]
theorem closL_mem {cs : List (Str × Addr)} : ∀ {names : List (Str × NameKind)} {acc : List (Str × Addr)} {p : Str × Addr}, p ∈ closL cs names acc → p ∈ acc ∨ ((p.1, NameKind.free) ∈ names ∧ p.2 = (cs.lookup p.1).getD 0)
  | [], _, _, h => .inl h
  | (n, k) :: r, acc, p, h => by
    unfold closL at h
    by_cases e : (k == NameKind.free) = true
    · rw [if_pos e] at h
      rcases closL_mem h with h | ⟨h1, h2⟩
      · rcases List.mem_cons.mp h with h | h
        · subst h
          exact .inr ⟨by rw [eq_of_beq e]; simp, rfl⟩
        · exact .inl h
      · exact .inr ⟨List.mem_cons_of_mem _ h1, h2⟩
    · rw [if_neg e] at h
      rcases closL_mem h with h | ⟨h1, h2⟩
      · exact .inl h
      · exact .inr ⟨List.mem_cons_of_mem _ h1, h2⟩
theorem closL_acc {cs : List (Str × Addr)} : ∀ {names : List (Str × NameKind)} {acc : List (Str × Addr)} {p : Str × Addr}, p ∈ acc → p ∈ closL cs names acc
  | [], _, _, h => h
  | (n, k) :: r, acc, p, h => by
    unfold closL
    split
    · exact closL_acc (List.mem_cons_of_mem _ h)
    · exact closL_acc h
theorem closL_has {cs : List (Str × Addr)} : ∀ {names : List (Str × NameKind)} {acc : List (Str × Addr)} {n : Str}, (n, NameKind.free) ∈ names → n ∈ (closL cs names acc).map (·.1)
  | [], _, _, h => by cases h
  | (m, k) :: r, acc, n, h => by
    unfold closL
    rcases List.mem_cons.mp h with e | h
    · cases e
      rw [if_pos (show (NameKind.free == NameKind.free) = true from rfl)]
      exact List.mem_map.mpr ⟨_, closL_acc (List.mem_cons_self), rfl⟩
    · split <;> exact closL_has h
def relN (sc : List (Str × NameKind)) (names : List (Str × NameKind)) : List (Str × NameKind) := names.map fun (n, k) => if (k == .free && sc.lookup n == some .cell) then (n, .cell) else (n, k)
def locN (names : List (Str × NameKind)) : List Str := (names.filter fun y => (y.2 == .local) && !(y.1 == (".0" : Str))).map (·.1)
def freN (names : List (Str × NameKind)) : List Str := (names.filter fun y => y.2 == .free).map (·.1)
def cfV (o : Option NameKind) : Bool := o == some .cell || o == some .free
def compG (G : Sg) (names : List (Str × NameKind)) : Sg := { G with N := locN names ++ freN names, sc := relN G.sc names, top := false }
def compSrc (G : Sg) (names : List (Str × NameKind)) : List (Option Nat) := (locN names).map (fun _ => none) ++ (freN names).map (fun x => slotF G.N x 0)
def compOk (G : Sg) (sc : Scope) : Bool :=
  (sc.names.all fun y => !(y.2 == .cell)) && (sc.names.all fun y => !(y.2 == .local) || (sc.names.lookup y.1 == some .local)) && (sc.kind == .function) &&
  decide (locN sc.names ++ freN sc.names).Nodup && ((freN sc.names).all fun x => (slotF G.N x 0).isSome && cfV (G.sc.lookup x) && cfV ((relN G.sc sc.names).lookup x)) &&
  ((locN sc.names).all fun x => (relN G.sc sc.names).lookup x == some .local)
section
variable {X : Cx} {G : Sg} {sc : Scope}
theorem cfV_iff {o : Option NameKind} (h : cfV o = true) : o = some .cell ∨ o = some .free := by
  unfold cfV at h
  rw [Bool.or_eq_true] at h
  exact h.elim (fun e => .inl (eq_of_beq e)) fun e => .inr (eq_of_beq e)
theorem relabel_eq (O : GOk X G) : (relabel sc X.env).names = relN G.sc sc.names := by
  unfold relabel relN
  apply List.map_congr_left
  rintro ⟨n, k⟩ _
  have e : X.env.kindOf n = G.sc.lookup n := O.sc n
  dsimp only
  rw [e, O.kind]
  simp
theorem comp_sc (O : GOk X G) (h : compOk G sc = true) : CompSc X (compG G sc.names).N (compSrc G sc.names) sc (closL X.env.cells sc.names []) := by
  unfold compOk at h
  simp only [Bool.and_eq_true, List.all_eq_true, Bool.not_eq_true', decide_eq_true_eq, Bool.or_eq_true] at h
  obtain ⟨⟨⟨⟨⟨h1, h2⟩, h3⟩, h4⟩, h5⟩, h6⟩ := h
  have fr : ∀ y ∈ sc.names, y.2 = .free → ∃ c, X.env.cells.lookup y.1 = some c := fun y hy hf => by
    refine O.cel y.1 ?_
    rw [O.sc]
    refine cfV_iff (h5 y.1 ?_).1.2
    exact List.mem_map.mpr ⟨y, List.mem_filter.mpr ⟨hy, by rw [hf]; rfl⟩, rfl⟩
  have nc : ∀ y ∈ sc.names, y.2 ≠ .cell := fun y hy e => by
    have := h1 y hy
    rw [e] at this
    cases this
  refine ⟨closureFor_eq fr, nc, eq_of_beq h3, fun y hy hl => ?_, fun x c hx => ?_, fun x hx => ?_, ?_, fun k j x e1 e2 => ?_⟩
  · rcases h2 y hy with z | z
    · rw [hl] at z; cases z
    · exact eq_of_beq z
  · have hm := PySem.mem_of_lookup hx
    rcases closL_mem hm with z | ⟨z1, z2⟩
    · cases z
    · obtain ⟨c', hc'⟩ := fr _ z1 rfl
      have z2' : c = (X.env.cells.lookup x).getD 0 := z2
      rw [show X.env.cells.lookup x = some c' from hc'] at z2' ⊢
      rw [z2']
      rfl
  · have hn : (relabel sc X.env).names = relN G.sc sc.names := relabel_eq O
    have key : ∀ kd, (relabel sc X.env).names.lookup x = some kd → cfV (some kd) = true → ∃ c, (closL X.env.cells sc.names []).lookup x = some c := fun kd hkd hc => by
      rw [hn] at hkd
      have hm := PySem.mem_of_lookup hkd
      unfold relN at hm
      obtain ⟨⟨n, k⟩, hy, e⟩ := List.mem_map.mp hm
      dsimp only at e
      have hfree : k = .free ∧ n = x := by
        have hkc := nc _ hy
        by_cases e1 : (k == NameKind.free && G.sc.lookup n == some .cell) = true
        · rw [if_pos e1] at e
          rw [Bool.and_eq_true] at e1
          exact ⟨eq_of_beq e1.1, congrArg Prod.fst e⟩
        · rw [if_neg e1] at e
          cases e
          rcases cfV_iff hc with z | z
          · exact absurd (Option.some.inj z) hkc
          · exact ⟨Option.some.inj z, rfl⟩
      obtain ⟨rfl, rfl⟩ := hfree
      exact mem_look (closL_has hy)
    rcases hx with hx | hx
    · exact key _ hx rfl
    · exact key _ hx rfl
  · unfold compSrc compG
    simp
  · have e1' : (locN sc.names ++ freN sc.names)[k]? = some x := e1
    have e2' : ((locN sc.names).map (fun _ => (none : Option Nat)) ++ (freN sc.names).map (fun x => slotF G.N x 0))[k]? = some (some j) := e2
    by_cases hlt : k < (locN sc.names).length
    · rw [List.getElem?_append_left (by simpa using hlt), List.getElem?_map] at e2'
      cases q : (locN sc.names)[k]? with
      | none => rw [q] at e2'; cases e2'
      | some z => rw [q] at e2'; cases e2'
    · rw [List.getElem?_append_right (by simpa using hlt)] at e1' 
      rw [List.getElem?_append_right (by simpa using hlt), List.length_map, List.getElem?_map, e1'] at e2'
      have hs : slotF G.N x 0 = some j := Option.some.inj e2'
      have hx : x ∈ freN sc.names := List.mem_of_getElem? e1'
      obtain ⟨⟨_, c1⟩, c2⟩ := h5 x hx
      refine ⟨by rw [O.N]; exact slot_get hs, ?_, ?_⟩
      · rw [O.sc]; exact cfV_iff c1
      · rw [relabel_eq O]; exact cfV_iff c2
theorem comp_ok (O : GOk X G) (h : compOk G sc = true) (fp : List Addr) (C : Addr) (s : Shared) (H : Hp) :
    GOk (X.comp (compG G sc.names).N sc (closL X.env.cells sc.names []) fp C s H) (compG G sc.names) := by
  have S := comp_sc O h
  unfold compOk at h
  simp only [Bool.and_eq_true, List.all_eq_true, Bool.not_eq_true', decide_eq_true_eq, Bool.or_eq_true] at h
  obtain ⟨⟨⟨⟨⟨h1, h2⟩, h3⟩, h4⟩, h5⟩, h6⟩ := h
  have hn : (relabel sc X.env).names = relN G.sc sc.names := relabel_eq O
  refine ⟨O.K, eq_of_beq h3, PassesOwn.never, rfl, h4, fun x => ?_, fun x hx => ?_, fun z => (by cases z), O.calm, O.hd, O.units, fun x hx => S.has x hx, fun x i e => ?_, O.val, O.bl, fun x C oi e => ?_, fun x C oi e => ?_, fun m l e mi hm => ?_⟩
  · show (relabel sc X.env).names.lookup x = _
    rw [hn]
    rfl
  · show Vis (relabel sc X.env) x
    unfold Vis
    rw [hn]
    rcases List.mem_append.mp hx with q | q
    · exact .inl (eq_of_beq (h6 x q))
    · exact .inr (cfV_iff (h5 x q).2)
  · obtain ⟨m, F⟩ := O.fn x i e
    obtain ⟨CX, p, f⟩ := F.ok
    exact ⟨m, ⟨F.kp, ⟨CX, p, f⟩, F.room, F.binds, F.vals⟩⟩
  · obtain ⟨m, k, c, i0⟩ := O.exc x C oi e
    refine ⟨m, k, c, ?_⟩
    cases oi with
    | none => exact i0
    | some i => obtain ⟨a1, a2, F, r⟩ := i0; obtain ⟨CX, p, f⟩ := F.ok; exact ⟨a1, a2, ⟨F.kp, ⟨CX, p, f⟩, F.room, F.binds, F.vals⟩, r⟩
  · obtain ⟨m, k, i0⟩ := O.cls x C oi e
    refine ⟨m, k, ?_⟩
    cases oi with
    | none => exact i0
    | some i =>
      obtain ⟨a, b, c, F, r⟩ := i0
      obtain ⟨CX, p, f⟩ := F.ok
      exact ⟨a, b, c, ⟨F.kp, ⟨CX, p, f⟩, F.room, F.binds, F.vals⟩, r⟩
  · obtain ⟨a, b, F⟩ := O.met m l e mi hm
    obtain ⟨CX, p, f⟩ := F.ok
    exact ⟨a, b, ⟨F.kp, ⟨CX, p, f⟩, F.room, F.binds, F.vals⟩⟩
end
end L2

set_option maxRecDepth 100000
set_option maxHeartbeats 4000000
namespace L2
open PySem PySem.Spec PyProof.Rows

def dPartN : St → Hp → (Option Int → Hp → Prop) → EK → Prop := fun _ H Q _ => Q none H
def dPart (a : DE) : St → Hp → (Option Int → Hp → Prop) → EK → Prop := fun σ H Q E => a σ H (fun x H1 => match x with
  | .int i => Q (some i) H1
  | _ => False) E
abbrev DO := St → Hp → (Option Int → Hp → Prop) → EK → Prop
def rSlD (K : PySem.W.Frag) : V → Option Int → Option Int → Hp → VK → Prop := fun x lo hi H Q => match x with
  | .str z => z.length ≤ sizeLine ∧ Q (.str (Txt.slice z lo hi)) H
  | .ref a => (∃ xs, SqL K H a xs ∧ ∀ p, H p = none → Q (.ref p) (upd H p (.lst (cutV xs lo hi)))) ∨
      (∃ xs, SqT K H a xs ∧ ¬ (HT.sIx xs.length 0 lo = 0 ∧ HT.sIx xs.length xs.length hi = xs.length) ∧ ∀ p, H p = none → Q (.ref p) (upd H p (.tup (cutV xs lo hi))))
  | _ => False
def dSl (K : PySem.W.Frag) (a : DE) (l h : DO) : DE := fun σ H Q E => a σ H (fun x H1 => l σ H1 (fun lo H2 => h σ H2 (fun hi H3 => rSlD K x lo hi H3 Q) E) E) E
def QO (X : Cx) (e : Option Expr) (t : DO) : Prop := ∀ Ex, Meets X Ex → PO X e (fun σ H Q => t σ H Q (Ex σ))

section
variable {X : Cx} {G : Sg} {e : Expr} {de : DE} {lo hi : Option Expr} {dl dh : DO} {pos p2 : Pos}
theorem qo_none : QO X none dPartN := fun _ _ => po_none
theorem qo_some (h : QE X e de) : QO X (some e) (dPart de) := by
  intro Ex m pins s σ H Q I hw
  rw [evalPart_some]
  refine thn (h Ex m pins s σ H _ I hw) fun u s1 ⟨x, H1, I1, r1, q1⟩ => ?_
  cases x with
  | int i => obtain ⟨t, rfl⟩ := r1; exact ⟨some i, H1, I1, .int i t, q1⟩
  | _ => exact (show False from q1).elim
theorem noTemp (e : Expr) (z : Str) (t : Tok) (r : Value) : letTemporaryGo e (.str z t) r = pure () := by
  cases e <;> rfl
theorem qe_slice (he : QE X e de) (hl : QO X lo dl) (hh : QO X hi dh) : QE X (.Subscript e (.Slice lo hi none p2) pos) (dSl X.K de dl dh) := by
  intro Ex m pins s σ H Q I h
  refine Subscript_ (thn (he Ex m pins s σ H _ I h) fun v s1 ⟨x, H1, I1, r1, q1⟩ => ?_)
  refine wpAny_Slice (thn (hl Ex m pins s1 σ H1 _ I1 q1) fun vl s2 ⟨l, H2, I2, pl, q2⟩ => thn (hh Ex m pins s2 σ H2 _ I2 q2) fun vu s3 ⟨u, H3, I3, pu, q3⟩ => ?_)
  rw [evalPart_none]
  refine wpAny_pure ?_
  show wpAny (model X.prog X.w) X.A (subscriptTail e (.Slice lo hi none p2) v (.ref s3.heap.objs.size)) (EP X pins σ Q) X.xe { s3 with heap := s3.heap.push { cls := .type "slice", data := .fields #[vl, vu, .none] } }
  have I4 : Inv X pins σ H3 { s3 with heap := s3.heap.push { cls := .type "slice", data := .fields #[vl, vu, .none] } } := I3.kept (t' := s3.toks) fun b ob q => Heap.get?_push_of_some _ q
  have gen : ∀ r, SlR X r → r x l u H3 Q → wpAny (model X.prog X.w) X.A (subscriptTail e (.Slice lo hi none p2) v (.ref s3.heap.objs.size)) (EP X pins σ Q) X.xe { s3 with heap := s3.heap.push { cls := .type "slice", data := .fields #[vl, vu, .none] } } := fun r hr q => by
    obtain ⟨T, id, hT, ht, hg⟩ := hr pins _ σ H3 x v vl vu l u s3.heap.objs.size Q I4 r1 (Heap.IsSliceOf.new ..) pl pu q
    exact tail_any (ops := [.ref s3.heap.objs.size, v]) ht hT hg (by with_unfolding_all rfl)
  cases x with
  | str z =>
    obtain ⟨hz, q⟩ := q3
    obtain ⟨t, rfl⟩ := r1
    have hk : KeptH (fun h => Inv X pins σ H3 { s3 with heap := h }) := fun h ob J => J.kept (t' := s3.toks) fun b o eb => Heap.get?_push_of_some _ eb
    have fin : ∀ h' t' k, Inv X pins σ H3 { s3 with heap := h' } → EP X pins σ Q (.str (Txt.slice z l u) t') { s3 with heap := h', toks := k } := fun h' t' k J => ⟨.str _, H3, J.tok k, ⟨_, rfl⟩, q⟩
    cases pl with
    | none =>
      cases pu with
      | none => exact tail_of_ItemOn (SBH.sliceItem_nn hk I3 fin hz) (by with_unfolding_all rfl) (noTemp e z t)
      | int j uj => exact tail_of_ItemOn (SBH.sliceItem_ns hk I3 fin hz) (by with_unfolding_all rfl) (noTemp e z t)
    | int i ui =>
      cases pu with
      | none => exact tail_of_ItemOn (SBH.sliceItem_sn hk I3 fin hz) (by with_unfolding_all rfl) (noTemp e z t)
      | int j uj => exact tail_of_ItemOn (SBH.sliceItem_ss hk I3 fin hz) (by with_unfolding_all rfl) (noTemp e z t)
  | ref a =>
    rcases q3 with ⟨xs, h1, h2⟩ | ⟨xs, h1, h2, h3⟩
    · exact gen _ sl_list ⟨a, xs, rfl, h1, h2⟩
    · exact gen _ sl_tup ⟨a, xs, rfl, h1, h2, h3⟩
  | _ => exact (show False from q3).elim
def noSet : Expr → Bool
  | .Set _ _ _ => false
  | _ => true
theorem noSet_ok {e : Expr} (h : noSet e = true) (env : Env) (x : Value) : foldedSetIterable e env x = pure x := by
  cases e with
  | Set _ _ _ => cases h
  | _ => rfl
def QIfs (X : Cx) (ifs : List Expr) (t : DT) : Prop := PIfs X ifs (fun σ H Q => t σ H Q (fun _ _ => False))
theorem qifs_nil : QIfs X [] dYes := pifs_nil
theorem meets_no : Meets X (fun _ _ _ => False) := fun _ _ _ _ _ _ _ h => h.elim
theorem qifs_one {c : Expr} {t : DT} (h : QT X c t) : QIfs X [c] t := pifs_one (h _ meets_no)
variable {tg iter elt : Expr} {ifs : List Expr} {sc : Scope} {wi : DI} {g : DG} {tc : DT}
theorem qe_comp (O : GOk X G) (hc : X.calm = true) (hk : compOk G sc = true) (hs : noSet iter = true) (hi : QI X tg iter wi) (hg : ∀ X', GOk X' (compG G sc.names) → PG X' tg g) (ht : ∀ X', GOk X' (compG G sc.names) → QIfs X' ifs tc) (he : ∀ X', GOk X' (compG G sc.names) → QE X' elt de) :
    QE X (.ListComp elt [⟨tg, iter, ifs, 0⟩] sc pos) (dComp (compSrc G sc.names) wi g tc de) := by
  intro Ex m
  exact pe_comp hc (comp_sc O hk) (hi Ex m) (fun fp C s H => hg _ (comp_ok O hk fp C s H)) (fun fp C s H => ht _ (comp_ok O hk fp C s H)) (fun fp C s H => he _ (comp_ok O hk fp C s H) _ meets_no) (fun x => noSet_ok hs X.env x)

def okSt (G : Sg) (x : Str) : Bool := (G.sc.lookup x == some .local) || (G.top && (G.sc.lookup x == some .cell))
def wG : Nat → Sg → Expr → DG
  | 0, _, _ => gNo
  | n + 1, G, e => match e with
    | .Name x _ => match slotF G.N x 0 with
      | some i => if okSt G x = true then gdN i else gNo
      | none => gNo
    | .Tuple ts _ _ => if G.calm = true ∧ ts.all noStar = true then gdT G.K ts.length (ts.map (wG n G)) else gNo
    | _ => gNo
theorem okSt_ok (O : GOk X G) {x : Str} (h : okSt G x = true) : Loc X.env.scope x ∧ (X.fn x = true ∨ X.env.scope.names.lookup x = some .local) := by
  unfold okSt at h
  rw [Bool.or_eq_true, Bool.and_eq_true] at h
  rcases h with h | ⟨h1, h2⟩
  · have : X.env.scope.names.lookup x = some .local := by rw [O.sc]; exact eq_of_beq h
    exact ⟨.inl this, .inr this⟩
  · have : X.env.scope.names.lookup x = some .cell := by rw [O.sc]; exact eq_of_beq h2
    exact ⟨.inr this, .inl (O.top h1 x)⟩
theorem assignEach_cons {e : Expr} (h : noStar e = true) (es : List Expr) (env : Env) : assignEach (e :: es) env = (false, assign e env) :: assignEach es env := by
  cases e with
  | Starred _ _ => cases h
  | _ => rfl
theorem assignEach_len {es : List Expr} (h : es.all noStar = true) (env : Env) : (assignEach es env).length = es.length ∧ (assignEach es env).findIdx? (·.1) = none := by
  induction es with
  | nil => exact ⟨rfl, rfl⟩
  | cons e es ih =>
    rw [List.all_cons, Bool.and_eq_true] at h
    obtain ⟨h1, h2⟩ := ih h.2
    rw [assignEach_cons h.1]
    refine ⟨by rw [List.length_cons, List.length_cons, h1], ?_⟩
    rw [List.findIdx?_cons, h2]
    rfl
theorem wG_ok : ∀ (n : Nat) (X : Cx) (G : Sg), GOk X G → ∀ e, PG X e (wG n G e)
  | 0, _, _, _, _ => pg_no
  | n + 1, X, G, O, e => by
    cases e with
    | Name x p =>
      unfold wG
      dsimp only
      split
      · rename_i i e
        split
        · rename_i h
          obtain ⟨h1, h2⟩ := okSt_ok O h
          exact pg_name (by rw [O.N]; exact O.nd) (by rw [O.N]; exact slot_get e) h1 h2
        · exact pg_no
      · exact pg_no
    | Tuple ts k p =>
      unfold wG
      dsimp only
      split
      · rename_i h
        obtain ⟨h1, h2⟩ := h
        obtain ⟨h3, h4⟩ := assignEach_len h2 X.env
        rw [← O.K]
        refine pg_T (O.calm ▸ h1) ?_ h3 h4
        clear h3 h4
        induction ts with
        | nil => exact pgs_N
        | cons t ts ih =>
          rw [List.all_cons, Bool.and_eq_true] at h2
          refine pgs_C (wG_ok n X G O t) (ih h2.2) ?_
          rw [assignEach_cons h2.1]
          rfl
      · exact pg_no
    | _ => exact pg_no
end
end L2

set_option maxRecDepth 100000
set_option maxHeartbeats 4000000
namespace L2
open PySem PySem.Spec PyProof.Rows

def boolV (K : PySem.W.Frag) (op : BoolOp) : List DE → DE
  | [] => dNo
  | [a] => a
  | a :: r => match op with
    | .And => dAndV K a (boolV K op r)
    | .Or => dOrV K a (boolV K op r)
def boolT (op : BoolOp) : List DT → DT
  | [] => fun _ _ _ _ => False
  | [a] => a
  | a :: r => match op with
    | .And => dAnd a (boolT op r)
    | .Or => dOr a (boolT op r)
def argsD : List DE → DA
  | [] => dNil
  | a :: r => dCons a (argsD r)
def tNo : DT := fun _ _ _ _ => False
def wCmp (G : Sg) (ops : List CmpOp) (bs : List Expr) (a : DE) (ds : List DE) : DE := match ops, bs, ds with
  | [op], [b], [d] => if behindInMarks op b = false then dBin (rCmp G.K op) a d else dNo
  | [op, op'], [b, c], [d, d'] => if lastMarks [op, op'] [b, c] = false then dChain (rCmp G.K op) (rCmp G.K op') a d d' else dNo
  | _, _, _ => dNo
/-- f(..): the def's promise with the defaults that fill up, or a built-in -/
def wCall (G : Sg) (x : Str) (es : List Expr) (ds : List DE) : DE :=
  if isGl G x = true ∧ (slotF G.N x 0) = none ∧ es.all noStar = true then (match G.gb.lookup x with
    | some (.fn i) => if es.length ≤ i.ps.length ∧ i.ps.length ≤ es.length + i.dfs.length then dFn (spE i.sp (i.dfs.drop (es.length + i.dfs.length - i.ps.length))) (argsD ds) else dNo
    | some (.exc C oi) => (match oi with
      | none => if es.isEmpty = true then dFn (mkX C none 0) (argsD ds) else dFn (fun vs H Q E => vs.length ≤ 1000 ∧ mkX C none 0 vs H Q E) (argsD ds)
      | some i => if es.length + 1 ≤ i.ps.length ∧ i.ps.length ≤ es.length + 1 + i.dfs.length then (if es.isEmpty = true then dFn (mkX C (some i) (es.length + 1 + i.dfs.length - i.ps.length)) (argsD ds)
        else dFn (fun vs H Q E => vs.length ≤ 1000 ∧ mkX C (some i) (es.length + 1 + i.dfs.length - i.ps.length) vs H Q E) (argsD ds)) else dNo)
    | some (.cls C oi) => (match oi with
      | none => if es.isEmpty = true then dFn (mkC C none 0) (argsD ds) else dNo
      | some i => if es.length + 1 ≤ i.ps.length ∧ i.ps.length ≤ es.length + 1 + i.dfs.length then dFn (mkC C (some i) (es.length + 1 + i.dfs.length - i.ps.length)) (argsD ds) else dNo)
    | some _ => dNo
    | none => if G.bl.contains x = true then (match bltR G.K G.calm x with
      | some (_, r) => if es.isEmpty = true then dNo else dFn (fun vs H Q _ => r vs H Q) (argsD ds)
      | none => dNo) else dNo) else dNo
def wMeth (G : Sg) (o : Expr) (m : Str) (es : List Expr) (ap cp : Pos) (d : DE) (ds : List DE) : DE :=
  if noSuper o = true ∧ es.all noStar = true ∧ es.length < 30 ∧ (ap.endLine == cp.line) = true then (match findMet G.gb m with
    | none => dMt (rMt G.K (mtR G.K m)) d (argsD ds)
    | some l => dOwn m es.length l d (argsD ds)) else dNo
mutual
def wE : Nat → Sg → Expr → DE
  | 0, _, _ => dNo
  | n + 1, G, e => match e with
    | .Constant c _ _ => wConst c
    | .Name x _ => wName G x
    | .BinOp a op b _ => dBin (rOp G.K op) (wE n G a) (wE n G b)
    | .UnaryOp .USub a _ => dUn rNegD (wE n G a)
    | .UnaryOp .Not a _ => dNotV G.K (wE n G a)
    | .BoolOp op es _ => boolV G.K op (es.map (wE n G))
    | .Compare a ops bs _ => wCmp G ops bs (wE n G a) (bs.map (wE n G))
    | .IfExp t a b _ => dIfE (wT n G t) (wE n G a) (wE n G b)
    | .List es _ => if es.all noStar = true then dLst (argsD (es.map (wE n G))) else dNo
    | .Tuple es _ _ => if es.all noStar = true then dTup (argsD (es.map (wE n G))) else dNo
    | .Subscript a (.Slice lo hi none _) _ => dSl G.K (wE n G a) (match lo with | none => dPartN | some l => dPart (wE n G l)) (match hi with | none => dPartN | some h => dPart (wE n G h))
    | .Subscript a b _ => if noSlice b = true then dBin (rIxD G.K) (wE n G a) (wE n G b) else dNo
    | .Attribute o f _ => if noSuper o = true then dUn (rGetD G.K f) (wE n G o) else dNo
    | .JoinedStr es _ => wJoin (wE n G) es
    | .FormattedValue a (-1) none _ => dUn rFmt (wE n G a)
    | .Call (.Name x _) es [] _ => wCall G x es (es.map (wE n G))
    | .Call (.Attribute o m ap) es [] cp => wMeth G o m es ap cp (wE n G o) (es.map (wE n G))
    | .ListComp elt [⟨tg, iter, ifs, 0⟩] sc _ => if G.calm = true ∧ compOk G sc = true ∧ noSet iter = true then
        dComp (compSrc G sc.names) (wI n G tg iter) (wG n (compG G sc.names) tg) (match ifs with | [] => dYes | [c] => wT n (compG G sc.names) c | _ => tNo) (wE n (compG G sc.names) elt) else dNo
    | _ => dNo
def wT : Nat → Sg → Expr → DT
  | 0, _, _ => tNo
  | n + 1, G, e => match e with
    | .UnaryOp .Not a _ => dNot (wT n G a)
    | .BoolOp op es _ => boolT op (es.map (wT n G))
    | .Compare a ops bs _ => dTst (wCmp G ops bs (wE n G a) (bs.map (wE n G)))
    | .IfExp _ _ _ _ => tNo
    | e => dTru G.K (wE n G e)
def wI : Nat → Sg → Expr → Expr → DI
  | 0, _, _, _ => iNo
  | n + 1, G, tg, e => match e with
    | .Call (.Name x _) (a :: es) [] _ =>
      if x = "range" ∧ isGl G x = true ∧ G.gb.lookup x = none ∧ G.bl.contains x = true ∧ (a :: es).all noStar = true then iRng (argsD ((a :: es).map (wE n G)))
      else if x = "zip" ∧ isGl G x = true ∧ G.gb.lookup x = none ∧ G.bl.contains x = true ∧ (a :: es).all noStar = true then (match tg with
        | .Tuple _ _ _ => iZp G.K (argsD ((a :: es).map (wE n G)))
        | _ => iNo)
      else if x = "enumerate" ∧ isGl G x = true ∧ G.gb.lookup x = none ∧ G.bl.contains x = true ∧ (a :: es).all noStar = true then (match tg with
        | .Tuple _ _ _ => iEn G.K (argsD ((a :: es).map (wE n G)))
        | _ => iNo)
      else iVal G.K (wE n G e)
    | e => iVal G.K (wE n G e)
end
theorem qt_no {X : Cx} {e : Expr} : QT X e tNo := fun _ _ _ _ _ _ _ _ h => h.elim
theorem qa_args {X : Cx} {w : Expr → DE} (h : ∀ e, QE X e (w e)) : ∀ {es : List Expr}, es.all noStar = true → QA X es (argsD (es.map w))
  | [], _ => qa_nil
  | e :: es, hs => by
    rw [List.all_cons, Bool.and_eq_true] at hs
    exact qa_cons (h e) (qa_args h hs.2) hs.1
theorem qe_bool {X : Cx} {w : Expr → DE} {op : BoolOp} {pos : Pos} (h : ∀ e, QE X e (w e)) : ∀ {es : List Expr}, QE X (.BoolOp op es pos) (boolV X.K op (es.map w))
  | [] => qe_no
  | [e] => qe_one (h e)
  | e :: e' :: es => by
    cases op with
    | And => exact qe_and (h e) (qe_bool h)
    | Or => exact qe_or (h e) (qe_bool h)
theorem qw_bool {X : Cx} {w : Expr → DT} {op : BoolOp} {pos : Pos} (h : ∀ e, QT X e (w e)) : ∀ {es : List Expr}, QW X (.BoolOp op es pos) (boolT op (es.map w))
  | [] => fun _ _ _ _ _ _ _ _ _ h => h.elim
  | [e] => by
    cases op with
    | And => exact qw_and1 (h e)
    | Or => exact qw_or1 (h e)
  | e :: e' :: es => by
    cases op with
    | And => exact qw_and (h e) (qw_bool h)
    | Or => exact qw_or (h e) (qw_bool h)
section
variable {X : Cx} {G : Sg}
theorem qe_cmpW (O : GOk X G) {w : Expr → DE} (h : ∀ e, QE X e (w e)) (a : Expr) (ops : List CmpOp) (bs : List Expr) (pos : Pos) : QE X (.Compare a ops bs pos) (wCmp G ops bs (w a) (bs.map w)) := by
  unfold wCmp
  rw [← O.K]
  split
  · rename_i op b d e
    have : d = w b := by simpa using e.symm
    subst this
    split
    · exact qe_cmp O.units op (h a) (h b) ‹_›
    · exact qe_no
  · rename_i op op' b c d d' e
    have : w b = d ∧ w c = d' := by simpa using e
    obtain ⟨rfl, rfl⟩ := this
    split
    · exact qe_chain O.units op op' (h a) (h b) (h c) ‹_›
    · exact qe_no
  · exact qe_no
theorem qt_cmpW (O : GOk X G) {w : Expr → DE} (h : ∀ e, QE X e (w e)) (a : Expr) (ops : List CmpOp) (bs : List Expr) (pos : Pos) : QT X (.Compare a ops bs pos) (dTst (wCmp G ops bs (w a) (bs.map w))) := by
  unfold wCmp
  rw [← O.K]
  split
  · rename_i op b d e
    have : d = w b := by simpa using e.symm
    subst this
    split
    · exact qt_cmp O.units op (h a) (h b) ‹_›
    · exact fun _ _ _ _ _ _ _ _ h => h.elim
  · rename_i op op' b c d d' e
    have : w b = d ∧ w c = d' := by simpa using e
    obtain ⟨rfl, rfl⟩ := this
    split
    · exact qt_chain O.units op op' (h a) (h b) (h c) ‹_›
    · exact fun _ _ _ _ _ _ _ _ h => h.elim
  · exact fun _ _ _ _ _ _ _ _ h => h.elim
theorem qe_callW (O : GOk X G) {w : Expr → DE} (h : ∀ e, QE X e (w e)) (x : Str) (es : List Expr) (p pos : Pos) : QE X (.Call (.Name x p) es [] pos) (wCall G x es (es.map w)) := by
  unfold wCall
  split
  · rename_i hh
    obtain ⟨hg, _, hs⟩ := hh
    have dd := isGl_d hg
    split
    · rename_i i e
      obtain ⟨hm, F⟩ := O.fn x i e
      split
      · rename_i hl
        cases es with
        | nil => exact qe_call0 F (by have := hl.1; omega) (O.gl hg) hm dd.1
        | cons e es => exact qe_call F (by have := hl.1; omega) (O.gl hg) hm (qa_args h hs) hs dd.1
      · exact qe_no
    · rename_i C oi e
      obtain ⟨hm, kp, c, hi⟩ := O.exc x C oi e
      split
      · cases es with
        | nil => exact qe_mkX0 (j := 0) c hi (fun i z => nomatch z) kp (O.gl hg) hm dd.1
        | cons e es => exact qe_mkX (j := 0) c hi (fun i z => nomatch z) kp (O.gl hg) hm (qa_args h hs) hs dd.1
      · rename_i i
        split
        · rename_i hl
          cases es with
          | nil => exact qe_mkX0 c hi (fun i z => by cases z; have := hl.1; omega) kp (O.gl hg) hm dd.1
          | cons e es => exact qe_mkX c hi (fun i z => by cases z; have := hl.1; omega) kp (O.gl hg) hm (qa_args h hs) hs dd.1
        · exact qe_no
    · rename_i C oi e
      obtain ⟨hm, kp, hi⟩ := O.cls x C oi e
      split
      · cases es with
        | nil => exact qe_mkC0 (j := 0) hi (fun i z => nomatch z) kp (O.gl hg) hm dd.1
        | cons e es => exact qe_no
      · rename_i i
        split
        · rename_i hl
          cases es with
          | nil => exact qe_mkC0 hi (fun i z => by cases z; have := hl.1; omega) kp (O.gl hg) hm dd.1
          | cons e es => exact qe_mkC hi (fun i z => by cases z; have := hl.1; omega) kp (O.gl hg) hm (qa_args h hs) hs dd.1
        · exact qe_no
    · exact qe_no
    · rename_i e
      split
      · rename_i hb
        split
        · rename_i f r er
          split
          · exact qe_no
          · rename_i hne
            cases es with
            | nil => exact absurd rfl hne
            | cons e es =>
              rw [← O.K] at er
              obtain ⟨b1, b2⟩ := bltR_ok er O.calm
              exact qe_blt b2 (O.gl hg) (O.bl x hb) b1 (qa_args h hs) hs dd.2.2 dd.1
        · exact qe_no
      · exact qe_no
  · exact qe_no
theorem qe_methW (O : GOk X G) {w : Expr → DE} (h : ∀ e, QE X e (w e)) (o : Expr) (m : Str) (es : List Expr) (ap cp : Pos) : QE X (.Call (.Attribute o m ap) es [] cp) (wMeth G o m es ap cp (w o) (es.map w)) := by
  unfold wMeth
  rw [← O.K]
  split
  · rename_i hh
    obtain ⟨h1, h2, h3, h4⟩ := hh
    split
    · cases es with
      | nil => exact qe_mt0 (fun b hb => mtR_ok O.units hb) (h o) h1 h4
      | cons e es => exact qe_mt (fun b hb => mtR_ok O.units hb) (h o) (qa_args h h2) h1 h2 h3 h4
    · rename_i l e
      cases es with
      | nil => exact qe_own0 (O.met m l e) (h o) h1 h4
      | cons e es => exact qe_own (O.met m l ‹_›) (h o) (qa_args h h2) h1 h2 h3 h4
  · exact qe_no
end
theorem w_ok : ∀ (n : Nat) (X : Cx) (G : Sg), GOk X G → (∀ e, QE X e (wE n G e)) ∧ (∀ e, QT X e (wT n G e)) ∧ (∀ tg e, QI X tg e (wI n G tg e)) := by
  intro n
  induction n with
  | zero =>
    intro X G O
    refine ⟨fun e => ?_, fun e => ?_, fun tg e => ?_⟩
    · unfold wE; exact qe_no
    · unfold wT; exact qt_no
    · unfold wI; exact qi_no
  | succ n ih =>
    intro X G O
    obtain ⟨hE, hT, hI⟩ := ih X G O
    have hv : ∀ tg e, QI X tg e (iVal G.K (wE n G e)) := fun tg e => by rw [← O.K]; exact qi_val (hE e)
    refine ⟨fun e => ?_, fun e => ?_, fun tg e => ?_⟩
    · unfold wE
      split
      · exact qe_const _ _ _
      · exact qe_name O _ _
      · rw [← O.K]; exact qe_bin _ (hE _) (hE _)
      · exact qe_neg (hE _)
      · rw [← O.K]; exact qe_not (hE _)
      · rw [← O.K]; exact qe_bool hE
      · exact qe_cmpW O hE _ _ _ _
      · exact qe_if (hT _) (hE _) (hE _)
      · split
        · exact qe_lst (qa_args hE ‹_›)
        · exact qe_no
      · split
        · exact qe_tup (qa_args hE ‹_›)
        · exact qe_no
      · rw [← O.K]
        refine qe_slice (hE _) ?_ ?_
        · split
          · exact qo_none
          · exact qo_some (hE _)
        · split
          · exact qo_none
          · exact qo_some (hE _)
      · split
        · rw [← O.K]; exact qe_ix (hE _) (hE _) ‹_›
        · exact qe_no
      · split
        · rw [← O.K]; exact qe_attr (hE _) (noSuper_ok ‹_› _ X.env _)
        · exact qe_no
      · exact qe_join hE _
      · exact qe_fmt (hE _)
      · exact qe_callW O hE _ _ _ _
      · exact qe_methW O hE _ _ _ _ _
      · split
        · rename_i hh
          obtain ⟨h1, h2, h3⟩ := hh
          refine qe_comp O (O.calm ▸ h1) h2 h3 (hI _ _) (fun X' O' => wG_ok n X' _ O' _) (fun X' O' => ?_) (fun X' O' => (ih X' _ O').1 _)
          split
          · exact qifs_nil
          · exact qifs_one ((ih X' _ O').2.1 _)
          · exact fun _ _ _ _ _ _ h => h.elim
        · exact qe_no
      · exact qe_no
    · unfold wT
      split
      · exact qt_not (hT _)
      · exact fun Ex m => PW.pt (qw_bool hT Ex m)
      · exact qt_cmpW O hE _ _ _ _
      · exact qt_no
      · rename_i h1 h2 h3 h4
        rw [← O.K]
        refine qt_tru (hE _) ?_
        cases e with
        | UnaryOp op a p => cases op <;> first | rfl | exact absurd rfl (h1 _ _)
        | BoolOp op es p => exact absurd rfl (h2 _ _ _)
        | Compare a b c p => exact absurd rfl (h3 _ _ _ _)
        | IfExp a b c p => exact absurd rfl (h4 _ _ _ _)
        | _ => rfl
    · unfold wI
      split
      · split
        · rename_i hh
          obtain ⟨rfl, h1, _, h2, h3⟩ := hh
          exact qi_range (O.gl h1) (O.bl _ h2) (qa_args hE h3) h3
        · split
          · rename_i hh
            obtain ⟨rfl, h1, _, h2, h3⟩ := hh
            split
            · rw [← O.K]; exact qi_zip (O.gl h1) (O.bl _ h2) (qa_args hE h3) h3
            · exact qi_no
          · split
            · rename_i hh
              obtain ⟨rfl, h1, _, h2, h3⟩ := hh
              split
              · rw [← O.K]; exact qi_enum (O.gl h1) (O.bl _ h2) (qa_args hE h3) h3
              · exact qi_no
            · exact hv _ _
      · exact hv _ _
end L2

set_option maxRecDepth 100000
set_option maxHeartbeats 4000000
namespace L2
open PySem PySem.Spec PyProof.Rows

def noComp : Expr → Bool
  | .ListComp _ _ _ _ => false
  | .SetComp _ _ _ _ => false
  | .DictComp _ _ _ _ _ => false
  | _ => true
theorem noComp_ok {e : Expr} (h : noComp e = true) (t : Option Expr) (l : Nat) (env : Env) : swapsWith e t l env = pure false := by
  cases e with
  | ListComp _ _ _ _ => cases h
  | SetComp _ _ _ _ => cases h
  | DictComp _ _ _ _ _ => cases h
  | _ => rfl
section
variable {X : Cx} {G : Sg} {st : Stmt} {rest : List Stmt} {t u : DS} {e : Expr} {de : DE} {pos p' : Pos}
theorem qs_never : QS X st dNever := fun _ _ _ _ _ _ _ _ h => h.elim
theorem qss_nil : QSs X [] dNext := fun _ _ => pss_nil
theorem qss_cons (h1 : QS X st t) (h2 : QSs X rest u) : QSs X (st :: rest) (dSeq t u) := fun Ex m => pss_cons (h1 Ex m) (h2 Ex m)
theorem qs_pass : QS X (.Pass pos) dNext := fun _ _ => ps_pass
theorem qs_brk : QS X (.Break pos) dBrk := fun _ _ => ps_break
theorem qs_cnt : QS X (.Continue pos) dCnt := fun _ _ => ps_continue
theorem qs_ret (h : QE X e de) : QS X (.Return (some e) pos) (dRet de) := fun Ex m => ps_ret (h Ex m)
theorem qs_retN : QS X (.Return none pos) dRetN := fun _ _ => ps_retN
theorem qs_expr (h : QE X e de) (hn : noComp e = true) : QS X (.Expr e pos) (dDrop de) := fun Ex m => ps_expr (h Ex m) (noComp_ok hn _ _ _)
theorem qs_if {c : Expr} {a b : List Stmt} {tc : DT} (hc : QT X c tc) (ha : QSs X a t) (hb : QSs X b u) : QS X (.If c a b pos) (dIf tc t u) := fun Ex m => ps_if (hc Ex m) (ha Ex m) (hb Ex m)
theorem qs_set {i : Nat} {x : Str} (O : GOk X G) (hi : slotF G.N x 0 = some i) (hx : okSt G x = true) (h : QE X e de) (hn : swapsWith e (some (.Name x p')) pos.line X.env = pure false) : QS X (.Assign [.Name x p'] e pos) (dSet i de) := by
  obtain ⟨h1, h2⟩ := okSt_ok O hx
  exact fun Ex m => ps_set (by rw [O.N]; exact O.nd) (by rw [O.N]; exact slot_get hi) h1 (h Ex m) hn h2
variable {tg iter elt : Expr} {ifs : List Expr} {sc : Scope} {wi : DI} {g : DG} {tc : DT}
theorem qs_setComp {i : Nat} {x : Str} {cp : Pos} (O : GOk X G) (hi : slotF G.N x 0 = some i) (hx : okSt G x = true) (hc : X.calm = true) (hk : compOk G sc = true) (hs : noSet iter = true) (hq : QI X tg iter wi) (hg : ∀ X', GOk X' (compG G sc.names) → PG X' tg g)
    (ht : ∀ X', GOk X' (compG G sc.names) → QIfs X' ifs tc) (he : ∀ X', GOk X' (compG G sc.names) → QE X' elt de) :
    QS X (.Assign [.Name x p'] (.ListComp elt [⟨tg, iter, ifs, 0⟩] sc cp) pos) (dSet i (dComp (compSrc G sc.names) wi g tc de)) := by
  obtain ⟨h1, h2⟩ := okSt_ok O hx
  have sw : swapsWith (.ListComp elt [⟨tg, iter, ifs, 0⟩] sc cp) (some (.Name x p')) pos.line X.env = pure (X.env.blockKind == .function && X.env.kindOf x == some .local && p'.line == (Expr.ListComp elt [⟨tg, iter, ifs, 0⟩] sc cp).pos.line
      && !(sc.names.any fun (n, k) => n == x && (k == .local || k == .cell))) := rfl
  cases hb : (X.env.blockKind == .function && X.env.kindOf x == some .local && p'.line == (Expr.ListComp elt [⟨tg, iter, ifs, 0⟩] sc cp).pos.line
      && !(sc.names.any fun (n, k) => n == x && (k == .local || k == .cell))) with
  | false =>
    rw [hb] at sw
    exact qs_set O hi hx (qe_comp O hc hk hs hq hg ht he) sw
  | true =>
    rw [hb] at sw
    simp only [Bool.and_eq_true] at hb
    have hl : X.env.scope.names.lookup x = some .local := eq_of_beq hb.1.1.2
    intro Ex m
    exact ps_setComp hc (by rw [O.N]; exact O.nd) (by rw [O.N]; exact slot_get hi) hl (comp_sc O hk) (hq Ex m) (fun fp C s H => hg _ (comp_ok O hk fp C s H)) (fun fp C s H => ht _ (comp_ok O hk fp C s H)) (fun fp C s H => he _ (comp_ok O hk fp C s H) _ meets_no) sw (fun x => noSet_ok hs X.env x)
theorem qs_for {body : List Stmt} (O : GOk X G) (hc : X.calm = true) (hi : QI X tg iter wi) (hg : PG X tg g) (hb : QSs X body t) (hs : noSet iter = true) : QS X (.For tg iter body [] pos) (dFor wi g t) :=
  fun Ex m => ps_for O.own hc (hi Ex m) hg (hb Ex m) (fun x => noSet_ok hs X.env x)
theorem qs_while {c : Expr} {body : List Stmt} (O : GOk X G) (hc : QT X c tc) (hb : QSs X body t) : QS X (.While c body [] pos) (dWhile tc t) := fun Ex m => ps_while O.own (hc Ex m) (hb Ex m)
/-- raise e -/
def dRaise (K : PySem.W.Frag) (e : DE) : DS := fun D σ H => e σ H (rRaise K (D.ex σ)) (D.ex σ)
theorem qs_raise (O : GOk X G) (hc : X.A.handled = none) (h : QE X e de) : QS X (.Raise (some e) none pos) (dRaise X.K de) := fun Ex m => ps_raise m hc (h Ex m)
/-- a, b = e -/
def noTup : Expr → Bool
  | .Tuple _ _ _ => false
  | _ => true
theorem noTup_ok {e : Expr} (h : noTup e = true) (tg : Expr) (env : Env) : swappedStores [tg] e env = pure none := by
  cases e with
  | Tuple _ _ _ => cases h
  | _ => cases tg <;> rfl
theorem qs_asg {ts : List Expr} {kt : Nat} {pt : Pos} {g : DG} (h : QE X e de) (hg : PG X (.Tuple ts kt pt) g) (hn : noComp e = true) (ht : noTup e = true) : QS X (.Assign [.Tuple ts kt pt] e pos) (dAsg de g) :=
  fun Ex m => ps_asg (h Ex m) hg (show swapsWithSole [.Tuple ts kt pt] e pos.line X.env = pure false from noComp_ok hn (some (.Tuple ts kt pt)) pos.line X.env) (noTup_ok ht _ _)
/-- o.f = e -/
def dFld (K : PySem.W.Frag) (f : Str) (o e : DE) : DS := fun D σ H => e σ H (fun y H1 => o σ H1 (fun x H2 => rSetD K f x y H2 (D.nx σ)) (D.ex σ)) (D.ex σ)
theorem qs_fld {o : Expr} {f : Str} {do' : DE} (ho : QE X o do') (h : QE X e de) (hn : noComp e = true) : QS X (.Assign [.Attribute o f p'] e pos) (dFld X.K f do' de) := by
  intro Ex m pins s σ H D I hw
  refine plainObj_wpAny_Assign_Attribute (thn (h Ex m pins s σ H _ I hw) fun u s1 ⟨y, H1, I1, ry, q⟩ => thn (ho Ex m pins s1 σ H1 _ I1 q) fun ov s2 ⟨x, H2, I2, rx, q2⟩ => ?_) (noComp_ok hn _ _ _)
  exact set_D I2 rx ry q2 fun H' s' I' hN => ⟨σ, H', I', hN⟩
end
mutual
def wS : Nat → Sg → Stmt → DS
  | 0, _, _ => dNever
  | n + 1, G, st => match st with
    | .Pass _ => dNext
    | .Break _ => dBrk
    | .Continue _ => dCnt
    | .Return (some e) _ => dRet (wE n G e)
    | .Return none _ => dRetN
    | .Expr e _ => if noComp e = true then dDrop (wE n G e) else dNever
    | .If c a b _ => dIf (wT n G c) (wSs n G a) (wSs n G b)
    | .Assign [.Name x _] (.ListComp elt [⟨tg, iter, ifs, 0⟩] sc _) _ => match slotF G.N x 0 with
      | some i => if okSt G x = true ∧ G.calm = true ∧ compOk G sc = true ∧ noSet iter = true then
          dSet i (dComp (compSrc G sc.names) (wI n G tg iter) (wG n (compG G sc.names) tg) (match ifs with | [] => dYes | [c] => wT n (compG G sc.names) c | _ => tNo) (wE n (compG G sc.names) elt)) else dNever
      | none => dNever
    | .Assign [.Name x _] e _ => match slotF G.N x 0 with
      | some i => if okSt G x = true ∧ noComp e = true then dSet i (wE n G e) else dNever
      | none => dNever
    | .Assign [.Tuple ts kt pt] e _ => if noComp e = true ∧ noTup e = true then dAsg (wE n G e) (wG n G (.Tuple ts kt pt)) else dNever
    | .Assign [.Attribute o f _] e _ => if noComp e = true then dFld G.K f (wE n G o) (wE n G e) else dNever
    | .Raise (some e) none _ => if G.calm = true then dRaise G.K (wE n G e) else dNever
    | .For tg iter body [] _ => if G.calm = true ∧ noSet iter = true then dFor (wI n G tg iter) (wG n G tg) (wSs n G body) else dNever
    | .While c body [] _ => dWhile (wT n G c) (wSs n G body)
    | _ => dNever
def wSs : Nat → Sg → List Stmt → DS
  | 0, _, _ => dNever
  | _ + 1, _, [] => dNext
  | n + 1, G, s :: r => dSeq (wS n G s) (wSs n G r)
end
theorem ws_ok : ∀ (n : Nat) (X : Cx) (G : Sg), GOk X G → (∀ s, QS X s (wS n G s)) ∧ (∀ ss, QSs X ss (wSs n G ss)) := by
  intro n
  induction n with
  | zero =>
    intro X G O
    refine ⟨fun s => ?_, fun s => ?_⟩
    · unfold wS; exact qs_never
    · unfold wSs; exact fun _ _ _ _ _ _ _ _ h => h.elim
  | succ n ih =>
    intro X G O
    obtain ⟨hS, hSs⟩ := ih X G O
    obtain ⟨hE, hT, hI⟩ := w_ok n X G O
    refine ⟨fun s => ?_, fun s => ?_⟩
    · unfold wS
      split
      · exact qs_pass
      · exact qs_brk
      · exact qs_cnt
      · exact qs_ret (hE _)
      · exact qs_retN
      · split
        · exact qs_expr (hE _) ‹_›
        · exact qs_never
      · exact qs_if (hT _) (hSs _) (hSs _)
      · split
        · rename_i i e
          split
          · rename_i hh
            obtain ⟨h1, h2, h3, h4⟩ := hh
            refine qs_setComp O e h1 (O.calm ▸ h2) h3 h4 (hI _ _) (fun X' O' => wG_ok n X' _ O' _) (fun X' O' => ?_) (fun X' O' => (w_ok n X' _ O').1 _)
            split
            · exact qifs_nil
            · exact qifs_one ((w_ok n X' _ O').2.1 _)
            · exact fun _ _ _ _ _ _ h => h.elim
          · exact qs_never
        · exact qs_never
      · split
        · rename_i i e
          split
          · rename_i hh
            exact qs_set O e hh.1 (hE _) (noComp_ok hh.2 _ _ _)
          · exact qs_never
        · exact qs_never
      · split
        · rename_i hh
          exact qs_asg (hE _) (wG_ok n X G O _) hh.1 hh.2
        · exact qs_never
      · split
        · rw [← O.K]; exact qs_fld (hE _) (hE _) ‹_›
        · exact qs_never
      · split
        · rename_i hcm
          rw [← O.K]; exact qs_raise O (O.hd (O.calm ▸ hcm)) (hE _)
        · exact qs_never
      · split
        · rename_i hh
          exact qs_for O (O.calm ▸ hh.1) (hI _ _) (wG_ok n X G O _) (hSs _) hh.2
        · exact qs_never
      · exact qs_while O (hT _) (hSs _)
      · exact qs_never
    · cases s with
      | nil => unfold wSs; exact qss_nil
      | cons a r => unfold wSs; exact qss_cons (hS a) (hSs r)
end L2

set_option maxRecDepth 100000
set_option maxHeartbeats 4000000
namespace L2
open PySem PySem.Spec PyProof.Rows
section
variable {P : Program} {w : World} {K : PySem.W.Frag} {mg : Str → Option Value} {base : Heap}
/-- what the table says is so -/
structure FnIn (P : Program) (w : World) (K : PySem.W.Frag) (mg : Str → Option Value) (base : Heap) (k : Nat) (x : Str) (i : FI) : Prop where
  at_ : mg x = some (.ref i.f)
  kp : PySem.W.keepIn K (.ref i.f) = true
  ok : ∃ CX, (∀ X' : Cx, X'.prog = P → X'.w = w → PassX CX X') ∧ FnOk P w K mg base CX i.k i.f i.fd i.ps i.sp
  le : i.k ≤ k
  binds : ∀ j, j ≤ i.dfs.length → Binds K i.fd i.ps (i.ds.drop j)
  vals : Vals i.dfs i.ds
/-- a class of exceptions as the table says -/
def InitIn (P : Program) (w : World) (K : PySem.W.Frag) (mg : Str → Option Value) (base : Heap) (k : Nat) (C : Addr) : Option FI → Prop
  | none => PySem.W.findIn K (.ref C) "__init__" = some (some (.builtin "ValueError.__init__"))
  | some i => PySem.W.findIn K (.ref C) "__init__" = some (some (.ref i.f)) ∧ PySem.W.isFn K (.ref i.f) = true ∧ PySem.W.keepIn K (.ref i.f) = true ∧ (∃ CX, (∀ X' : Cx, X'.prog = P → X'.w = w → PassX CX X') ∧ FnOk P w K mg base CX i.k i.f i.fd i.ps i.sp) ∧
      i.k + 1 ≤ k ∧ (∀ j, j ≤ i.dfs.length → Binds K i.fd i.ps (i.ds.drop j)) ∧ Vals i.dfs i.ds
structure ExcIn (P : Program) (w : World) (K : PySem.W.Frag) (mg : Str → Option Value) (base : Heap) (k : Nat) (x : Str) (C : Addr) (oi : Option FI) : Prop where
  at_ : mg x = some (.ref C)
  kp : PySem.W.keepIn K (.ref C) = true
  cls : ECls K C
  init : InitIn P w K mg base k C oi
/-- a def that is called by its address -/
structure FiIn (P : Program) (w : World) (K : PySem.W.Frag) (mg : Str → Option Value) (base : Heap) (k : Nat) (i : FI) : Prop where
  kp : PySem.W.keepIn K (.ref i.f) = true
  ok : ∃ CX, (∀ X' : Cx, X'.prog = P → X'.w = w → PassX CX X') ∧ FnOk P w K mg base CX i.k i.f i.fd i.ps i.sp
  le : i.k ≤ k
  binds : ∀ j, j ≤ i.dfs.length → Binds K i.fd i.ps (i.ds.drop j)
  vals : Vals i.dfs i.ds
theorem FiIn.mono {k k' : Nat} {i : FI} (F : FiIn P w K mg base k i) (h : k ≤ k') : FiIn P w K mg base k' i := ⟨F.kp, F.ok, Nat.le_trans F.le h, F.binds, F.vals⟩
/-- a class of one's own, as the table says -/
def MkIn (P : Program) (w : World) (K : PySem.W.Frag) (mg : Str → Option Value) (base : Heap) (k : Nat) (C : Addr) : Option FI → Prop
  | none => PySem.W.makesIn K C = true ∧ PySem.W.findIn K (.ref C) "__init__" = some (some (.builtin "object.__init__"))
  | some i => PySem.W.makesIn K C = true ∧ PySem.W.findIn K (.ref C) "__init__" = some (some (.ref i.f)) ∧ PySem.W.isFn K (.ref i.f) = true ∧ FiIn P w K mg base k i ∧ i.k + 1 ≤ k
structure ClsIn (P : Program) (w : World) (K : PySem.W.Frag) (mg : Str → Option Value) (base : Heap) (k : Nat) (x : Str) (C : Addr) (oi : Option FI) : Prop where
  at_ : mg x = some (.ref C)
  kp : PySem.W.keepIn K (.ref C) = true
  made : MkIn P w K mg base k C oi
theorem ClsIn.mono {k k' : Nat} {x : Str} {C : Addr} {oi : Option FI} (F : ClsIn P w K mg base k x C oi) (h : k ≤ k') : ClsIn P w K mg base k' x C oi := by
  refine ⟨F.at_, F.kp, ?_⟩
  cases oi with
  | none => exact F.made
  | some i => obtain ⟨a, b, c, d, e⟩ := F.made; exact ⟨a, b, c, d.mono h, Nat.le_trans e h⟩
structure MetIn (P : Program) (w : World) (K : PySem.W.Frag) (mg : Str → Option Value) (base : Heap) (k : Nat) (m : Str) (mi : MI) : Prop where
  cls : Cls K mi.C
  at_ : Meth K mi.C m mi.i.f
  fi : FiIn P w K mg base k mi.i
theorem MetIn.mono {k k' : Nat} {m : Str} {mi : MI} (F : MetIn P w K mg base k m mi) (h : k ≤ k') : MetIn P w K mg base k' m mi := ⟨F.cls, F.at_, F.fi.mono h⟩
theorem ExcIn.mono {P : Program} {w : World} {K : PySem.W.Frag} {mg : Str → Option Value} {base : Heap} {k k' : Nat} {x : Str} {C : Addr} {oi : Option FI} (F : ExcIn P w K mg base k x C oi) (h : k ≤ k') : ExcIn P w K mg base k' x C oi := by
  refine ⟨F.at_, F.kp, F.cls, ?_⟩
  cases oi with
  | none => exact F.init
  | some i => obtain ⟨a, b, c, d, e, f⟩ := F.init; exact ⟨a, b, c, d, Nat.le_trans e h, f⟩
structure Tab (P : Program) (w : World) (K : PySem.W.Frag) (mg : Str → Option Value) (base : Heap) (k : Nat) (gb : List (Str × GB)) (bl : List Str) : Prop where
  fn : ∀ x i, (x, GB.fn i) ∈ gb → FnIn P w K mg base k x i
  val : ∀ x v u, (x, GB.val v u) ∈ gb → mg x = some u ∧ RelV v u
  bl : ∀ x ∈ bl, mg x = none
  exc : ∀ x C oi, (x, GB.exc C oi) ∈ gb → ExcIn P w K mg base k x C oi
  cls : ∀ x C oi, (x, GB.cls C oi) ∈ gb → ClsIn P w K mg base k x C oi
  met : ∀ x m l, (x, GB.met m l) ∈ gb → ∀ mi ∈ l, MetIn P w K mg base k m mi
theorem FnIn.mono {k k' : Nat} {x : Str} {i : FI} (F : FnIn P w K mg base k x i) (h : k ≤ k') : FnIn P w K mg base k' x i := ⟨F.at_, F.kp, F.ok, Nat.le_trans F.le h, F.binds, F.vals⟩
theorem Tab.nil {bl : List Str} (h : ∀ x ∈ bl, mg x = none) : Tab P w K mg base 0 [] bl := ⟨fun _ _ h => (by cases h), fun _ _ _ h => (by cases h), h, fun _ _ _ h => (by cases h), fun _ _ _ h => (by cases h), fun _ _ _ h => (by cases h)⟩
theorem Tab.mono {k k' : Nat} {gb : List (Str × GB)} {bl : List Str} (T : Tab P w K mg base k gb bl) (h : k ≤ k') : Tab P w K mg base k' gb bl := ⟨fun x i hx => (T.fn x i hx).mono h, T.val, T.bl, fun x C oi hx => (T.exc x C oi hx).mono h, fun x C oi hx => (T.cls x C oi hx).mono h, fun x m l hx mi hm => (T.met x m l hx mi hm).mono h⟩
theorem Tab.cons {k : Nat} {gb : List (Str × GB)} {bl : List Str} {x : Str} {i : FI} (T : Tab P w K mg base k gb bl) (F : FnIn P w K mg base k x i) : Tab P w K mg base k ((x, .fn i) :: gb) bl :=
  ⟨fun y j hy => by
    rcases List.mem_cons.mp hy with e | e
    · cases e; exact F
    · exact T.fn y j e, fun y v' u' hy => by
    rcases List.mem_cons.mp hy with e | e
    · cases e
    · exact T.val y v' u' e, T.bl, fun y C' oi' hy => by
    rcases List.mem_cons.mp hy with e | e
    · cases e
    · exact T.exc y C' oi' e, fun y C' oi' hy => by
    rcases List.mem_cons.mp hy with e | e
    · cases e
    · exact T.cls y C' oi' e, fun y m' l' hy => by
    rcases List.mem_cons.mp hy with e | e
    · cases e
    · exact T.met y m' l' e⟩
theorem Tab.consV {k : Nat} {gb : List (Str × GB)} {bl : List Str} {x : Str} {v : V} {u : Value} (T : Tab P w K mg base k gb bl) (F : mg x = some u) (r : RelV v u) : Tab P w K mg base k ((x, .val v u) :: gb) bl :=
  ⟨fun y j hy => by
    rcases List.mem_cons.mp hy with e | e
    · cases e
    · exact T.fn y j e, fun y v' u' hy => by
    rcases List.mem_cons.mp hy with e | e
    · cases e; exact ⟨F, r⟩
    · exact T.val y v' u' e, T.bl, fun y C' oi' hy => by
    rcases List.mem_cons.mp hy with e | e
    · cases e
    · exact T.exc y C' oi' e, fun y C' oi' hy => by
    rcases List.mem_cons.mp hy with e | e
    · cases e
    · exact T.cls y C' oi' e, fun y m' l' hy => by
    rcases List.mem_cons.mp hy with e | e
    · cases e
    · exact T.met y m' l' e⟩
theorem Tab.consC {k : Nat} {gb : List (Str × GB)} {bl : List Str} {x : Str} {C : Addr} {oi : Option FI} (T : Tab P w K mg base k gb bl) (F : ClsIn P w K mg base k x C oi) : Tab P w K mg base k ((x, .cls C oi) :: gb) bl :=
  ⟨fun y j hy => by
    rcases List.mem_cons.mp hy with e | e
    · cases e
    · exact T.fn y j e, fun y v' u' hy => by
    rcases List.mem_cons.mp hy with e | e
    · cases e
    · exact T.val y v' u' e, T.bl, fun y C' oi' hy => by
    rcases List.mem_cons.mp hy with e | e
    · cases e
    · exact T.exc y C' oi' e, fun y C' oi' hy => by
    rcases List.mem_cons.mp hy with e | e
    · cases e; exact F
    · exact T.cls y C' oi' e, fun y m' l' hy => by
    rcases List.mem_cons.mp hy with e | e
    · cases e
    · exact T.met y m' l' e⟩
theorem Tab.consM {k : Nat} {gb : List (Str × GB)} {bl : List Str} {x : Str} {m : Str} {l : List MI} (T : Tab P w K mg base k gb bl) (F : ∀ mi ∈ l, MetIn P w K mg base k m mi) : Tab P w K mg base k ((x, .met m l) :: gb) bl :=
  ⟨fun y j hy => by
    rcases List.mem_cons.mp hy with e | e
    · cases e
    · exact T.fn y j e, fun y v' u' hy => by
    rcases List.mem_cons.mp hy with e | e
    · cases e
    · exact T.val y v' u' e, T.bl, fun y C' oi' hy => by
    rcases List.mem_cons.mp hy with e | e
    · cases e
    · exact T.exc y C' oi' e, fun y C' oi' hy => by
    rcases List.mem_cons.mp hy with e | e
    · cases e
    · exact T.cls y C' oi' e, fun y m' l' hy => by
    rcases List.mem_cons.mp hy with e | e
    · cases e; exact F
    · exact T.met y m' l' e⟩
theorem pass_CX0 (X : Cx) : PassX CX0 X := fun _ _ _ _ _ _ _ _ _ h => h.elim
def defG (K : PySem.W.Frag) (N : List Str) (sc : Scope) (gb : List (Str × GB)) (bl : List Str) : Sg := ⟨K, N, sc.names, gb, bl, true, true⟩
def visOk (N : List Str) (sc : Scope) : Bool := N.all fun x => (sc.names.lookup x == some .local) || (sc.names.lookup x == some .cell)
def endsOf (Q : VK) (E : EK) : Outs := ⟨fun _ H' => Q .non H', Q, fun _ _ => False, fun _ _ => False, fun _ => E⟩
/-- a def or a method, with its defaults -/
structure FunD (K : PySem.W.Frag) (x qual : Str) (st : Stmt) (f : Addr) (fd : FuncData) (dV : Value) : Prop where
  ex : ∃ (oc : Value) (od : Option Addr) (kV doc pm : Value) (an : Option Addr) (cdv ct : Value) (osl : Array (Option Value)),
    fd = PySem.W.fnOf x qual (defArgs st) (defBody st) (defScope st) dV kV doc pm an cdv ct ∧ K.lookup f = some ⟨oc, od, .func fd, osl⟩ ∧ PySem.W.codeIn K cdv qual = true
  kp : PySem.W.keepIn K (.ref f) = true
theorem Fun.toD {x qual : Str} {st : Stmt} {f : Addr} {fd : FuncData} (F : Fun K x qual st f fd) : FunD K x qual st f fd .none := ⟨F.ex, F.kp⟩
theorem FunD.ok {x qual : Str} {st : Stmt} {f : Addr} {fd : FuncData} {dV : Value} {N ps : List Str} {k : Nat} {sp : Sp} (F : FunD K x qual st f fd dV) (S : FnScope N ps (defScope st)) (len : ∀ vs H Q E, sp vs H Q E → vs.length = ps.length)
    (hbody : ∀ (cdv : Value) (A : Around) (outer : List Env) (s : Shared) (H : Hp) (vs : List V) (Q : VK) (E : XK), Room k (A.deeper (envOfC qual (defScope st) s.heap.objs.size f cdv)) → sp vs H Q E →
      ∃ t, PSs (cxOf CX0 P w K mg base N qual (defScope st) f cdv A outer s H E).nox (defBody st) t ∧ t { nx := fun _ H' => Q .non H', rt := Q } (start N vs) H) : FnOk P w K mg base CX0 (k + 1) f fd ps sp := by
  obtain ⟨oc, od, kV, doc, pm, an, cdv, ct, osl, rfl, lk, hcd⟩ := F.ex
  refine fn_of lk hcd S len fun A outer s H vs Q E hr hsp => ?_
  obtain ⟨t, h, q⟩ := hbody cdv A outer s H vs Q E hr hsp
  exact ⟨t, h.nox, q⟩
/-- a def from which no exception leaves -/
theorem FunD.okW0 {x qual : Str} {st : Stmt} {f : Addr} {fd : FuncData} {N ps : List Str} {k n : Nat} {sp : Sp} {gb : List (Str × GB)} {bl : List Str} {t : DS} {dV : Value} (F : FunD K x qual st f fd dV) (S : FnScope N ps (defScope st)) (hv : visOk N (defScope st) = true)
    (T : Tab P w K mg base k gb bl) (rd : wSs n (defG K N (defScope st) gb bl) (defBody st) = t) (len : ∀ vs H Q E, sp vs H Q E → vs.length = ps.length)
    (hbody : ∀ (vs : List V) (H : Hp) (Q : VK) (E : XK), sp vs H Q E → t (endsOf Q fun _ _ => False) (start N vs) H) : FnOk P w K mg base CX0 (k + 1) f fd ps sp := by
  refine F.ok S len fun cdv A outer s H vs Q E hr h => ?_
  have O : GOk (cxOf CX0 P w K mg base N qual (defScope st) f cdv A outer s H E).nox (defG K N (defScope st) gb bl) := by
    refine ⟨rfl, S.kind, PassesOwn.never, rfl, S.nd, fun x => rfl, fun x hx => ?_, fun _ _ => rfl, rfl, (fun _ => hr.hd), hr.units, fun x hx => ?_, fun x i e => ?_, fun x v u e => ?_, fun x hx => ?_, fun x C oi e => ?_, fun x C oi e => ?_, fun m l e mi hm => ?_⟩
    · have := List.all_eq_true.mp hv x hx
      rw [Bool.or_eq_true] at this
      exact this.elim (fun z => .inl (eq_of_beq z)) fun z => .inr (.inl (eq_of_beq z))
    · rcases hx with hx | hx
      · exact cell_has hx
      · exact absurd rfl (S.nofree _ (PySem.mem_of_lookup hx))
    · have FI := T.fn x i (PySem.mem_of_lookup e)
      exact ⟨FI.at_, FI.kp, FI.ok, hr.mono FI.le, FI.binds, FI.vals⟩
    · exact T.val x v u (PySem.mem_of_lookup e)
    · exact T.bl x (by have hx' : bl.contains x = true := hx; simpa using hx')
    · have EI := T.exc x C oi (PySem.mem_of_lookup e)
      refine ⟨EI.at_, EI.kp, EI.cls, ?_⟩
      cases oi with
      | none => exact EI.init
      | some i => obtain ⟨a, b, c, d, e, f, g⟩ := EI.init; exact ⟨a, b, ⟨c, d, hr.mono (by omega), f, g⟩, hr.mono e⟩
    · have CI := T.cls x C oi (PySem.mem_of_lookup e)
      refine ⟨CI.at_, CI.kp, ?_⟩
      cases oi with
      | none => exact CI.made
      | some i => obtain ⟨a, b, c, d, e⟩ := CI.made; exact ⟨a, b, c, ⟨d.kp, d.ok, hr.mono d.le, d.binds, d.vals⟩, hr.mono e⟩
    · obtain ⟨x, hx⟩ := findMet_mem e
      have MI := T.met x m l hx mi hm
      exact ⟨MI.cls, MI.at_, ⟨MI.fi.kp, MI.fi.ok, hr.mono MI.fi.le, MI.fi.binds, MI.fi.vals⟩⟩
  refine ⟨_, (ws_ok n _ _ O).2 (defBody st) (fun _ _ _ => False) (fun _ _ _ _ _ _ _ h => h.elim), ?_⟩
  rw [rd]
  exact hbody vs H Q E h
end
end L2

set_option maxRecDepth 100000
set_option maxHeartbeats 4000000
namespace L2
open PySem PySem.Spec PyProof.Rows

theorem Same.upd {H : Hp} {a : Addr} {o : HO} (h : H a = none) : Same H (upd H a o) := fun b u e => by rw [upd_ne (ne_of_none e h)]; exact e
theorem Same.set {H H' : Hp} {a : Addr} {o : HO} (s : Same H H') (h : H a = none) : Same H (L2.upd H' a o) := fun b u e => by rw [upd_ne (ne_of_none e h)]; exact s b u e
theorem Same.seqT {K : PySem.W.Frag} {H H' : Hp} {a : Addr} {xs : List V} (e : Same H H') (h : SqT K H a xs) : SqT K H' a xs := by
  rcases h with (h | ⟨o, h⟩) | h
  · exact .inl (.inl (e _ _ h))
  · exact .inl (.inr ⟨o, e _ _ h⟩)
  · exact .inr h

/-- the iterator gives these items, one a turn -/
structure Yields (J : It) (its : List V) (ok : Hp → Prop) : Prop where
  go : ∀ i H, ok H → i < its.length → J.go i H
  stop : ∀ H, ok H → J.stop its.length H
  yld : ∀ i H x H', ok H → i < its.length → J.yld i H x H' → H' = H ∧ its[i]? = some x
/-- .. these pairs, each a new tuple -/
structure Yields2 (J : It) (its : List (V × V)) (ok : Hp → Prop) : Prop where
  go : ∀ i H, ok H → i < its.length → J.go i H
  stop : ∀ H, ok H → J.stop its.length H
  yld : ∀ i H v H', ok H → i < its.length → J.yld i H v H' → ∃ T x y, H T = none ∧ v = .ref T ∧ its[i]? = some (x, y) ∧ H' = upd H T (.tup [x, y])
def signsV (z : Str) : List V := z.cps.toList.map fun c => V.str ⟨#[c]⟩
theorem yl_str (z : Str) : Yields (Its z) (signsV z) (fun _ => True) := by
  have e : (signsV z).length = z.cps.size := by unfold signsV; simp
  refine ⟨fun i H _ h => ?_, fun H _ => ?_, fun i H x H' _ _ h => ?_⟩
  · show i < z.cps.size; omega
  · show (signsV z).length = z.cps.size; exact e
  · obtain ⟨h1, c, h2, h3⟩ := h
    refine ⟨h1, ?_⟩
    unfold signsV
    rw [List.getElem?_map, Array.getElem?_toList, h2, h3]
    rfl
theorem yl_list {K : PySem.W.Frag} {a : Addr} (xs : List V) : Yields (Itl K a) xs (fun H => SqL K H a xs) := by
  refine ⟨fun i H q h => ⟨xs, xs[i], q, by simp [h]⟩, fun H q => ⟨xs, q, Nat.le_refl _⟩, fun i H x H' q _ h => ?_⟩
  obtain ⟨h1, h2⟩ := h
  exact ⟨h1, h2 xs q⟩
theorem yl_tup {K : PySem.W.Frag} {a : Addr} (xs : List V) : Yields (Itt K a) xs (fun H => SqT K H a xs) := by
  refine ⟨fun i H q h => ⟨xs, xs[i], q, by simp [h]⟩, fun H q => ⟨xs, q, Nat.le_refl _⟩, fun i H x H' q _ h => ?_⟩
  obtain ⟨h1, h2⟩ := h
  exact ⟨h1, h2 xs q⟩
def rngV (lo : Int) (n : Nat) : List V := (List.range n).map fun (i : Nat) => V.int (lo + (i : Int))
theorem rngV_len (lo : Int) (n : Nat) : (rngV lo n).length = n := by unfold rngV; simp
theorem rngV_get {lo : Int} {n i : Nat} (h : i < n) : (rngV lo n)[i]? = some (.int (lo + (i : Int))) := by unfold rngV; simp [h]
theorem yl_range (lo : Int) (n : Nat) : Yields (Itr lo n) (rngV lo n) (fun _ => True) := by
  refine ⟨fun i H _ h => ?_, fun H _ => ?_, fun i H x H' _ hi h => ?_⟩
  · rw [rngV_len] at h; exact h
  · show n ≤ (rngV lo n).length; rw [rngV_len]; exact Nat.le_refl _
  · obtain ⟨h1, h2⟩ := h
    rw [rngV_len] at hi
    exact ⟨h1, by rw [rngV_get hi, h2]⟩

def enumV : Nat → List V → List (V × V)
  | _, [] => []
  | k, x :: r => (.int k, x) :: enumV (k + 1) r
theorem enumV_len : ∀ (k : Nat) (xs : List V), (enumV k xs).length = xs.length
  | _, [] => rfl
  | k, _ :: r => by rw [enumV, List.length_cons, List.length_cons, enumV_len (k + 1) r]
theorem enumV_get : ∀ {k i : Nat} {xs : List V} {x : V}, xs[i]? = some x → (enumV k xs)[i]? = some (.int ((k + i : Nat) : Int), x)
  | _, _, [], _, h => by simp at h
  | k, 0, y :: r, x, h => by
    simp only [List.getElem?_cons_zero, Option.some.injEq] at h
    subst h
    rfl
  | k, i + 1, y :: r, x, h => by
    rw [List.getElem?_cons_succ] at h
    rw [enumV, List.getElem?_cons_succ, enumV_get h]
    congr 4
    omega
theorem yl_enum {K : PySem.W.Frag} {a : Addr} (xs : List V) : Yields2 (Ite K a) (enumV 0 xs) (fun H => SqL K H a xs) := by
  have e := enumV_len 0 xs
  refine ⟨fun i H q h => ⟨xs, xs[i]'(by omega), q, by simp⟩, fun H q => ⟨xs, q, by omega⟩, fun i H v H' q _ h => ?_⟩
  obtain ⟨T, x, hT, h1, h2, h4⟩ := h
  refine ⟨T, .int i, x, hT, h1, ?_, h4⟩
  have := enumV_get (k := 0) (h2 xs q)
  rw [Nat.zero_add] at this
  exact this
section
variable {J : It} {its : List V} {ok : Hp → Prop} {g : DG} {tb : DS} {D : Outs} {σ : St} {H : Hp}
/-- a for loop by an invariant over the turns -/
theorem for_by (Y : Yields J its ok) (Pv : Nat → St → Hp → Prop) (h0 : Pv 0 σ H) (hok : ∀ i σ H, i ≤ its.length → Pv i σ H → ok H)
    (hs : ∀ i x σ H, its[i]? = some x → Pv i σ H → g x σ H fun σ2 H2 => tb { D with nx := Pv (i + 1), ct := Pv (i + 1), bk := D.nx } σ2 H2) (hd : ∀ σ H, Pv its.length σ H → D.nx σ H) : ForW J g tb D σ H := by
  refine ⟨fun i m σ H => m = its.length - i ∧ i ≤ its.length ∧ Pv i σ H, ⟨its.length, by simp, Nat.zero_le _, h0⟩, ?_⟩
  rintro i m σ H ⟨rfl, hi, p⟩
  by_cases hlt : i < its.length
  · refine .inr ⟨Y.go i H (hok i σ H hi p) hlt, Pv (i + 1), fun σ' H' p' => ⟨its.length - (i + 1), by omega, rfl, hlt, p'⟩, fun x H' y => ?_⟩
    obtain ⟨e, y2⟩ := Y.yld i H x H' (hok i σ H hi p) hlt y
    subst e
    exact hs i x σ _ y2 p
  · have e : i = its.length := by omega
    subst e
    exact .inl ⟨Y.stop H (hok _ σ H hi p), hd σ H p⟩
theorem for_by2 {its : List (V × V)} (Y : Yields2 J its ok) (Pv : Nat → St → Hp → Prop) (h0 : Pv 0 σ H) (hok : ∀ i σ H, i ≤ its.length → Pv i σ H → ok H)
    (hs : ∀ i x y T σ H, its[i]? = some (x, y) → H T = none → Pv i σ H → g (.ref T) σ (upd H T (.tup [x, y])) fun σ2 H2 => tb { D with nx := Pv (i + 1), ct := Pv (i + 1), bk := D.nx } σ2 H2) (hd : ∀ σ H, Pv its.length σ H → D.nx σ H) : ForW J g tb D σ H := by
  refine ⟨fun i m σ H => m = its.length - i ∧ i ≤ its.length ∧ Pv i σ H, ⟨its.length, by simp, Nat.zero_le _, h0⟩, ?_⟩
  rintro i m σ H ⟨rfl, hi, p⟩
  by_cases hlt : i < its.length
  · refine .inr ⟨Y.go i H (hok i σ H hi p) hlt, Pv (i + 1), fun σ' H' p' => ⟨its.length - (i + 1), by omega, rfl, hlt, p'⟩, fun x H' y => ?_⟩
    obtain ⟨T, u, v, hT, e1, e2, e3⟩ := Y.yld i H x H' (hok i σ H hi p) hlt y
    subst e1 e3
    exact hs i u v T σ _ e2 hT p
  · have e : i = its.length := by omega
    subst e
    exact .inl ⟨Y.stop H (hok _ σ H hi p), hd σ H p⟩
variable {tc : DT} {te : DE} {L : Addr} {R : Hp → Prop}
theorem cmp_by (Y : Yields J its ok) (Pv : Nat → St → Hp → Prop) (h0 : Pv 0 σ H) (hok : ∀ i σ H, i ≤ its.length → Pv i σ H → ok H)
    (hs : ∀ i x σ H, its[i]? = some x → Pv i σ H → g x σ H fun σ3 H3 => tc σ3 H3 (fun b H4 => if b = true then te σ3 H4 (fun v H5 => ∃ ys, H5 L = some (.lst ys) ∧ ys.length < sizeLine ∧ Pv (i + 1) σ3 (upd H5 L (.lst (ys ++ [v])))) (fun _ _ => False) else Pv (i + 1) σ3 H4) (fun _ _ => False))
    (hd : ∀ σ H, Pv its.length σ H → R H) : CmpW J g tc te L R σ H := by
  refine ⟨fun i m σ H => m = its.length - i ∧ i ≤ its.length ∧ Pv i σ H, ⟨its.length, by simp, Nat.zero_le _, h0⟩, ?_⟩
  rintro i m σ H ⟨rfl, hi, p⟩
  by_cases hlt : i < its.length
  · refine .inr ⟨Y.go i H (hok i σ H hi p) hlt, Pv (i + 1), fun σ' H' p' => ⟨its.length - (i + 1), by omega, rfl, hlt, p'⟩, fun x H' y => ?_⟩
    obtain ⟨e, y2⟩ := Y.yld i H x H' (hok i σ H hi p) hlt y
    subst e
    exact hs i x σ _ y2 p
  · have e : i = its.length := by omega
    subst e
    exact .inl ⟨Y.stop H (hok _ σ H hi p), hd σ H p⟩
theorem take_filter_map {α β : Type} {its : List α} {i : Nat} {x : α} (h : its[i]? = some x) (p : α → Bool) (f : α → β) : ((its.take (i + 1)).filter p).map f = ((its.take i).filter p).map f ++ (if p x = true then [f x] else []) := by
  rw [List.take_add_one, h]
  simp only [Option.toList_some, List.filter_append, List.map_append]
  congr 1
  cases e : p x <;> simp [e]
/-- a comprehension whose items are told by f, those with p alone; the heap may grow -/
theorem cmp_map (Y : Yields J its ok) (Sg : St → Prop) (p : V → Bool) (f : V → V) (h0 : H L = none) (hok : ∀ H1, Same H H1 → ok H1) (hn : its.length < sizeLine) (hσ : Sg σ)
    (hs : ∀ x σ H1, x ∈ its → Sg σ → Same H H1 → ∀ (Fin : V → St → Hp → Prop) (Skip : St → Hp → Prop), (∀ v σ3 H5, Sg σ3 → Same H1 H5 → p x = true → v = f x → Fin v σ3 H5) → (∀ σ3 H4, Sg σ3 → Same H1 H4 → p x = false → Skip σ3 H4) →
      g x σ H1 fun σ3 H3 => tc σ3 H3 (fun b H4 => if b = true then te σ3 H4 (fun v H5 => Fin v σ3 H5) (fun _ _ => False) else Skip σ3 H4) (fun _ _ => False))
    (hd : ∀ H', Same H H' → H' L = some (.lst ((its.filter p).map f)) → R H') : CmpW J g tc te L R σ (upd H L (.lst [])) := by
  refine cmp_by Y (fun i σ' H' => Sg σ' ∧ Same H H' ∧ H' L = some (.lst (((its.take i).filter p).map f))) ⟨hσ, Same.upd h0, upd_same⟩ (fun i σ' H' _ q => hok H' q.2.1) ?_ ?_
  · rintro i x σ' H' hx ⟨q1, q2, q3⟩
    have hi : i < its.length := (List.getElem?_eq_some_iff.mp hx).1
    refine hs x σ' H' (List.mem_of_getElem? hx) q1 q2 (fun v σ3 H5 => ∃ ys, H5 L = some (.lst ys) ∧ ys.length < sizeLine ∧ Sg σ3 ∧ Same H (upd H5 L (.lst (ys ++ [v]))) ∧ upd H5 L (.lst (ys ++ [v])) L = some (.lst (((its.take (i + 1)).filter p).map f)))
      (fun σ3 H4 => Sg σ3 ∧ Same H H4 ∧ H4 L = some (.lst (((its.take (i + 1)).filter p).map f))) (fun v σ3 H5 s1 s2 hp hv => ?_) (fun σ3 H4 s1 s2 hp => ?_)
    · refine ⟨_, s2 _ _ q3, ?_, s1, (q2.trans s2).set h0, ?_⟩
      · rw [List.length_map]
        have h1 := List.length_filter_le p (its.take i)
        have h2 : (its.take i).length ≤ i := by rw [List.length_take]; omega
        omega
      · rw [upd_same, take_filter_map hx, if_pos hp, hv]
    · refine ⟨s1, q2.trans s2, ?_⟩
      rw [s2 _ _ q3, take_filter_map hx, if_neg (by rw [hp]; exact Bool.false_ne_true), List.append_nil]
  · rintro σ' H' ⟨_, q2, q3⟩
    rw [List.take_length] at q3
    exact hd H' q2 q3
end
end L2

set_option maxRecDepth 100000
set_option maxHeartbeats 4000000
namespace L2
open PySem PySem.Spec PyProof.Rows
section
variable {K : PySem.W.Frag} {H H' : Hp}
theorem Same.seqL {a : Addr} {xs : List V} (e : Same H H') (h : SqL K H a xs) : SqL K H' a xs := by
  rcases h with (h | ⟨o, h⟩) | h
  · exact .inl (.inl (e _ _ h))
  · exact .inl (.inr ⟨o, e _ _ h⟩)
  · exact .inr h
mutual
theorem at_up (S : Same H H') : ∀ {d : Dt} {x : V}, At K H d x → At K H' d x
  | .at_ v, x, h => by unfold At at h ⊢; exact h
  | .lst l, x, h => by unfold At at h ⊢; obtain ⟨a, xs, e, q, h⟩ := h; exact ⟨a, xs, e, S.seqL q, atL_up S h⟩
  | .tup l, x, h => by unfold At at h ⊢; obtain ⟨a, xs, e, q, h⟩ := h; exact ⟨a, xs, e, S.seqT q, atL_up S h⟩
theorem atL_up (S : Same H H') : ∀ {ds : List Dt} {xs : List V}, AtL K H ds xs → AtL K H' ds xs
  | [], xs, h => by unfold AtL at h ⊢; exact h
  | d :: ds, xs, h => by unfold AtL at h ⊢; obtain ⟨y, ys, e, h1, h2⟩ := h; exact ⟨y, ys, e, at_up S h1, atL_up S h2⟩
end
theorem atL_get : ∀ {ds : List Dt} {xs : List V} {i : Nat} {d : Dt}, AtL K H ds xs → ds[i]? = some d → ∃ y, xs[i]? = some y ∧ At K H d y
  | [], _, _, _, _, e => by simp at e
  | c :: ds, xs, 0, d, h, e => by
    unfold AtL at h
    obtain ⟨y, ys, rfl, h1, h2⟩ := h
    rw [List.getElem?_cons_zero] at e
    cases e
    exact ⟨y, rfl, h1⟩
  | c :: ds, xs, i + 1, d, h, e => by
    unfold AtL at h
    obtain ⟨y, ys, rfl, h1, h2⟩ := h
    rw [List.getElem?_cons_succ] at e
    obtain ⟨z, e1, e2⟩ := atL_get h2 e
    exact ⟨z, by rw [List.getElem?_cons_succ]; exact e1, e2⟩
theorem atL_nil : AtL K H [] [] := by unfold AtL; rfl
theorem atL_cons {d : Dt} {ds : List Dt} {x : V} {xs : List V} (h : At K H d x) (t : AtL K H ds xs) : AtL K H (d :: ds) (x :: xs) := by unfold AtL; exact ⟨x, xs, rfl, h, t⟩
theorem atL_app : ∀ {ds : List Dt} {xs : List V} {es : List Dt} {ys : List V}, AtL K H ds xs → AtL K H es ys → AtL K H (ds ++ es) (xs ++ ys)
  | [], _, _, _, h, g => by unfold AtL at h; rw [h]; exact g
  | c :: ds, xs, es, ys, h, g => by
    unfold AtL at h
    obtain ⟨y, zs, rfl, h1, h2⟩ := h
    exact atL_cons h1 (atL_app h2 g)
theorem atL_drop : ∀ {n : Nat} {ds : List Dt} {xs : List V}, AtL K H ds xs → AtL K H (ds.drop n) (xs.drop n)
  | 0, _, _, h => h
  | n + 1, [], _, h => by unfold AtL at h; rw [h]; exact atL_nil
  | n + 1, c :: ds, xs, h => by
    unfold AtL at h
    obtain ⟨y, zs, rfl, h1, h2⟩ := h
    show AtL K H (ds.drop n) (zs.drop n)
    exact atL_drop h2
/-- a text as data -/
def strD (z : Str) : Dt := .at_ (.str z)
theorem at_strD {z : Str} : At K H (strD z) (.str z) := by unfold strD At; exact ⟨rfl, rfl⟩
theorem atL_strs : ∀ {r : List Str}, AtL K H (r.map strD) (r.map V.str)
  | [] => atL_nil
  | _ :: _ => atL_cons at_strD atL_strs
theorem atL_strs' : ∀ {r : List Str} {xs : List V}, AtL K H (r.map strD) xs → xs = r.map V.str
  | [], xs, h => by unfold List.map AtL at h; exact h
  | z :: r, xs, h => by
    rw [List.map_cons] at h
    unfold AtL at h
    obtain ⟨y, ys, rfl, h1, h2⟩ := h
    unfold strD At at h1
    rw [h1.1, atL_strs' h2]
    rfl
/-- a tuple of texts, a list of texts -/
theorem at_tupS {a : Addr} {r : List Str} (h : SqT K H a (r.map V.str)) : At K H (.tup (r.map strD)) (.ref a) := by unfold At; exact ⟨a, _, rfl, h, atL_strs⟩
theorem at_tupS' {x : V} {r : List Str} (h : At K H (.tup (r.map strD)) x) : ∃ a, x = .ref a ∧ SqT K H a (r.map V.str) := by
  unfold At at h
  obtain ⟨a, xs, e, q, h⟩ := h
  rw [atL_strs' h] at q
  exact ⟨a, e, q⟩
theorem at_lstS {a : Addr} {r : List Str} (h : SqL K H a (r.map V.str)) : At K H (.lst (r.map strD)) (.ref a) := by unfold At; exact ⟨a, _, rfl, h, atL_strs⟩
theorem at_tup {a : Addr} {ds : List Dt} {xs : List V} (h : SqT K H a xs) (g : AtL K H ds xs) : At K H (.tup ds) (.ref a) := by unfold At; exact ⟨a, xs, rfl, h, g⟩
theorem at_lst {a : Addr} {ds : List Dt} {xs : List V} (h : SqL K H a xs) (g : AtL K H ds xs) : At K H (.lst ds) (.ref a) := by unfold At; exact ⟨a, xs, rfl, h, g⟩
theorem at_tup' {x : V} {ds : List Dt} (h : At K H (.tup ds) x) : ∃ a xs, x = .ref a ∧ SqT K H a xs ∧ AtL K H ds xs := by unfold At at h; exact h
theorem at_flat {v : V} (f : flatV v = true) : At K H (.at_ v) v := by unfold At; exact ⟨rfl, f⟩
end
theorem deq_strD (a b : Str) : deq (strD a) (strD b) = decide (a = b) := by
  unfold strD deq
  show (a == b) = _
  rw [Bool.beq_eq_decide_eq]
theorem deqs_map {α : Type} [DecidableEq α] {f : α → Dt} (h : ∀ a b, deq (f a) (f b) = decide (a = b)) : ∀ (l l' : List α), deqs (l.map f) (l'.map f) = decide (l = l')
  | [], [] => by unfold List.map deqs; rfl
  | [], _ :: _ => by unfold List.map deqs; rfl
  | _ :: _, [] => by unfold List.map deqs; rfl
  | a :: l, b :: l' => by
    rw [List.map_cons, List.map_cons]
    unfold deqs
    rw [h, deqs_map h l l', Bool.eq_iff_iff, Bool.and_eq_true, decide_eq_true_iff, decide_eq_true_iff, decide_eq_true_iff, List.cons.injEq]
theorem deps_map {α : Type} {f : α → Dt} {n : Nat} (h : ∀ a, dep (f a) ≤ n) : ∀ (l : List α), deps (l.map f) ≤ n
  | [] => by unfold List.map deps; exact Nat.zero_le _
  | a :: l => by
    rw [List.map_cons]
    unfold deps
    exact Nat.max_le.mpr ⟨h a, deps_map h l⟩
theorem dep_strD (z : Str) : dep (strD z) ≤ 0 := by unfold strD dep; exact Nat.le_refl _
def TKeep (K : PySem.W.Frag) (H H' : Hp) : Prop := ∀ a xs, SqT K H a xs → SqT K H' a xs
section
variable {K : PySem.W.Frag} {H H' : Hp}
theorem TKeep.lst {l : Addr} {ys zs : List V} (h : H l = some (.lst ys)) : TKeep K H (upd H l (.lst zs)) := fun a xs q => by
  rcases q with (q | ⟨o, q⟩) | q
  · have ne : a ≠ l := fun e => by subst e; rw [h] at q; cases q
    exact .inl (.inl (by rw [upd_ne ne]; exact q))
  · have ne : a ≠ l := fun e => by subst e; rw [h] at q; cases q
    exact .inl (.inr ⟨o, by rw [upd_ne ne]; exact q⟩)
  · exact .inr q
theorem tupS_keep {x : V} {r : List Str} (h : At K H (.tup (r.map strD)) x) (k : TKeep K H H') : At K H' (.tup (r.map strD)) x := by
  obtain ⟨a, rfl, q⟩ := at_tupS' h
  exact at_tupS (k _ _ q)
theorem rowsS_keep (k : TKeep K H H') : ∀ {rs : List (List Str)} {xs : List V}, AtL K H (rs.map fun r => .tup (r.map strD)) xs → AtL K H' (rs.map fun r => .tup (r.map strD)) xs
  | [], xs, h => by rw [List.map_nil] at h ⊢; unfold AtL at h ⊢; exact h
  | r :: rs, xs, h => by
    rw [List.map_cons] at h ⊢
    unfold AtL at h
    obtain ⟨y, ys, rfl, h1, h2⟩ := h
    exact atL_cons (tupS_keep h1 k) (rowsS_keep k h2)
/-- a comprehension whose items are all True -/
theorem all_true {J : It} {its : List V} {ok : Hp → Prop} {te : DE} {σ : St} {D : Addr} {R : Hp → Prop} (Y : Yields J its ok) (Sg : St → Prop) (hD : H D = none) (hok : ∀ H1, Same H H1 → ok H1) (hn : its.length < sizeLine) (hσ : Sg σ) (hS : ∀ σ x, Sg σ → Sg (σ.set 0 (some x)))
    (he : ∀ x σ H1 Q1, x ∈ its → Sg σ → Same H H1 → (∀ H2, Same H1 H2 → Q1 (.bl true) H2) → te (σ.set 0 (some x)) H1 Q1 (fun _ _ => False)) (k : ∀ H', Same H H' → SqL K H' D ((its.map fun _ => true).map V.bl) → R H') :
    CmpW J (gdN 0) dYes te D R σ (upd H D (.lst [])) := by
  refine cmp_map Y Sg (fun _ => true) (fun _ => .bl true) hD hok hn hσ ?_ ?_
  · intro x σ H1 hx hs S Fin Skip hF hK
    exact he x σ H1 _ hx hs S fun H2 S2 => hF _ _ _ (hS _ _ hs) S2 rfl rfl
  · intro H' S hD'
    exact k H' S (SqL.of (hD'.trans (by rw [List.filter_eq_self.mpr (fun _ _ => rfl), List.map_map]; rfl)))
theorem all_yes (its : List V) : ((its.map fun _ => true).all fun b => b) = true := by rw [List.all_map, List.all_eq_true]; exact fun _ _ => rfl
end
end L2

section
open PySem PySem.W PyProof.Rows
set_option maxRecDepth 100000
set_option maxHeartbeats 0
def PySem.W.Fast.tw5492055087118300418 : Unit := ()
def PySem.W.Fast.tw17645213844320508419 : Unit := ()
def PySem.W.Fast.tw9167976149474548228 : Unit := ()
def PySem.W.Fast.tw4928133292842493898 : Unit := ()
def PySem.W.Fast.tw2600006001649315693 : Unit := ()
def PySem.W.Fast.tw13177348238876858225 : Unit := ()
def PySem.W.Fast.tw8967752244060196499 : Unit := ()
def PySem.W.Fast.tw14388188407331639416 : Unit := ()
def PySem.W.Fast.tw6397972082683827482 : Unit := ()
def PySem.W.Fast.tw10879916976263490749 : Unit := ()
def PySem.W.Fast.tw12365935057769429727 : Unit := ()
open_top head_k22 for PySem.Challenge.rw_manyleaf_k22_contents_joined
end

set_option maxRecDepth 100000
set_option maxHeartbeats 4000000
namespace K22
open PySem L2
structure Adr where
  f_has_length : Addr
  d_has_length : FuncData
  f_is_text_sign : Addr
  d_is_text_sign : FuncData
  f_is_text : Addr
  d_is_text : FuncData
  f_Kind_fits : Addr
  d_Kind_fits : FuncData
  f_is_clash : Addr
  d_is_clash : FuncData
  f_settled : Addr
  d_settled : FuncData
  f_joined_whole : Addr
  d_joined_whole : FuncData
  f_Kind_joined : Addr
  d_Kind_joined : FuncData
  f_is_tuple_of : Addr
  d_is_tuple_of : FuncData
  f_is_row : Addr
  d_is_row : FuncData
  f_Table_fits : Addr
  d_Table_fits : FuncData
  f_shape_of : Addr
  d_shape_of : FuncData
  f_joined_cells : Addr
  d_joined_cells : FuncData
  f_Table_joined : Addr
  d_Table_joined : FuncData
  f_Chapter_word : Addr
  d_Chapter_word : FuncData
  f_Para_word : Addr
  d_Para_word : FuncData
  f_Table_word : Addr
  d_Table_word : FuncData
  f_kind_of_word : Addr
  d_kind_of_word : FuncData
  f_law_cell : Addr
  d_law_cell : FuncData
  f_law_stream : Addr
  d_law_stream : FuncData
  f_law_text : Addr
  d_law_text : FuncData
  f_law_table : Addr
  d_law_table : FuncData
  f_law_content : Addr
  d_law_content : FuncData
  f_law_cells_changed : Addr
  d_law_cells_changed : FuncData
  f_law_made : Addr
  d_law_made : FuncData
  f_law_joined : Addr
  d_law_joined : FuncData
  f_law_same : Addr
  d_law_same : FuncData
  f_law : Addr
  d_law : FuncData
  c_Chapter : Addr
  c_Para : Addr
  c_Table : Addr
  u_LONGEST_TEXT : Value
  u_PERCENT_SIGN : Value
  u_MOST_ROWS : Value
  u_MOST_CELLS : Value
end K22

set_option maxRecDepth 100000
set_option maxHeartbeats 4000000
namespace K22
open PySem L2
def textC (c : Nat) : Bool := (decide (32 ≤ c) && decide (c ≤ 126)) && c != 37
def wfS (z : Str) : Prop := z.length ≤ 60 ∧ z.cps.toList.all textC = true
abbrev Tb := List (List Str)
def wfR (m : Nat) (r : List Str) : Prop := r.length = m ∧ ∀ z ∈ r, wfS z
def wfT (t : Tb) : Prop := 1 ≤ t.length ∧ t.length ≤ 6 ∧ ∃ m, 1 ≤ m ∧ m ≤ 6 ∧ ∀ r ∈ t, wfR m r
inductive Ct where
  | txt (z : Str)
  | tab (t : Tb)
  deriving DecidableEq
def rowD (r : List Str) : Dt := .tup (r.map strD)
def tabD (t : Tb) : Dt := .tup (t.map rowD)
def CtAt (K : PySem.W.Frag) (H : Hp) : Ct → V → Prop
  | .txt z, x => x = .str z
  | .tab t, x => At K H (tabD t) x
def Ct.wf : Ct → Prop
  | .txt z => wfS z
  | .tab t => wfT t
def isTab : Ct → Bool
  | .txt _ => false
  | .tab _ => true
section
variable {α : Type} [DecidableEq α]
def clash (b o p : α) : Bool := !decide (o = p) && (!decide (o = b) && !decide (p = b))
def settle (b o p : α) : α := if clash b o p = true then b else if o = b then p else o
def whole (b o p : α) : α × List Str := (settle b o p, if clash b o p = true then ["content"] else [])
end
def cell (t : Tb) (i j : Nat) : Str := (t.getD i []).getD j Str.empty
def wordC (i j : Nat) : Str := "cell " ++ toString (i : Int) ++ " " ++ toString (j : Int)
def rowJ (b o p : Tb) (i n : Nat) : List Str := (List.range n).map fun j => settle (cell b i j) (cell o i j) (cell p i j)
def rowW (b o p : Tb) (i n : Nat) : List Str := (List.range n).flatMap fun j => if clash (cell b i j) (cell o i j) (cell p i j) = true then [wordC i j] else []
def joinT (b o p : Tb) (m n : Nat) : Tb := (List.range m).map fun i => rowJ b o p i n
def wordsT (b o p : Tb) (m n : Nat) : List Str := (List.range m).flatMap fun i => rowW b o p i n
def shape (t : Tb) : Nat × Nat := (t.length, (t.getD 0 []).length)
def joinC : Ct → Ct → Ct → Ct × List Str
  | .tab b, .tab o, .tab p => if clash b o p = true ∧ shape o = shape b ∧ shape p = shape b then (.tab (joinT b o p (shape b).1 (shape b).2), wordsT b o p (shape b).1 (shape b).2) else whole (Ct.tab b) (.tab o) (.tab p)
  | b, o, p => whole b o p
/-- a pair of a content and a list of words, made since H -/
def ResAt (K : PySem.W.Frag) (H H' : Hp) (c : Ct × List Str) (r : Addr) : Prop := ∃ x l, H' r = some (.tup [x, .ref l]) ∧ CtAt K H' c.1 x ∧ H' l = some (.lst (c.2.map V.str)) ∧ H r = none ∧ H l = none
structure Facts (K : PySem.W.Frag) (t : Adr) : Prop where
  ok : True
def kindS (w : Str) : Prop := w = "chapter" ∨ w = "para" ∨ w = "table"
def tabS (w : Str) : Bool := decide (w = "table")
section
def sp_has_length (K : PySem.W.Frag) (t : Adr) : Sp := fun vs H Q _ => ∃ (z : Str) (lo hi : Int), vs = [.str z, .int lo, .int hi] ∧ z.length ≤ 1000 ∧ Q (.bl (decide (lo ≤ (z.length : Int)) && decide ((z.length : Int) ≤ hi))) H
def sp_is_text_sign (K : PySem.W.Frag) (t : Adr) : Sp := fun vs H Q _ => ∃ c, vs = [.str ⟨#[c]⟩] ∧ Q (.bl (textC c)) H
def sp_is_text (K : PySem.W.Frag) (t : Adr) : Sp := fun vs H Q _ => ∃ z, vs = [.str z] ∧ wfS z ∧ ∀ H', Same H H' → Q (.bl true) H'
def sp_Kind_fits (K : PySem.W.Frag) (t : Adr) : Sp := fun vs H Q _ => ∃ s z, vs = [s, .str z] ∧ wfS z ∧ ∀ H', Same H H' → Q (.bl true) H'
def three (K : PySem.W.Frag) (H : Hp) (x y z : V) (b o p : Ct) : Prop := CtAt K H b x ∧ CtAt K H o y ∧ CtAt K H p z ∧ isTab o = isTab b ∧ isTab p = isTab b
def sp_is_clash (K : PySem.W.Frag) (t : Adr) : Sp := fun vs H Q _ => ∃ x y z b o p, vs = [x, y, z] ∧ three K H x y z b o p ∧ Q (.bl (clash b o p)) H
def sp_settled (K : PySem.W.Frag) (t : Adr) : Sp := fun vs H Q _ => ∃ x y z b o p, vs = [x, y, z] ∧ three K H x y z b o p ∧ ∀ u, CtAt K H (settle b o p) u → Q u H
def sp_joined_whole (K : PySem.W.Frag) (t : Adr) : Sp := fun vs H Q _ => ∃ x y z b o p, vs = [x, y, z] ∧ three K H x y z b o p ∧ ∀ H' r, Same H H' → ResAt K H H' (whole b o p) r → Q (.ref r) H'
def sp_Kind_joined (K : PySem.W.Frag) (t : Adr) : Sp := fun vs H Q _ => ∃ s x y z b o p, vs = [s, .str x, .str y, .str z] ∧ (b, o, p) = (x, y, z) ∧ ∀ H' r, Same H H' → ResAt K H H' (whole (Ct.txt b) (.txt o) (.txt p)) r → Q (.ref r) H'
def sp_is_tuple_of (K : PySem.W.Frag) (t : Adr) : Sp := fun vs H Q _ => ∃ (a : Addr) (xs : List V) (m : Int), vs = [.ref a, .int m] ∧ SqT K H a xs ∧ Q (.bl (decide (1 ≤ (xs.length : Int)) && decide ((xs.length : Int) ≤ m))) H
def sp_is_row (K : PySem.W.Frag) (t : Adr) : Sp := fun vs H Q _ => ∃ x r m, vs = [x] ∧ At K H (rowD r) x ∧ 1 ≤ m ∧ m ≤ 6 ∧ wfR m r ∧ ∀ H', Same H H' → Q (.bl true) H'
def sp_Table_fits (K : PySem.W.Frag) (t : Adr) : Sp := fun vs H Q _ => ∃ s x c, vs = [s, x] ∧ At K H (tabD c) x ∧ wfT c ∧ ∀ H', Same H H' → Q (.bl true) H'
def sp_shape_of (K : PySem.W.Frag) (t : Adr) : Sp := fun vs H Q _ => ∃ x c, vs = [x] ∧ At K H (tabD c) x ∧ 1 ≤ c.length ∧ ∀ H' r, Same H H' → H' r = some (.tup [.int (shape c).1, .int (shape c).2]) → H r = none → Q (.ref r) H'
def sp_joined_cells (K : PySem.W.Frag) (t : Adr) : Sp := fun vs H Q _ => ∃ x y z b o p, vs = [x, y, z] ∧ At K H (tabD b) x ∧ At K H (tabD o) y ∧ At K H (tabD p) z ∧ wfT b ∧ wfT o ∧ wfT p ∧ shape o = shape b ∧ shape p = shape b ∧
  ∀ H' r, Same H H' → ResAt K H H' (.tab (joinT b o p (shape b).1 (shape b).2), wordsT b o p (shape b).1 (shape b).2) r → Q (.ref r) H'
def sp_Table_joined (K : PySem.W.Frag) (t : Adr) : Sp := fun vs H Q _ => ∃ s x y z b o p, vs = [s, x, y, z] ∧ At K H (tabD b) x ∧ At K H (tabD o) y ∧ At K H (tabD p) z ∧ wfT b ∧ wfT o ∧ wfT p ∧
  ∀ H' r, Same H H' → ResAt K H H' (joinC (.tab b) (.tab o) (.tab p)) r → Q (.ref r) H'
def sp_word (w : Str) : Sp := fun vs H Q _ => ∃ s, vs = [s] ∧ Q (.str w) H
def sp_Chapter_word (K : PySem.W.Frag) (t : Adr) : Sp := sp_word "chapter"
def sp_Para_word (K : PySem.W.Frag) (t : Adr) : Sp := sp_word "para"
def sp_Table_word (K : PySem.W.Frag) (t : Adr) : Sp := sp_word "table"
def clsOf (t : Adr) (w : Str) : Addr := if w = "chapter" then t.c_Chapter else if w = "para" then t.c_Para else t.c_Table
def sp_kind_of_word (K : PySem.W.Frag) (t : Adr) : Sp := fun vs H Q _ => ∃ w, vs = [.str w] ∧ kindS w ∧ ∀ H' a dx, Same H H' → H' a = some (.ins (clsOf t w) dx []) → Q (.ref a) H'
def sp_law_cell (K : PySem.W.Frag) (t : Adr) : Sp := fun vs H Q _ => ∃ (a : Addr) (ns : List Int) (k : Nat), vs = [.ref a, .int k] ∧ SqL K H a (ns.map V.int) ∧ ∀ r : Int, Q (.int r) H
def sp_law_stream (K : PySem.W.Frag) (t : Adr) : Sp := fun vs H Q _ => ∃ (c : Int) (n : Nat), vs = [.int c, .int n] ∧ n ≤ 100 ∧ ∀ H' l (ns : List Int), Same H H' → H l = none → H' l = some (.lst (ns.map V.int)) → ns.length = n → (∀ i ∈ ns, 0 ≤ i ∧ i < 2147483648) → Q (.ref l) H'
def sp_law_text (K : PySem.W.Frag) (t : Adr) : Sp := fun vs H Q _ => ∃ c : Int, vs = [.int c] ∧ ∀ z H', Same H H' → wfS z → Q (.str z) H'
def sp_law_table (K : PySem.W.Frag) (t : Adr) : Sp := fun vs H Q _ => ∃ c : Int, vs = [.int c] ∧ ∀ c H' x, Same H H' → wfT c → At K H' (tabD c) x → Q x H'
def sp_law_content (K : PySem.W.Frag) (t : Adr) : Sp := fun vs H Q _ => ∃ (w : Str) (c : Int), vs = [.str w, .int c] ∧ ∀ ct H' x, Same H H' → ct.wf → isTab ct = tabS w → CtAt K H' ct x → Q x H'
def sp_law_cells_changed (K : PySem.W.Frag) (t : Adr) : Sp := fun vs H Q _ => ∃ (x : V) (b : Tb) (c : Int), vs = [x, .int c] ∧ At K H (tabD b) x ∧ wfT b ∧ ∀ c H' x, Same H H' → wfT c → At K H' (tabD c) x → Q x H'
def sp_law_made (K : PySem.W.Frag) (t : Adr) : Sp := fun vs H Q _ => ∃ (w : Str) (x : V) (b : Ct) (c : Int), vs = [.str w, x, .int c] ∧ CtAt K H b x ∧ b.wf ∧ isTab b = tabS w ∧ ∀ ct H' x, Same H H' → ct.wf → isTab ct = tabS w → CtAt K H' ct x → Q x H'
def sp_law_joined0 (K : PySem.W.Frag) (t : Adr) : Sp := fun vs H Q _ => ∃ b o p, vs = [.str "cell", .str b, .str o, .str p] ∧ ∀ H' r, Same H H' → ResAt K H H' (whole (Ct.txt b) (.txt o) (.txt p)) r → Q (.ref r) H'
def sp_law_joined (K : PySem.W.Frag) (t : Adr) : Sp := fun vs H Q _ => ∃ w x y z b o p, vs = [.str w, x, y, z] ∧ three K H x y z b o p ∧ b.wf ∧ o.wf ∧ p.wf ∧ isTab b = tabS w ∧ ∀ H' r, Same H H' → ResAt K H H' (joinC b o p) r → Q (.ref r) H'
def sp_law_same (K : PySem.W.Frag) (t : Adr) : Sp := fun vs H Q _ => ∃ (r q : Addr) (x y : V) (l m : Addr) (c d : Ct) (ws us : List Str), vs = [.ref r, .ref q] ∧ H r = some (.tup [x, .ref l]) ∧ H q = some (.tup [y, .ref m]) ∧ CtAt K H c x ∧ CtAt K H d y ∧ isTab c = isTab d ∧
  H l = some (.lst (ws.map V.str)) ∧ H m = some (.lst (us.map V.str)) ∧ Q (.bl (decide (c = d) && decide (ws = us))) H
def sp_law (K : PySem.W.Frag) (t : Adr) : Sp := fun vs H Q _ => ∃ (a : Addr) (ns : List Int), vs = [.ref a] ∧ SqL K H a (ns.map V.int) ∧ ns.length ≤ 63 ∧ ∀ H', Q (.bl true) H'
end
end K22

set_option maxRecDepth 100000
set_option maxHeartbeats 4000000
namespace K22
open PySem L2
def top (i : Nat) : Stmt := PySem.Challenge.pw_manyleaf_k22_contents_joined.main.body.getD i (.Pass ⟨0, 0, 0, 0⟩)
def bl : List Str := ["all", "enumerate", "int", "isinstance", "len", "list", "ord", "range", "str", "tuple"]
section
variable (K : PySem.W.Frag) (t : Adr)
abbrev s_has_length : Stmt := top 5
abbrev N_has_length : List Str := ["thing", "least", "greatest"]
abbrev P_has_length : List Str := ["thing", "least", "greatest"]
def i_has_length : FI := ⟨t.f_has_length, t.d_has_length, P_has_length, 1, sp_has_length K t, [], []⟩
abbrev s_is_text_sign : Stmt := top 6
abbrev N_is_text_sign : List Str := ["sign"]
abbrev P_is_text_sign : List Str := ["sign"]
def i_is_text_sign : FI := ⟨t.f_is_text_sign, t.d_is_text_sign, P_is_text_sign, 1, sp_is_text_sign K t, [], []⟩
abbrev s_is_text : Stmt := top 4
abbrev N_is_text : List Str := ["thing"]
abbrev P_is_text : List Str := ["thing"]
def i_is_text : FI := ⟨t.f_is_text, t.d_is_text, P_is_text, 2, sp_is_text K t, [], []⟩
abbrev s_Kind_fits : Stmt := inClass (top 10) 1
abbrev N_Kind_fits : List Str := ["self", "content"]
abbrev P_Kind_fits : List Str := ["self", "content"]
def i_Kind_fits : FI := ⟨t.f_Kind_fits, t.d_Kind_fits, P_Kind_fits, 3, sp_Kind_fits K t, [], []⟩
abbrev s_is_clash : Stmt := top 17
abbrev N_is_clash : List Str := ["base", "one", "other"]
abbrev P_is_clash : List Str := ["base", "one", "other"]
def i_is_clash : FI := ⟨t.f_is_clash, t.d_is_clash, P_is_clash, 1, sp_is_clash K t, [], []⟩
abbrev s_settled : Stmt := top 19
abbrev N_settled : List Str := ["base", "one", "other"]
abbrev P_settled : List Str := ["base", "one", "other"]
def i_settled : FI := ⟨t.f_settled, t.d_settled, P_settled, 2, sp_settled K t, [], []⟩
abbrev s_joined_whole : Stmt := top 18
abbrev N_joined_whole : List Str := ["base", "one", "other"]
abbrev P_joined_whole : List Str := ["base", "one", "other"]
def i_joined_whole : FI := ⟨t.f_joined_whole, t.d_joined_whole, P_joined_whole, 3, sp_joined_whole K t, [], []⟩
abbrev s_Kind_joined : Stmt := inClass (top 10) 4
abbrev N_Kind_joined : List Str := ["self", "base", "one", "other"]
abbrev P_Kind_joined : List Str := ["self", "base", "one", "other"]
def i_Kind_joined : FI := ⟨t.f_Kind_joined, t.d_Kind_joined, P_Kind_joined, 4, sp_Kind_joined K t, [], []⟩
abbrev s_is_tuple_of : Stmt := top 15
abbrev N_is_tuple_of : List Str := ["thing", "most"]
abbrev P_is_tuple_of : List Str := ["thing", "most"]
def i_is_tuple_of : FI := ⟨t.f_is_tuple_of, t.d_is_tuple_of, P_is_tuple_of, 1, sp_is_tuple_of K t, [], []⟩
abbrev s_is_row : Stmt := top 16
abbrev N_is_row : List Str := ["thing"]
abbrev P_is_row : List Str := ["thing"]
def i_is_row : FI := ⟨t.f_is_row, t.d_is_row, P_is_row, 3, sp_is_row K t, [], []⟩
abbrev s_Table_fits : Stmt := inClass (top 13) 1
abbrev N_Table_fits : List Str := ["self", "content"]
abbrev P_Table_fits : List Str := ["self", "content"]
def i_Table_fits : FI := ⟨t.f_Table_fits, t.d_Table_fits, P_Table_fits, 4, sp_Table_fits K t, [], []⟩
abbrev s_shape_of : Stmt := top 20
abbrev N_shape_of : List Str := ["table"]
abbrev P_shape_of : List Str := ["table"]
def i_shape_of : FI := ⟨t.f_shape_of, t.d_shape_of, P_shape_of, 1, sp_shape_of K t, [], []⟩
abbrev s_joined_cells : Stmt := top 21
abbrev N_joined_cells : List Str := ["base", "one", "other", "rows", "words", "row", "cells", "column", "three"]
abbrev P_joined_cells : List Str := ["base", "one", "other"]
def i_joined_cells : FI := ⟨t.f_joined_cells, t.d_joined_cells, P_joined_cells, 3, sp_joined_cells K t, [], []⟩
abbrev s_Table_joined : Stmt := inClass (top 13) 4
abbrev N_Table_joined : List Str := ["self", "base", "one", "other"]
abbrev P_Table_joined : List Str := ["self", "base", "one", "other"]
def i_Table_joined : FI := ⟨t.f_Table_joined, t.d_Table_joined, P_Table_joined, 4, sp_Table_joined K t, [], []⟩
abbrev s_Chapter_word : Stmt := inClass (top 11) 0
abbrev N_Chapter_word : List Str := ["self"]
abbrev P_Chapter_word : List Str := ["self"]
def i_Chapter_word : FI := ⟨t.f_Chapter_word, t.d_Chapter_word, P_Chapter_word, 1, sp_Chapter_word K t, [], []⟩
abbrev s_Para_word : Stmt := inClass (top 12) 0
abbrev N_Para_word : List Str := ["self"]
abbrev P_Para_word : List Str := ["self"]
def i_Para_word : FI := ⟨t.f_Para_word, t.d_Para_word, P_Para_word, 1, sp_Para_word K t, [], []⟩
abbrev s_Table_word : Stmt := inClass (top 13) 0
abbrev N_Table_word : List Str := ["self"]
abbrev P_Table_word : List Str := ["self"]
def i_Table_word : FI := ⟨t.f_Table_word, t.d_Table_word, P_Table_word, 1, sp_Table_word K t, [], []⟩
abbrev s_kind_of_word : Stmt := top 14
abbrev N_kind_of_word : List Str := ["word", "kind"]
abbrev P_kind_of_word : List Str := ["word"]
def i_kind_of_word : FI := ⟨t.f_kind_of_word, t.d_kind_of_word, P_kind_of_word, 2, sp_kind_of_word K t, [], []⟩
abbrev s_law_cell : Stmt := top 23
abbrev N_law_cell : List Str := ["_law_script", "_law_k"]
abbrev P_law_cell : List Str := ["_law_script", "_law_k"]
def i_law_cell : FI := ⟨t.f_law_cell, t.d_law_cell, P_law_cell, 1, sp_law_cell K t, [], []⟩
abbrev s_law_stream : Stmt := top 24
abbrev N_law_stream : List Str := ["_law_cell_here", "_law_many", "_law_found", "_law_left", "_law_number", "_law_k"]
abbrev P_law_stream : List Str := ["_law_cell_here", "_law_many"]
def i_law_stream : FI := ⟨t.f_law_stream, t.d_law_stream, P_law_stream, 1, sp_law_stream K t, [], []⟩
abbrev s_law_text : Stmt := top 25
abbrev N_law_text : List Str := ["_law_cell_here", "_law_signs", "_law_xs", "_law_size", "_law_text_here", "_law_x"]
abbrev P_law_text : List Str := ["_law_cell_here"]
def i_law_text : FI := ⟨t.f_law_text, t.d_law_text, P_law_text, 2, sp_law_text K t, [], []⟩
abbrev s_law_table : Stmt := top 26
abbrev N_law_table : List Str := ["_law_cell_here", "_law_xs", "_law_many", "_law_wide", "_law_rows", "_law_j"]
abbrev P_law_table : List Str := ["_law_cell_here"]
def i_law_table : FI := ⟨t.f_law_table, t.d_law_table, P_law_table, 3, sp_law_table K t, [], []⟩
abbrev s_law_content : Stmt := top 27
abbrev N_law_content : List Str := ["_law_kind", "_law_cell_here"]
abbrev P_law_content : List Str := ["_law_kind", "_law_cell_here"]
def i_law_content : FI := ⟨t.f_law_content, t.d_law_content, P_law_content, 4, sp_law_content K t, [], []⟩
abbrev s_law_cells_changed : Stmt := top 28
abbrev N_law_cells_changed : List Str := ["_law_base", "_law_cell_here", "_law_xs", "_law_rows", "_law_j", "_law_row", "_law_k", "_law_x"]
abbrev P_law_cells_changed : List Str := ["_law_base", "_law_cell_here"]
def i_law_cells_changed : FI := ⟨t.f_law_cells_changed, t.d_law_cells_changed, P_law_cells_changed, 2, sp_law_cells_changed K t, [], []⟩
abbrev s_law_made : Stmt := top 29
abbrev N_law_made : List Str := ["_law_kind", "_law_base", "_law_cell_here", "_law_way"]
abbrev P_law_made : List Str := ["_law_kind", "_law_base", "_law_cell_here"]
def i_law_made : FI := ⟨t.f_law_made, t.d_law_made, P_law_made, 5, sp_law_made K t, [], []⟩
abbrev s_law_joined0 : Stmt := top 30
abbrev N_law_joined0 : List Str := ["_law_kind", "_law_base", "_law_one", "_law_other", "_law_rows", "_law_sizes", "_law_words", "_law_j", "_law_cells", "_law_k", "_law_cell_here", "_law_wrong"]
abbrev P_law_joined0 : List Str := ["_law_kind", "_law_base", "_law_one", "_law_other"]
def i_law_joined0 : FI := ⟨t.f_law_joined, t.d_law_joined, P_law_joined0, 1, sp_law_joined0 K t, [], []⟩
abbrev s_law_joined : Stmt := top 30
abbrev N_law_joined : List Str := ["_law_kind", "_law_base", "_law_one", "_law_other", "_law_rows", "_law_sizes", "_law_words", "_law_j", "_law_cells", "_law_k", "_law_cell_here", "_law_wrong"]
abbrev P_law_joined : List Str := ["_law_kind", "_law_base", "_law_one", "_law_other"]
def i_law_joined : FI := ⟨t.f_law_joined, t.d_law_joined, P_law_joined, 2, sp_law_joined K t, [], []⟩
abbrev s_law_same : Stmt := top 31
abbrev N_law_same : List Str := ["_law_found", "_law_due"]
abbrev P_law_same : List Str := ["_law_found", "_law_due"]
def i_law_same : FI := ⟨t.f_law_same, t.d_law_same, P_law_same, 1, sp_law_same K t, [], []⟩
abbrev s_law : Stmt := top 32
abbrev N_law : List Str := ["_law_script", "_law_k", "_law_word", "_law_kind", "_law_base", "_law_one", "_law_other", "_law_due", "_law_found"]
abbrev P_law : List Str := ["_law_script"]
def mt_fits : List MI := [⟨t.c_Chapter, i_Kind_fits K t⟩, ⟨t.c_Para, i_Kind_fits K t⟩, ⟨t.c_Table, i_Table_fits K t⟩]
def mt_joined : List MI := [⟨t.c_Chapter, i_Kind_joined K t⟩, ⟨t.c_Para, i_Kind_joined K t⟩, ⟨t.c_Table, i_Table_joined K t⟩]
def mt_word : List MI := [⟨t.c_Chapter, i_Chapter_word K t⟩, ⟨t.c_Para, i_Para_word K t⟩, ⟨t.c_Table, i_Table_word K t⟩]
def gb_0 (K : PySem.W.Frag) (t : Adr) : List (Str × GB) := [("Chapter", .cls t.c_Chapter none), ("Para", .cls t.c_Para none), ("Table", .cls t.c_Table none), ("LONGEST_TEXT", .val (.int 60) t.u_LONGEST_TEXT), ("PERCENT_SIGN", .val (.int 37) t.u_PERCENT_SIGN), ("MOST_ROWS", .val (.int 6) t.u_MOST_ROWS), ("MOST_CELLS", .val (.int 6) t.u_MOST_CELLS)]
def gb_1 : List (Str × GB) := ("", .met "word" (mt_word K t)) :: ("has_length", .fn (i_has_length K t)) :: ("is_text_sign", .fn (i_is_text_sign K t)) :: ("is_clash", .fn (i_is_clash K t)) :: ("is_tuple_of", .fn (i_is_tuple_of K t)) :: ("shape_of", .fn (i_shape_of K t)) :: ("_law_cell", .fn (i_law_cell K t)) :: ("_law_stream", .fn (i_law_stream K t)) :: ("_law_joined", .fn (i_law_joined0 K t)) :: ("_law_same", .fn (i_law_same K t)) :: gb_0 K t
def gb_2 : List (Str × GB) := ("is_text", .fn (i_is_text K t)) :: ("settled", .fn (i_settled K t)) :: ("kind_of_word", .fn (i_kind_of_word K t)) :: ("_law_text", .fn (i_law_text K t)) :: ("_law_cells_changed", .fn (i_law_cells_changed K t)) :: ("_law_joined", .fn (i_law_joined K t)) :: gb_1 K t
def gb_3 : List (Str × GB) := ("joined_whole", .fn (i_joined_whole K t)) :: ("is_row", .fn (i_is_row K t)) :: ("joined_cells", .fn (i_joined_cells K t)) :: ("_law_table", .fn (i_law_table K t)) :: gb_2 K t
def gb_4 : List (Str × GB) := ("", .met "fits" (mt_fits K t)) :: ("", .met "joined" (mt_joined K t)) :: ("_law_content", .fn (i_law_content K t)) :: gb_3 K t
def gb_5 : List (Str × GB) := ("_law_made", .fn (i_law_made K t)) :: gb_4 K t
end
def t_has_length (K : PySem.W.Frag) (t : Adr) : DS :=
  (dSeq (dRet (dAndV K (dFn (fun vs H Q _ => (rIsi K) vs H Q) (dCons (dVar 0) (dCons (dC (.ty "str")) dNil))) (dChain rLeD rLeD (dVar 1) (dFn (fun vs H Q _ => (rLen K) vs H Q) (dCons (dVar 0) dNil)) (dVar 2))))
  dNext)
theorem rd_has_length (K : PySem.W.Frag) (t : Adr) : wSs 40 (defG K N_has_length (defScope s_has_length) (gb_0 K t) bl) (defBody s_has_length) = t_has_length K t := by kernel_rfl
theorem sc_has_length : FnScope N_has_length P_has_length (defScope s_has_length) := ⟨rfl, rfl, rfl, by decide +kernel, rfl, by decide +kernel, by decide +kernel⟩
theorem vi_has_length : visOk N_has_length (defScope s_has_length) = true := by decide +kernel
def t_is_text_sign (K : PySem.W.Frag) (t : Adr) : DS :=
  (dSeq (dRet (dAndV K (dChain rLeD rLeD (dC (.str " ")) (dVar 0) (dC (.str "~"))) (dBin (rEqD K true) (dFn (fun vs H Q _ => rOrd vs H Q) (dCons (dVar 0) dNil)) (dC (.int 37)))))
  dNext)
theorem rd_is_text_sign (K : PySem.W.Frag) (t : Adr) : wSs 40 (defG K N_is_text_sign (defScope s_is_text_sign) (gb_0 K t) bl) (defBody s_is_text_sign) = t_is_text_sign K t := by kernel_rfl
theorem sc_is_text_sign : FnScope N_is_text_sign P_is_text_sign (defScope s_is_text_sign) := ⟨rfl, rfl, rfl, by decide +kernel, rfl, by decide +kernel, by decide +kernel⟩
theorem vi_is_text_sign : visOk N_is_text_sign (defScope s_is_text_sign) = true := by decide +kernel
def t_is_text (K : PySem.W.Frag) (t : Adr) : DS :=
  (dSeq (dRet (dAndV K (dFn (spE (sp_has_length K t) []) (dCons (dVar 0) (dCons (dC (.int 0)) (dCons (dC (.int 60)) dNil)))) (dFn (fun vs H Q _ => (rAll K) vs H Q) (dCons (dComp [none] (iVal K (dVar 0)) (gdN 0) dYes (dFn (spE (sp_is_text_sign K t) []) (dCons (dVar 0) dNil))) dNil))))
  dNext)
theorem rd_is_text (K : PySem.W.Frag) (t : Adr) : wSs 40 (defG K N_is_text (defScope s_is_text) (gb_1 K t) bl) (defBody s_is_text) = t_is_text K t := by kernel_rfl
theorem sc_is_text : FnScope N_is_text P_is_text (defScope s_is_text) := ⟨rfl, rfl, rfl, by decide +kernel, rfl, by decide +kernel, by decide +kernel⟩
theorem vi_is_text : visOk N_is_text (defScope s_is_text) = true := by decide +kernel
def t_Kind_fits (K : PySem.W.Frag) (t : Adr) : DS :=
  (dSeq (dRet (dFn (spE (sp_is_text K t) []) (dCons (dVar 1) dNil)))
  dNext)
theorem rd_Kind_fits (K : PySem.W.Frag) (t : Adr) : wSs 40 (defG K N_Kind_fits (defScope s_Kind_fits) (gb_2 K t) bl) (defBody s_Kind_fits) = t_Kind_fits K t := by kernel_rfl
theorem sc_Kind_fits : FnScope N_Kind_fits P_Kind_fits (defScope s_Kind_fits) := ⟨rfl, rfl, rfl, by decide +kernel, rfl, by decide +kernel, by decide +kernel⟩
theorem vi_Kind_fits : visOk N_Kind_fits (defScope s_Kind_fits) = true := by decide +kernel
def t_is_clash (K : PySem.W.Frag) (t : Adr) : DS :=
  (dSeq (dRet (dAndV K (dBin (rEqD K true) (dVar 1) (dVar 2)) (dAndV K (dBin (rEqD K true) (dVar 1) (dVar 0)) (dBin (rEqD K true) (dVar 2) (dVar 0)))))
  dNext)
theorem rd_is_clash (K : PySem.W.Frag) (t : Adr) : wSs 40 (defG K N_is_clash (defScope s_is_clash) (gb_0 K t) bl) (defBody s_is_clash) = t_is_clash K t := by kernel_rfl
theorem sc_is_clash : FnScope N_is_clash P_is_clash (defScope s_is_clash) := ⟨rfl, rfl, rfl, by decide +kernel, rfl, by decide +kernel, by decide +kernel⟩
theorem vi_is_clash : visOk N_is_clash (defScope s_is_clash) = true := by decide +kernel
def t_settled (K : PySem.W.Frag) (t : Adr) : DS :=
  (dSeq (dIf (dTru K (dFn (spE (sp_is_clash K t) []) (dCons (dVar 0) (dCons (dVar 1) (dCons (dVar 2) dNil))))) (dSeq (dRet (dVar 0))
    dNext) dNext)
  (dSeq (dRet (dIfE (dTst (dBin (rEqD K false) (dVar 1) (dVar 0))) (dVar 2) (dVar 1)))
  dNext))
theorem rd_settled (K : PySem.W.Frag) (t : Adr) : wSs 40 (defG K N_settled (defScope s_settled) (gb_1 K t) bl) (defBody s_settled) = t_settled K t := by kernel_rfl
theorem sc_settled : FnScope N_settled P_settled (defScope s_settled) := ⟨rfl, rfl, rfl, by decide +kernel, rfl, by decide +kernel, by decide +kernel⟩
theorem vi_settled : visOk N_settled (defScope s_settled) = true := by decide +kernel
def t_joined_whole (K : PySem.W.Frag) (t : Adr) : DS :=
  (dSeq (dIf (dTru K (dFn (spE (sp_is_clash K t) []) (dCons (dVar 0) (dCons (dVar 1) (dCons (dVar 2) dNil))))) (dSeq (dRet (dTup (dCons (dVar 0) (dCons (dLst (dCons (dC (.str "content")) dNil)) dNil))))
    dNext) dNext)
  (dSeq (dRet (dTup (dCons (dFn (spE (sp_settled K t) []) (dCons (dVar 0) (dCons (dVar 1) (dCons (dVar 2) dNil)))) (dCons (dLst dNil) dNil))))
  dNext))
theorem rd_joined_whole (K : PySem.W.Frag) (t : Adr) : wSs 40 (defG K N_joined_whole (defScope s_joined_whole) (gb_2 K t) bl) (defBody s_joined_whole) = t_joined_whole K t := by kernel_rfl
theorem sc_joined_whole : FnScope N_joined_whole P_joined_whole (defScope s_joined_whole) := ⟨rfl, rfl, rfl, by decide +kernel, rfl, by decide +kernel, by decide +kernel⟩
theorem vi_joined_whole : visOk N_joined_whole (defScope s_joined_whole) = true := by decide +kernel
def t_Kind_joined (K : PySem.W.Frag) (t : Adr) : DS :=
  (dSeq (dRet (dFn (spE (sp_joined_whole K t) []) (dCons (dVar 1) (dCons (dVar 2) (dCons (dVar 3) dNil)))))
  dNext)
theorem rd_Kind_joined (K : PySem.W.Frag) (t : Adr) : wSs 40 (defG K N_Kind_joined (defScope s_Kind_joined) (gb_3 K t) bl) (defBody s_Kind_joined) = t_Kind_joined K t := by kernel_rfl
theorem sc_Kind_joined : FnScope N_Kind_joined P_Kind_joined (defScope s_Kind_joined) := ⟨rfl, rfl, rfl, by decide +kernel, rfl, by decide +kernel, by decide +kernel⟩
theorem vi_Kind_joined : visOk N_Kind_joined (defScope s_Kind_joined) = true := by decide +kernel
def t_is_tuple_of (K : PySem.W.Frag) (t : Adr) : DS :=
  (dSeq (dRet (dAndV K (dFn (fun vs H Q _ => (rIsi K) vs H Q) (dCons (dVar 0) (dCons (dC (.ty "tuple")) dNil))) (dChain rLeD rLeD (dC (.int 1)) (dFn (fun vs H Q _ => (rLen K) vs H Q) (dCons (dVar 0) dNil)) (dVar 1))))
  dNext)
theorem rd_is_tuple_of (K : PySem.W.Frag) (t : Adr) : wSs 40 (defG K N_is_tuple_of (defScope s_is_tuple_of) (gb_0 K t) bl) (defBody s_is_tuple_of) = t_is_tuple_of K t := by kernel_rfl
theorem sc_is_tuple_of : FnScope N_is_tuple_of P_is_tuple_of (defScope s_is_tuple_of) := ⟨rfl, rfl, rfl, by decide +kernel, rfl, by decide +kernel, by decide +kernel⟩
theorem vi_is_tuple_of : visOk N_is_tuple_of (defScope s_is_tuple_of) = true := by decide +kernel
def t_is_row (K : PySem.W.Frag) (t : Adr) : DS :=
  (dSeq (dRet (dAndV K (dFn (spE (sp_is_tuple_of K t) []) (dCons (dVar 0) (dCons (dC (.int 6)) dNil))) (dFn (fun vs H Q _ => (rAll K) vs H Q) (dCons (dComp [none] (iVal K (dVar 0)) (gdN 0) dYes (dFn (spE (sp_is_text K t) []) (dCons (dVar 0) dNil))) dNil))))
  dNext)
theorem rd_is_row (K : PySem.W.Frag) (t : Adr) : wSs 40 (defG K N_is_row (defScope s_is_row) (gb_2 K t) bl) (defBody s_is_row) = t_is_row K t := by kernel_rfl
theorem sc_is_row : FnScope N_is_row P_is_row (defScope s_is_row) := ⟨rfl, rfl, rfl, by decide +kernel, rfl, by decide +kernel, by decide +kernel⟩
theorem vi_is_row : visOk N_is_row (defScope s_is_row) = true := by decide +kernel
def t_Table_fits (K : PySem.W.Frag) (t : Adr) : DS :=
  (dSeq (dIf (dOr (dNot (dTru K (dFn (spE (sp_is_tuple_of K t) []) (dCons (dVar 1) (dCons (dC (.int 6)) dNil))))) (dNot (dTru K (dFn (fun vs H Q _ => (rAll K) vs H Q) (dCons (dComp [none] (iVal K (dVar 1)) (gdN 0) dYes (dFn (spE (sp_is_row K t) []) (dCons (dVar 0) dNil))) dNil))))) (dSeq (dRet (dC (.bl false)))
    dNext) dNext)
  (dSeq (dRet (dFn (fun vs H Q _ => (rAll K) vs H Q) (dCons (dComp [none, some 1] (iVal K (dVar 1)) (gdN 0) dYes (dBin (rEqD K false) (dFn (fun vs H Q _ => (rLen K) vs H Q) (dCons (dVar 0) dNil)) (dFn (fun vs H Q _ => (rLen K) vs H Q) (dCons (dBin (rIxD K) (dVar 1) (dC (.int 0))) dNil)))) dNil)))
  dNext))
theorem rd_Table_fits (K : PySem.W.Frag) (t : Adr) : wSs 40 (defG K N_Table_fits (defScope s_Table_fits) (gb_3 K t) bl) (defBody s_Table_fits) = t_Table_fits K t := by kernel_rfl
theorem sc_Table_fits : FnScope N_Table_fits P_Table_fits (defScope s_Table_fits) := ⟨rfl, rfl, rfl, by decide +kernel, rfl, by decide +kernel, by decide +kernel⟩
theorem vi_Table_fits : visOk N_Table_fits (defScope s_Table_fits) = true := by decide +kernel
def t_shape_of (K : PySem.W.Frag) (t : Adr) : DS :=
  (dSeq (dRet (dTup (dCons (dFn (fun vs H Q _ => (rLen K) vs H Q) (dCons (dVar 0) dNil)) (dCons (dFn (fun vs H Q _ => (rLen K) vs H Q) (dCons (dBin (rIxD K) (dVar 0) (dC (.int 0))) dNil)) dNil))))
  dNext)
theorem rd_shape_of (K : PySem.W.Frag) (t : Adr) : wSs 40 (defG K N_shape_of (defScope s_shape_of) (gb_0 K t) bl) (defBody s_shape_of) = t_shape_of K t := by kernel_rfl
theorem sc_shape_of : FnScope N_shape_of P_shape_of (defScope s_shape_of) := ⟨rfl, rfl, rfl, by decide +kernel, rfl, by decide +kernel, by decide +kernel⟩
theorem vi_shape_of : visOk N_shape_of (defScope s_shape_of) = true := by decide +kernel
def t_joined_cells (K : PySem.W.Frag) (t : Adr) : DS :=
  (dSeq (dSet 3 (dLst dNil))
  (dSeq (dSet 4 (dLst dNil))
  (dSeq (dFor (iRng (dCons (dFn (fun vs H Q _ => (rLen K) vs H Q) (dCons (dVar 0) dNil)) dNil)) (gdN 5) (dSeq (dSet 6 (dLst dNil))
    (dSeq (dFor (iRng (dCons (dFn (fun vs H Q _ => (rLen K) vs H Q) (dCons (dBin (rIxD K) (dVar 0) (dVar 5)) dNil)) dNil)) (gdN 7) (dSeq (dSet 8 (dTup (dCons (dBin (rIxD K) (dBin (rIxD K) (dVar 0) (dVar 5)) (dVar 7)) (dCons (dBin (rIxD K) (dBin (rIxD K) (dVar 1) (dVar 5)) (dVar 7)) (dCons (dBin (rIxD K) (dBin (rIxD K) (dVar 2) (dVar 5)) (dVar 7)) dNil)))))
      (dSeq (dDrop (dMt (rMt K [⟨"list", "list.append", rAppend⟩]) (dVar 6) (dCons (dFn (spE (sp_settled K t) []) (dCons (dBin (rIxD K) (dVar 8) (dC (.int 0))) (dCons (dBin (rIxD K) (dVar 8) (dC (.int 1))) (dCons (dBin (rIxD K) (dVar 8) (dC (.int 2))) dNil)))) dNil)))
      (dSeq (dIf (dTru K (dFn (spE (sp_is_clash K t) []) (dCons (dBin (rIxD K) (dVar 8) (dC (.int 0))) (dCons (dBin (rIxD K) (dVar 8) (dC (.int 1))) (dCons (dBin (rIxD K) (dVar 8) (dC (.int 2))) dNil))))) (dSeq (dDrop (dMt (rMt K [⟨"list", "list.append", rAppend⟩]) (dVar 4) (dCons (dJoin Str.empty [(dC (.str "cell ")), (dUn rFmt (dVar 5)), (dC (.str " ")), (dUn rFmt (dVar 7))]) dNil)))
        dNext) dNext)
      dNext))))
    (dSeq (dDrop (dMt (rMt K [⟨"list", "list.append", rAppend⟩]) (dVar 3) (dCons (dFn (fun vs H Q _ => (rTupOf K) vs H Q) (dCons (dVar 6) dNil)) dNil)))
    dNext))))
  (dSeq (dRet (dTup (dCons (dFn (fun vs H Q _ => (rTupOf K) vs H Q) (dCons (dVar 3) dNil)) (dCons (dVar 4) dNil))))
  dNext))))
theorem rd_joined_cells (K : PySem.W.Frag) (t : Adr) : wSs 40 (defG K N_joined_cells (defScope s_joined_cells) (gb_2 K t) bl) (defBody s_joined_cells) = t_joined_cells K t := by kernel_rfl
theorem sc_joined_cells : FnScope N_joined_cells P_joined_cells (defScope s_joined_cells) := ⟨rfl, rfl, rfl, by decide +kernel, rfl, by decide +kernel, by decide +kernel⟩
theorem vi_joined_cells : visOk N_joined_cells (defScope s_joined_cells) = true := by decide +kernel
def t_Table_joined (K : PySem.W.Frag) (t : Adr) : DS :=
  (dSeq (dIf (dAnd (dTru K (dFn (spE (sp_is_clash K t) []) (dCons (dVar 1) (dCons (dVar 2) (dCons (dVar 3) dNil))))) (dAnd (dTst (dBin (rEqD K false) (dFn (spE (sp_shape_of K t) []) (dCons (dVar 2) dNil)) (dFn (spE (sp_shape_of K t) []) (dCons (dVar 1) dNil)))) (dTst (dBin (rEqD K false) (dFn (spE (sp_shape_of K t) []) (dCons (dVar 3) dNil)) (dFn (spE (sp_shape_of K t) []) (dCons (dVar 1) dNil)))))) (dSeq (dRet (dFn (spE (sp_joined_cells K t) []) (dCons (dVar 1) (dCons (dVar 2) (dCons (dVar 3) dNil)))))
    dNext) dNext)
  (dSeq (dRet (dFn (spE (sp_joined_whole K t) []) (dCons (dVar 1) (dCons (dVar 2) (dCons (dVar 3) dNil)))))
  dNext))
theorem rd_Table_joined (K : PySem.W.Frag) (t : Adr) : wSs 40 (defG K N_Table_joined (defScope s_Table_joined) (gb_3 K t) bl) (defBody s_Table_joined) = t_Table_joined K t := by kernel_rfl
theorem sc_Table_joined : FnScope N_Table_joined P_Table_joined (defScope s_Table_joined) := ⟨rfl, rfl, rfl, by decide +kernel, rfl, by decide +kernel, by decide +kernel⟩
theorem vi_Table_joined : visOk N_Table_joined (defScope s_Table_joined) = true := by decide +kernel
def t_Chapter_word (K : PySem.W.Frag) (t : Adr) : DS :=
  (dSeq (dRet (dC (.str "chapter")))
  dNext)
theorem rd_Chapter_word (K : PySem.W.Frag) (t : Adr) : wSs 40 (defG K N_Chapter_word (defScope s_Chapter_word) (gb_0 K t) bl) (defBody s_Chapter_word) = t_Chapter_word K t := by kernel_rfl
theorem sc_Chapter_word : FnScope N_Chapter_word P_Chapter_word (defScope s_Chapter_word) := ⟨rfl, rfl, rfl, by decide +kernel, rfl, by decide +kernel, by decide +kernel⟩
theorem vi_Chapter_word : visOk N_Chapter_word (defScope s_Chapter_word) = true := by decide +kernel
def t_Para_word (K : PySem.W.Frag) (t : Adr) : DS :=
  (dSeq (dRet (dC (.str "para")))
  dNext)
theorem rd_Para_word (K : PySem.W.Frag) (t : Adr) : wSs 40 (defG K N_Para_word (defScope s_Para_word) (gb_0 K t) bl) (defBody s_Para_word) = t_Para_word K t := by kernel_rfl
theorem sc_Para_word : FnScope N_Para_word P_Para_word (defScope s_Para_word) := ⟨rfl, rfl, rfl, by decide +kernel, rfl, by decide +kernel, by decide +kernel⟩
theorem vi_Para_word : visOk N_Para_word (defScope s_Para_word) = true := by decide +kernel
def t_Table_word (K : PySem.W.Frag) (t : Adr) : DS :=
  (dSeq (dRet (dC (.str "table")))
  dNext)
theorem rd_Table_word (K : PySem.W.Frag) (t : Adr) : wSs 40 (defG K N_Table_word (defScope s_Table_word) (gb_0 K t) bl) (defBody s_Table_word) = t_Table_word K t := by kernel_rfl
theorem sc_Table_word : FnScope N_Table_word P_Table_word (defScope s_Table_word) := ⟨rfl, rfl, rfl, by decide +kernel, rfl, by decide +kernel, by decide +kernel⟩
theorem vi_Table_word : visOk N_Table_word (defScope s_Table_word) = true := by decide +kernel
def t_kind_of_word (K : PySem.W.Frag) (t : Adr) : DS :=
  (dSeq (dIf (dNot (dTru K (dFn (fun vs H Q _ => (rIsi K) vs H Q) (dCons (dVar 0) (dCons (dC (.ty "str")) dNil))))) (dSeq (dRet (dC .non))
    dNext) dNext)
  (dSeq (dFor (iVal K (dLst (dCons (dFn (mkC t.c_Chapter none 0) dNil) (dCons (dFn (mkC t.c_Para none 0) dNil) (dCons (dFn (mkC t.c_Table none 0) dNil) dNil))))) (gdN 1) (dSeq (dIf (dTst (dBin (rEqD K false) (dOwn "word" 0 (mt_word K t) (dVar 1) dNil) (dVar 0))) (dSeq (dRet (dVar 1))
      dNext) dNext)
    dNext))
  (dSeq (dRet (dC .non))
  dNext)))
theorem rd_kind_of_word (K : PySem.W.Frag) (t : Adr) : wSs 40 (defG K N_kind_of_word (defScope s_kind_of_word) (gb_1 K t) bl) (defBody s_kind_of_word) = t_kind_of_word K t := by kernel_rfl
theorem sc_kind_of_word : FnScope N_kind_of_word P_kind_of_word (defScope s_kind_of_word) := ⟨rfl, rfl, rfl, by decide +kernel, rfl, by decide +kernel, by decide +kernel⟩
theorem vi_kind_of_word : visOk N_kind_of_word (defScope s_kind_of_word) = true := by decide +kernel
def t_law_cell (K : PySem.W.Frag) (t : Adr) : DS :=
  (dSeq (dIf (dTst (dBin rLtD (dVar 1) (dFn (fun vs H Q _ => (rLen K) vs H Q) (dCons (dVar 0) dNil)))) (dSeq (dRet (dBin (rIxD K) (dVar 0) (dVar 1)))
    dNext) dNext)
  (dSeq (dRet (dBin rMulD (dBin (rAddD K) (dVar 1) (dC (.int 3))) (dC (.int 7919))))
  dNext))
theorem rd_law_cell (K : PySem.W.Frag) (t : Adr) : wSs 40 (defG K N_law_cell (defScope s_law_cell) (gb_0 K t) bl) (defBody s_law_cell) = t_law_cell K t := by kernel_rfl
theorem sc_law_cell : FnScope N_law_cell P_law_cell (defScope s_law_cell) := ⟨rfl, rfl, rfl, by decide +kernel, rfl, by decide +kernel, by decide +kernel⟩
theorem vi_law_cell : visOk N_law_cell (defScope s_law_cell) = true := by decide +kernel
def t_law_stream (K : PySem.W.Frag) (t : Adr) : DS :=
  (dSeq (dSet 2 (dLst dNil))
  (dSeq (dSet 3 (dBin rFdivD (dVar 0) (dC (.int 2))))
  (dSeq (dSet 4 (dBin (rAddD K) (dBin rModD (dVar 0) (dC (.int 2147483629))) (dC (.int 17))))
  (dSeq (dFor (iRng (dCons (dVar 1) dNil)) (gdN 5) (dSeq (dSet 4 (dBin rModD (dBin (rAddD K) (dBin (rAddD K) (dBin rMulD (dVar 4) (dC (.int 48271))) (dBin rMulD (dC (.int 7919)) (dVar 5))) (dC (.int 1))) (dC (.int 2147483647))))
    (dSeq (dIf (dAnd (dTst (dBin (rEqD K false) (dBin rModD (dVar 0) (dC (.int 2))) (dC (.int 1)))) (dAnd (dTst (dBin (rEqD K true) (dVar 3) (dC (.int 0)))) (dTst (dBin (rEqD K true) (dVar 3) (dUn rNegD (dC (.int 1))))))) (dSeq (dDrop (dMt (rMt K [⟨"list", "list.append", rAppend⟩]) (dVar 2) (dCons (dBin rModD (dVar 3) (dC (.int 268435456))) dNil)))
      (dSeq (dSet 3 (dBin rFdivD (dVar 3) (dC (.int 268435456))))
      dNext)) (dSeq (dDrop (dMt (rMt K [⟨"list", "list.append", rAppend⟩]) (dVar 2) (dCons (dBin rFdivD (dBin rModD (dBin (rAddD K) (dBin rMulD (dBin rModD (dBin rMulD (dVar 4) (dVar 4)) (dC (.int 2147483629))) (dC (.int 16807))) (dVar 5)) (dC (.int 2147483587))) (dC (.int 8))) dNil)))
      dNext))
    dNext)))
  (dSeq (dRet (dVar 2))
  dNext)))))
theorem rd_law_stream (K : PySem.W.Frag) (t : Adr) : wSs 40 (defG K N_law_stream (defScope s_law_stream) (gb_0 K t) bl) (defBody s_law_stream) = t_law_stream K t := by kernel_rfl
theorem sc_law_stream : FnScope N_law_stream P_law_stream (defScope s_law_stream) := ⟨rfl, rfl, rfl, by decide +kernel, rfl, by decide +kernel, by decide +kernel⟩
theorem vi_law_stream : visOk N_law_stream (defScope s_law_stream) = true := by decide +kernel
def t_law_text (K : PySem.W.Frag) (t : Adr) : DS :=
  (dSeq (dSet 1 (dBin (rAddD K) (dC (.str " !#$&'()*+,-./0123456789:;<=>?@ABCDEFGHIJKLMNOPQRSTUVWXYZ[\\]^_`abcdefghijklmnopqrstuvwxyz{|}~")) (dC (.str "\""))))
  (dSeq (dSet 2 (dFn (spE (sp_law_stream K t) []) (dCons (dVar 0) (dCons (dC (.int 4)) dNil))))
  (dSeq (dSet 3 (dBin (rIxD K) (dLst (dCons (dC (.int 0)) (dCons (dBin rModD (dBin (rIxD K) (dVar 2) (dC (.int 1))) (dC (.int 4))) (dCons (dBin rModD (dBin (rIxD K) (dVar 2) (dC (.int 1))) (dC (.int 12))) (dCons (dBin rModD (dBin (rIxD K) (dVar 2) (dC (.int 1))) (dC (.int 61))) dNil))))) (dBin rModD (dBin (rIxD K) (dVar 2) (dC (.int 0))) (dC (.int 4)))))
  (dSeq (dSet 4 (dC (.str "")))
  (dSeq (dFor (iVal K (dFn (spE (sp_law_stream K t) []) (dCons (dBin (rAddD K) (dVar 0) (dC (.int 1))) (dCons (dVar 3) dNil)))) (gdN 5) (dSeq (dIf (dTst (dBin (rEqD K false) (dBin rModD (dBin (rIxD K) (dVar 2) (dC (.int 2))) (dC (.int 2))) (dC (.int 0)))) (dSeq (dSet 4 (dBin (rAddD K) (dVar 4) (dBin (rIxD K) (dC (.str "|/\\a ")) (dBin rModD (dVar 5) (dC (.int 5))))))
      dNext) (dSeq (dSet 4 (dBin (rAddD K) (dVar 4) (dBin (rIxD K) (dVar 1) (dBin rModD (dVar 5) (dC (.int 94))))))
      dNext))
    dNext))
  (dSeq (dRet (dVar 4))
  dNext))))))
theorem rd_law_text (K : PySem.W.Frag) (t : Adr) : wSs 40 (defG K N_law_text (defScope s_law_text) (gb_1 K t) bl) (defBody s_law_text) = t_law_text K t := by kernel_rfl
theorem sc_law_text : FnScope N_law_text P_law_text (defScope s_law_text) := ⟨rfl, rfl, rfl, by decide +kernel, rfl, by decide +kernel, by decide +kernel⟩
theorem vi_law_text : visOk N_law_text (defScope s_law_text) = true := by decide +kernel
def t_law_table (K : PySem.W.Frag) (t : Adr) : DS :=
  (dSeq (dSet 1 (dFn (spE (sp_law_stream K t) []) (dCons (dVar 0) (dCons (dC (.int 3)) dNil))))
  (dSeq (dSet 2 (dBin (rIxD K) (dLst (dCons (dBin (rAddD K) (dC (.int 1)) (dBin rModD (dBin rFdivD (dBin (rIxD K) (dVar 1) (dC (.int 0))) (dC (.int 3))) (dC (.int 3)))) (dCons (dBin (rAddD K) (dC (.int 1)) (dBin rModD (dBin rFdivD (dBin (rIxD K) (dVar 1) (dC (.int 0))) (dC (.int 3))) (dC (.int 6)))) (dCons (dC (.int 6)) dNil)))) (dBin rModD (dBin (rIxD K) (dVar 1) (dC (.int 0))) (dC (.int 3)))))
  (dSeq (dSet 3 (dBin (rIxD K) (dLst (dCons (dBin (rAddD K) (dC (.int 1)) (dBin rModD (dBin rFdivD (dBin (rIxD K) (dVar 1) (dC (.int 1))) (dC (.int 3))) (dC (.int 3)))) (dCons (dBin (rAddD K) (dC (.int 1)) (dBin rModD (dBin rFdivD (dBin (rIxD K) (dVar 1) (dC (.int 1))) (dC (.int 3))) (dC (.int 6)))) (dCons (dC (.int 6)) dNil)))) (dBin rModD (dBin (rIxD K) (dVar 1) (dC (.int 1))) (dC (.int 3)))))
  (dSeq (dSet 4 (dLst dNil))
  (dSeq (dFor (iRng (dCons (dVar 2) dNil)) (gdN 5) (dSeq (dDrop (dMt (rMt K [⟨"list", "list.append", rAppend⟩]) (dVar 4) (dCons (dFn (fun vs H Q _ => (rTupOf K) vs H Q) (dCons (dComp [none, some 0, some 5] (iRng (dCons (dVar 3) dNil)) (gdN 0) dYes (dFn (spE (sp_law_text K t) []) (dCons (dBin (rAddD K) (dBin (rAddD K) (dBin (rAddD K) (dVar 1) (dBin rMulD (dC (.int 101)) (dVar 2))) (dBin rMulD (dC (.int 1009)) (dVar 0))) (dC (.int 7))) dNil))) dNil)) dNil)))
    dNext))
  (dSeq (dRet (dFn (fun vs H Q _ => (rTupOf K) vs H Q) (dCons (dVar 4) dNil)))
  dNext))))))
theorem rd_law_table (K : PySem.W.Frag) (t : Adr) : wSs 40 (defG K N_law_table (defScope s_law_table) (gb_2 K t) bl) (defBody s_law_table) = t_law_table K t := by kernel_rfl
theorem sc_law_table : FnScope N_law_table P_law_table (defScope s_law_table) := ⟨rfl, rfl, rfl, by decide +kernel, rfl, by decide +kernel, by decide +kernel⟩
theorem vi_law_table : visOk N_law_table (defScope s_law_table) = true := by decide +kernel
def t_law_content (K : PySem.W.Frag) (t : Adr) : DS :=
  (dSeq (dIf (dTst (dBin (rEqD K false) (dVar 0) (dC (.str "table")))) (dSeq (dRet (dFn (spE (sp_law_table K t) []) (dCons (dVar 1) dNil)))
    dNext) dNext)
  (dSeq (dRet (dFn (spE (sp_law_text K t) []) (dCons (dVar 1) dNil)))
  dNext))
theorem rd_law_content (K : PySem.W.Frag) (t : Adr) : wSs 40 (defG K N_law_content (defScope s_law_content) (gb_3 K t) bl) (defBody s_law_content) = t_law_content K t := by kernel_rfl
theorem sc_law_content : FnScope N_law_content P_law_content (defScope s_law_content) := ⟨rfl, rfl, rfl, by decide +kernel, rfl, by decide +kernel, by decide +kernel⟩
theorem vi_law_content : visOk N_law_content (defScope s_law_content) = true := by decide +kernel
def t_law_cells_changed (K : PySem.W.Frag) (t : Adr) : DS :=
  (dSeq (dSet 2 (dFn (spE (sp_law_stream K t) []) (dCons (dVar 1) (dCons (dC (.int 38)) dNil))))
  (dSeq (dSet 3 (dLst dNil))
  (dSeq (dFor (iRng (dCons (dFn (fun vs H Q _ => (rLen K) vs H Q) (dCons (dVar 0) dNil)) dNil)) (gdN 4) (dSeq (dSet 5 (dLst dNil))
    (dSeq (dFor (iRng (dCons (dFn (fun vs H Q _ => (rLen K) vs H Q) (dCons (dBin (rIxD K) (dVar 0) (dC (.int 0))) dNil)) dNil)) (gdN 6) (dSeq (dSet 7 (dBin (rIxD K) (dVar 2) (dBin (rAddD K) (dBin (rAddD K) (dC (.int 2)) (dBin rMulD (dC (.int 6)) (dVar 4))) (dVar 6))))
      (dSeq (dDrop (dMt (rMt K [⟨"list", "list.append", rAppend⟩]) (dVar 5) (dCons (dBin (rIxD K) (dLst (dCons (dBin (rIxD K) (dBin (rIxD K) (dVar 0) (dVar 4)) (dVar 6)) (dCons (dBin (rIxD K) (dBin (rIxD K) (dVar 0) (dVar 4)) (dVar 6)) (dCons (dBin (rAddD K) (dC (.str "x")) (dFn (fun vs H Q _ => rStrOf vs H Q) (dCons (dBin rModD (dBin rFdivD (dVar 7) (dC (.int 4))) (dC (.int 2))) dNil))) (dCons (dBin (rAddD K) (dSl K (dBin (rIxD K) (dBin (rIxD K) (dVar 0) (dVar 4)) (dVar 6)) dPartN (dPart (dC (.int 59)))) (dC (.str "y"))) dNil))))) (dBin rModD (dVar 7) (dC (.int 4)))) dNil)))
      dNext)))
    (dSeq (dDrop (dMt (rMt K [⟨"list", "list.append", rAppend⟩]) (dVar 3) (dCons (dFn (fun vs H Q _ => (rTupOf K) vs H Q) (dCons (dVar 5) dNil)) dNil)))
    dNext))))
  (dSeq (dRet (dFn (fun vs H Q _ => (rTupOf K) vs H Q) (dCons (dVar 3) dNil)))
  dNext))))
theorem rd_law_cells_changed (K : PySem.W.Frag) (t : Adr) : wSs 40 (defG K N_law_cells_changed (defScope s_law_cells_changed) (gb_1 K t) bl) (defBody s_law_cells_changed) = t_law_cells_changed K t := by kernel_rfl
theorem sc_law_cells_changed : FnScope N_law_cells_changed P_law_cells_changed (defScope s_law_cells_changed) := ⟨rfl, rfl, rfl, by decide +kernel, rfl, by decide +kernel, by decide +kernel⟩
theorem vi_law_cells_changed : visOk N_law_cells_changed (defScope s_law_cells_changed) = true := by decide +kernel
def t_law_made (K : PySem.W.Frag) (t : Adr) : DS :=
  (dSeq (dSet 3 (dBin rModD (dVar 2) (dC (.int 6))))
  (dSeq (dIf (dTst (dBin (rEqD K false) (dVar 3) (dC (.int 0)))) (dSeq (dRet (dVar 1))
    dNext) dNext)
  (dSeq (dIf (dOr (dTst (dBin (rEqD K false) (dVar 3) (dC (.int 1)))) (dAnd (dTst (dBin (rEqD K true) (dVar 0) (dC (.str "table")))) (dTst (dBin rGtD (dVar 3) (dC (.int 2)))))) (dSeq (dRet (dFn (spE (sp_law_content K t) []) (dCons (dVar 0) (dCons (dBin rFdivD (dVar 2) (dC (.int 6))) dNil))))
    dNext) dNext)
  (dSeq (dIf (dTst (dBin (rEqD K true) (dVar 0) (dC (.str "table")))) (dSeq (dRet (dBin (rAddD K) (dSl K (dVar 1) dPartN (dPart (dC (.int 59)))) (dBin (rIxD K) (dLst (dCons (dC (.str "x")) (dCons (dC (.str "y")) dNil))) (dBin rModD (dBin rFdivD (dVar 2) (dC (.int 6))) (dC (.int 2))))))
    dNext) dNext)
  (dSeq (dIf (dAnd (dTst (dBin (rEqD K false) (dVar 3) (dC (.int 2)))) (dTst (dBin rGtD (dFn (fun vs H Q _ => (rLen K) vs H Q) (dCons (dVar 1) dNil)) (dC (.int 1))))) (dSeq (dRet (dSl K (dVar 1) (dPart (dC (.int 1))) dPartN))
    dNext) dNext)
  (dSeq (dIf (dAnd (dTst (dBin (rEqD K false) (dVar 3) (dC (.int 3)))) (dTst (dBin rLtD (dFn (fun vs H Q _ => (rLen K) vs H Q) (dCons (dVar 1) dNil)) (dC (.int 6))))) (dSeq (dRet (dBin (rAddD K) (dVar 1) (dTup (dCons (dBin (rIxD K) (dVar 1) (dC (.int 0))) dNil))))
    dNext) dNext)
  (dSeq (dRet (dFn (spE (sp_law_cells_changed K t) []) (dCons (dVar 1) (dCons (dBin rFdivD (dVar 2) (dC (.int 6))) dNil))))
  dNext)))))))
theorem rd_law_made (K : PySem.W.Frag) (t : Adr) : wSs 40 (defG K N_law_made (defScope s_law_made) (gb_4 K t) bl) (defBody s_law_made) = t_law_made K t := by kernel_rfl
theorem sc_law_made : FnScope N_law_made P_law_made (defScope s_law_made) := ⟨rfl, rfl, rfl, by decide +kernel, rfl, by decide +kernel, by decide +kernel⟩
theorem vi_law_made : visOk N_law_made (defScope s_law_made) = true := by decide +kernel
def t_law_joined0 (K : PySem.W.Frag) (t : Adr) : DS :=
  (dSeq (dIf (dTst (dBin (rEqD K false) (dVar 2) (dVar 3))) (dSeq (dRet (dTup (dCons (dVar 2) (dCons (dLst dNil) dNil))))
    dNext) dNext)
  (dSeq (dIf (dOr (dTst (dBin (rEqD K false) (dVar 2) (dVar 1))) (dTst (dBin (rEqD K false) (dVar 3) (dVar 1)))) (dSeq (dRet (dTup (dCons (dBin (rIxD K) (dLst (dCons (dVar 2) (dCons (dVar 3) dNil))) (dFn (fun vs H Q _ => rInt vs H Q) (dCons (dBin (rEqD K false) (dVar 2) (dVar 1)) dNil))) (dCons (dLst dNil) dNil))))
    dNext) dNext)
  (dSeq (dSet 5 (dComp [none, some 0] (iVal K (dLst (dCons (dVar 1) (dCons (dVar 2) (dCons (dVar 3) dNil))))) (gdN 0) (dTst (dBin (rEqD K false) (dVar 1) (dC (.str "table")))) (dTup (dCons (dFn (fun vs H Q _ => (rLen K) vs H Q) (dCons (dVar 0) dNil)) (dCons (dFn (fun vs H Q _ => (rLen K) vs H Q) (dCons (dBin (rIxD K) (dVar 0) (dC (.int 0))) dNil)) dNil)))))
  (dSeq (dIf (dOr (dTst (dBin (rEqD K false) (dVar 5) (dLst dNil))) (dTst (dBin rLtD (dMt (rMt K [⟨"list", "list.count", rCount K⟩]) (dVar 5) (dCons (dBin (rIxD K) (dVar 5) (dC (.int 0))) dNil)) (dC (.int 3))))) (dSeq (dRet (dTup (dCons (dVar 1) (dCons (dLst (dCons (dC (.str "content")) dNil)) dNil))))
    dNext) dNext)
  (dSeq (dSet 4 (dLst dNil))
  (dSeq (dSet 6 (dLst dNil))
  (dSeq (dFor (iRng (dCons (dFn (fun vs H Q _ => (rLen K) vs H Q) (dCons (dVar 1) dNil)) dNil)) (gdN 7) (dSeq (dSet 8 (dLst dNil))
    (dSeq (dFor (iRng (dCons (dFn (fun vs H Q _ => (rLen K) vs H Q) (dCons (dBin (rIxD K) (dVar 1) (dC (.int 0))) dNil)) dNil)) (gdN 9) (dSeq (dAsg dNo (gdT K 2 [(gdN 10), (gdN 11)]))
      (dSeq (dDrop (dMt (rMt K [⟨"list", "list.append", rAppend⟩]) (dVar 8) (dCons (dVar 10) dNil)))
      (dSeq (dIf (dTst (dBin (rEqD K true) (dVar 11) (dLst dNil))) (dSeq (dDrop (dMt (rMt K [⟨"list", "list.append", rAppend⟩]) (dVar 6) (dCons (dBin (rAddD K) (dBin (rAddD K) (dBin (rAddD K) (dC (.str "cell ")) (dFn (fun vs H Q _ => rStrOf vs H Q) (dCons (dVar 7) dNil))) (dC (.str " "))) (dFn (fun vs H Q _ => rStrOf vs H Q) (dCons (dVar 9) dNil))) dNil)))
        dNext) dNext)
      dNext))))
    (dSeq (dDrop (dMt (rMt K [⟨"list", "list.append", rAppend⟩]) (dVar 4) (dCons (dFn (fun vs H Q _ => (rTupOf K) vs H Q) (dCons (dVar 8) dNil)) dNil)))
    dNext))))
  (dSeq (dRet (dTup (dCons (dFn (fun vs H Q _ => (rTupOf K) vs H Q) (dCons (dVar 4) dNil)) (dCons (dVar 6) dNil))))
  dNext))))))))
theorem rd_law_joined0 (K : PySem.W.Frag) (t : Adr) : wSs 40 (defG K N_law_joined0 (defScope s_law_joined0) (gb_0 K t) bl) (defBody s_law_joined0) = t_law_joined0 K t := by kernel_rfl
theorem sc_law_joined0 : FnScope N_law_joined0 P_law_joined0 (defScope s_law_joined0) := ⟨rfl, rfl, rfl, by decide +kernel, rfl, by decide +kernel, by decide +kernel⟩
theorem vi_law_joined0 : visOk N_law_joined0 (defScope s_law_joined0) = true := by decide +kernel
def t_law_joined (K : PySem.W.Frag) (t : Adr) : DS :=
  (dSeq (dIf (dTst (dBin (rEqD K false) (dVar 2) (dVar 3))) (dSeq (dRet (dTup (dCons (dVar 2) (dCons (dLst dNil) dNil))))
    dNext) dNext)
  (dSeq (dIf (dOr (dTst (dBin (rEqD K false) (dVar 2) (dVar 1))) (dTst (dBin (rEqD K false) (dVar 3) (dVar 1)))) (dSeq (dRet (dTup (dCons (dBin (rIxD K) (dLst (dCons (dVar 2) (dCons (dVar 3) dNil))) (dFn (fun vs H Q _ => rInt vs H Q) (dCons (dBin (rEqD K false) (dVar 2) (dVar 1)) dNil))) (dCons (dLst dNil) dNil))))
    dNext) dNext)
  (dSeq (dSet 5 (dComp [none, some 0] (iVal K (dLst (dCons (dVar 1) (dCons (dVar 2) (dCons (dVar 3) dNil))))) (gdN 0) (dTst (dBin (rEqD K false) (dVar 1) (dC (.str "table")))) (dTup (dCons (dFn (fun vs H Q _ => (rLen K) vs H Q) (dCons (dVar 0) dNil)) (dCons (dFn (fun vs H Q _ => (rLen K) vs H Q) (dCons (dBin (rIxD K) (dVar 0) (dC (.int 0))) dNil)) dNil)))))
  (dSeq (dIf (dOr (dTst (dBin (rEqD K false) (dVar 5) (dLst dNil))) (dTst (dBin rLtD (dMt (rMt K [⟨"list", "list.count", rCount K⟩]) (dVar 5) (dCons (dBin (rIxD K) (dVar 5) (dC (.int 0))) dNil)) (dC (.int 3))))) (dSeq (dRet (dTup (dCons (dVar 1) (dCons (dLst (dCons (dC (.str "content")) dNil)) dNil))))
    dNext) dNext)
  (dSeq (dSet 4 (dLst dNil))
  (dSeq (dSet 6 (dLst dNil))
  (dSeq (dFor (iRng (dCons (dFn (fun vs H Q _ => (rLen K) vs H Q) (dCons (dVar 1) dNil)) dNil)) (gdN 7) (dSeq (dSet 8 (dLst dNil))
    (dSeq (dFor (iRng (dCons (dFn (fun vs H Q _ => (rLen K) vs H Q) (dCons (dBin (rIxD K) (dVar 1) (dC (.int 0))) dNil)) dNil)) (gdN 9) (dSeq (dAsg (dFn (spE (sp_law_joined0 K t) []) (dCons (dC (.str "cell")) (dCons (dBin (rIxD K) (dBin (rIxD K) (dVar 1) (dVar 7)) (dVar 9)) (dCons (dBin (rIxD K) (dBin (rIxD K) (dVar 2) (dVar 7)) (dVar 9)) (dCons (dBin (rIxD K) (dBin (rIxD K) (dVar 3) (dVar 7)) (dVar 9)) dNil))))) (gdT K 2 [(gdN 10), (gdN 11)]))
      (dSeq (dDrop (dMt (rMt K [⟨"list", "list.append", rAppend⟩]) (dVar 8) (dCons (dVar 10) dNil)))
      (dSeq (dIf (dTst (dBin (rEqD K true) (dVar 11) (dLst dNil))) (dSeq (dDrop (dMt (rMt K [⟨"list", "list.append", rAppend⟩]) (dVar 6) (dCons (dBin (rAddD K) (dBin (rAddD K) (dBin (rAddD K) (dC (.str "cell ")) (dFn (fun vs H Q _ => rStrOf vs H Q) (dCons (dVar 7) dNil))) (dC (.str " "))) (dFn (fun vs H Q _ => rStrOf vs H Q) (dCons (dVar 9) dNil))) dNil)))
        dNext) dNext)
      dNext))))
    (dSeq (dDrop (dMt (rMt K [⟨"list", "list.append", rAppend⟩]) (dVar 4) (dCons (dFn (fun vs H Q _ => (rTupOf K) vs H Q) (dCons (dVar 8) dNil)) dNil)))
    dNext))))
  (dSeq (dRet (dTup (dCons (dFn (fun vs H Q _ => (rTupOf K) vs H Q) (dCons (dVar 4) dNil)) (dCons (dVar 6) dNil))))
  dNext))))))))
theorem rd_law_joined (K : PySem.W.Frag) (t : Adr) : wSs 40 (defG K N_law_joined (defScope s_law_joined) (gb_1 K t) bl) (defBody s_law_joined) = t_law_joined K t := by kernel_rfl
theorem sc_law_joined : FnScope N_law_joined P_law_joined (defScope s_law_joined) := ⟨rfl, rfl, rfl, by decide +kernel, rfl, by decide +kernel, by decide +kernel⟩
theorem vi_law_joined : visOk N_law_joined (defScope s_law_joined) = true := by decide +kernel
def t_law_same (K : PySem.W.Frag) (t : Adr) : DS :=
  (dSeq (dIf (dOr (dNot (dTru K (dFn (fun vs H Q _ => (rIsi K) vs H Q) (dCons (dVar 0) (dCons (dC (.ty "tuple")) dNil))))) (dOr (dTst (dBin (rEqD K true) (dFn (fun vs H Q _ => (rLen K) vs H Q) (dCons (dVar 0) dNil)) (dC (.int 2)))) (dNot (dTru K (dFn (fun vs H Q _ => (rIsi K) vs H Q) (dCons (dBin (rIxD K) (dVar 0) (dC (.int 1))) (dCons (dC (.ty "list")) dNil))))))) (dSeq (dRet (dC (.bl false)))
    dNext) dNext)
  (dSeq (dRet (dAndV K (dBin (rEqD K false) (dBin (rIxD K) (dVar 0) (dC (.int 0))) (dBin (rIxD K) (dVar 1) (dC (.int 0)))) (dBin (rEqD K false) (dBin (rIxD K) (dVar 0) (dC (.int 1))) (dBin (rIxD K) (dVar 1) (dC (.int 1))))))
  dNext))
theorem rd_law_same (K : PySem.W.Frag) (t : Adr) : wSs 40 (defG K N_law_same (defScope s_law_same) (gb_0 K t) bl) (defBody s_law_same) = t_law_same K t := by kernel_rfl
theorem sc_law_same : FnScope N_law_same P_law_same (defScope s_law_same) := ⟨rfl, rfl, rfl, by decide +kernel, rfl, by decide +kernel, by decide +kernel⟩
theorem vi_law_same : visOk N_law_same (defScope s_law_same) = true := by decide +kernel
def t_law (K : PySem.W.Frag) (t : Adr) : DS :=
  (dSeq (dFor (iEn K (dCons (dLst (dCons (dC (.str "chapter")) (dCons (dC (.str "para")) (dCons (dC (.str "table")) (dCons (dC (.str "table")) dNil))))) dNil)) (gdT K 2 [(gdN 1), (gdN 2)]) (dSeq (dSet 3 (dFn (spE (sp_kind_of_word K t) []) (dCons (dVar 2) dNil)))
    (dSeq (dSet 4 (dFn (spE (sp_law_content K t) []) (dCons (dVar 2) (dCons (dFn (spE (sp_law_cell K t) []) (dCons (dVar 0) (dCons (dBin rMulD (dC (.int 3)) (dVar 1)) dNil))) dNil))))
    (dSeq (dSet 5 (dFn (spE (sp_law_made K t) []) (dCons (dVar 2) (dCons (dVar 4) (dCons (dFn (spE (sp_law_cell K t) []) (dCons (dVar 0) (dCons (dBin (rAddD K) (dBin rMulD (dC (.int 3)) (dVar 1)) (dC (.int 1))) dNil))) dNil)))))
    (dSeq (dSet 6 (dFn (spE (sp_law_made K t) []) (dCons (dVar 2) (dCons (dVar 4) (dCons (dFn (spE (sp_law_cell K t) []) (dCons (dVar 0) (dCons (dBin (rAddD K) (dBin rMulD (dC (.int 3)) (dVar 1)) (dC (.int 2))) dNil))) dNil)))))
    (dSeq (dSet 7 (dFn (spE (sp_law_joined K t) []) (dCons (dVar 2) (dCons (dVar 4) (dCons (dVar 5) (dCons (dVar 6) dNil))))))
    (dSeq (dSet 8 (dOwn "joined" 3 (mt_joined K t) (dVar 3) (dCons (dVar 4) (dCons (dVar 5) (dCons (dVar 6) dNil)))))
    (dSeq (dIf (dOr (dNot (dTru K (dFn (spE (sp_law_same K t) []) (dCons (dVar 8) (dCons (dVar 7) dNil))))) (dTst (dBin (rIsD true) (dOwn "fits" 1 (mt_fits K t) (dVar 3) (dCons (dBin (rIxD K) (dVar 8) (dC (.int 0))) dNil)) (dC (.bl true))))) (dSeq (dRet (dC (.bl false)))
      dNext) dNext)
    (dSeq (dDrop (dMt (rMt K [⟨"list", "list.append", rAppend⟩]) (dBin (rIxD K) (dVar 8) (dC (.int 1))) (dCons (dC (.str "more")) dNil)))
    (dSeq (dIf (dOr (dNot (dTru K (dFn (spE (sp_law_same K t) []) (dCons (dOwn "joined" 3 (mt_joined K t) (dVar 3) (dCons (dVar 4) (dCons (dVar 6) (dCons (dVar 5) dNil)))) (dCons (dVar 7) dNil))))) (dNot (dTru K (dFn (spE (sp_law_same K t) []) (dCons (dOwn "joined" 3 (mt_joined K t) (dVar 3) (dCons (dVar 4) (dCons (dVar 5) (dCons (dVar 6) dNil)))) (dCons (dVar 7) dNil)))))) (dSeq (dRet (dC (.bl false)))
      dNext) dNext)
    (dSeq (dIf (dNot (dTru K (dFn (spE (sp_law_same K t) []) (dCons (dOwn "joined" 3 (mt_joined K t) (dVar 3) (dCons (dVar 4) (dCons (dVar 4) (dCons (dVar 5) dNil)))) (dCons (dTup (dCons (dVar 5) (dCons (dLst dNil) dNil))) dNil))))) (dSeq (dRet (dC (.bl false)))
      dNext) dNext)
    dNext)))))))))))
  (dSeq (dRet (dC (.bl true)))
  dNext))
theorem rd_law (K : PySem.W.Frag) (t : Adr) : wSs 40 (defG K N_law (defScope s_law) (gb_5 K t) bl) (defBody s_law) = t_law K t := by kernel_rfl
theorem sc_law : FnScope N_law P_law (defScope s_law) := ⟨rfl, rfl, rfl, by decide +kernel, rfl, by decide +kernel, by decide +kernel⟩
theorem vi_law : visOk N_law (defScope s_law) = true := by decide +kernel
end K22

set_option maxRecDepth 100000
set_option maxHeartbeats 4000000
namespace K22
open PySem L2
section
variable {K : PySem.W.Frag} {H H' : Hp}
theorem iteFe {b : Bool} {A B : Prop} (e : b = false) (h : B) : if b = true then A else B := by subst e; exact iteF h
theorem iteTe {b : Bool} {A B : Prop} (e : b = true) (h : A) : if b = true then A else B := by subst e; exact iteT h
theorem deq_rowD (a b : List Str) : deq (rowD a) (rowD b) = decide (a = b) := by unfold rowD deq; exact deqs_map deq_strD a b
theorem deq_tabD (a b : Tb) : deq (tabD a) (tabD b) = decide (a = b) := by unfold tabD deq; exact deqs_map deq_rowD a b
theorem dep_rowD (a : List Str) : dep (rowD a) ≤ 1 := by
  unfold rowD dep
  exact Nat.succ_le_succ (deps_map dep_strD a)
theorem dep_tabD (a : Tb) : dep (tabD a) ≤ 2 := by
  unfold tabD dep
  exact Nat.succ_le_succ (deps_map dep_rowD a)
theorem CtAt.up {c : Ct} {x : V} (h : CtAt K H c x) (S : Same H H') : CtAt K H' c x := by
  cases c with
  | txt z => exact h
  | tab t => exact at_up S h
theorem dec_txt (a b : Str) : decide (Ct.txt a = Ct.txt b) = decide (a = b) := decide_eq_decide.mpr ⟨fun e => by cases e; rfl, fun e => by rw [e]⟩
theorem dec_tab (a b : Tb) : decide (Ct.tab a = Ct.tab b) = decide (a = b) := decide_eq_decide.mpr ⟨fun e => by cases e; rfl, fun e => by rw [e]⟩
theorem eq_ct {neg : Bool} {c d : Ct} {x y : V} {Q : VK} (h : CtAt K H c x) (h' : CtAt K H d y) (k : isTab c = isTab d) (q : Q (.bl (if neg then !decide (c = d) else decide (c = d))) H) : rEqD K neg x y H Q := by
  cases c with
  | txt a =>
    cases d with
    | txt b => cases h; cases h'; rw [dec_txt] at q; exact q
    | tab b => cases k
  | tab a =>
    cases d with
    | txt b => cases k
    | tab b =>
      rw [dec_tab, ← deq_tabD] at q
      have h2 : At K H (tabD a) x := h
      have h2' : At K H (tabD b) y := h'
      obtain ⟨p, _, rfl, _⟩ := at_tup' (show At K H (.tup (a.map rowD)) x from h2)
      obtain ⟨p', _, rfl, _⟩ := at_tup' (show At K H (.tup (b.map rowD)) y from h2')
      exact .inr ⟨tabD a, tabD b, h2, h2', Nat.le_trans (dep_tabD a) (by decide), q⟩
theorem row_at {x : V} {t : Tb} (h : At K H (tabD t) x) : ∃ (a : Addr) (xs : List V), x = .ref a ∧ SqT K H a xs ∧ xs.length = t.length ∧ ∀ (i : Nat) (r : List Str), t[i]? = some r → ∃ b : Addr, xs[i]? = some (.ref b) ∧ SqT K H b (r.map V.str) := by
  obtain ⟨a, xs, e, q, g⟩ := at_tup' (show At K H (.tup (t.map rowD)) x from h)
  refine ⟨a, xs, e, q, by rw [g.length, List.length_map], fun i r hr => ?_⟩
  obtain ⟨y, hy, hr'⟩ := atL_get g (i := i) (d := rowD r) (by rw [List.getElem?_map, hr]; rfl)
  obtain ⟨b, rfl, hb⟩ := at_tupS' hr'
  exact ⟨b, hy, hb⟩
theorem atI_some {xs : List V} {i : Nat} {v : V} (h : xs[i]? = some v) : atI xs (i : Int) = some v := by
  have hl : i < xs.length := (List.getElem?_eq_some_iff.mp h).1
  unfold atI ixN
  have h1 : ¬ ((i : Int) < 0) := by omega
  have h2 : (i : Int) < (xs.length : Int) := by omega
  simp [h1, h2]
  exact h
theorem get_of {t : Tb} {i : Nat} (h : i < t.length) : t[i]? = some (t.getD i []) := by
  rw [List.getD_eq_getElem?_getD, List.getElem?_eq_getElem h]
  rfl
theorem getS_of {r : List Str} {j : Nat} (h : j < r.length) : (r.map V.str)[j]? = some (.str (r.getD j Str.empty)) := by
  rw [List.getElem?_map, List.getD_eq_getElem?_getD, List.getElem?_eq_getElem h]
  rfl
theorem wfT.row {t : Tb} (h : wfT t) {i : Nat} (hi : i < t.length) : (t.getD i []).length = (t.getD 0 []).length ∧ 1 ≤ (t.getD i []).length ∧ (t.getD i []).length ≤ 6 ∧ ∀ z ∈ t.getD i [], wfS z := by
  obtain ⟨h1, h2, m, m1, m2, hr⟩ := h
  have e0 := hr _ (List.mem_of_getElem? (get_of (t := t) (i := 0) (by omega)))
  have ei := hr _ (List.mem_of_getElem? (get_of hi))
  exact ⟨by rw [e0.1, ei.1], by rw [ei.1]; exact m1, by rw [ei.1]; exact m2, ei.2⟩
theorem wfT.cl {t : Tb} (h : wfT t) {i j : Nat} (hi : i < t.length) (hj : j < (t.getD 0 []).length) : wfS (cell t i j) := by
  obtain ⟨e, _, _, w⟩ := h.row hi
  have hj' : j < (t.getD i []).length := by rw [e]; exact hj
  refine w _ ?_
  unfold cell
  generalize t.getD i [] = r at hj'
  rw [List.getD_eq_getElem?_getD, List.getElem?_eq_getElem hj']
  exact List.getElem_mem hj'
section
variable {α : Type} [DecidableEq α]
theorem clash_comm (b o p : α) : clash b p o = clash b o p := by
  unfold clash
  rw [show decide (p = o) = decide (o = p) from decide_eq_decide.mpr ⟨Eq.symm, Eq.symm⟩, Bool.and_comm (!decide (p = b))]
theorem settle_comm (b o p : α) : settle b p o = settle b o p := by
  unfold settle
  rw [clash_comm]
  by_cases hc : clash b o p = true
  · rw [if_pos hc, if_pos hc]
  · rw [if_neg hc, if_neg hc]
    by_cases h1 : o = p
    · subst h1; rfl
    · by_cases h2 : o = b
      · rw [if_pos h2]
        by_cases h3 : p = b
        · rw [if_pos h3, h2, h3]
        · rw [if_neg h3]
      · rw [if_neg h2]
        by_cases h3 : p = b
        · rw [if_pos h3]
        · exact absurd (by unfold clash; simp [h1, h2, h3]) hc
theorem whole_comm (b o p : α) : whole b p o = whole b o p := by unfold whole; rw [settle_comm, clash_comm]
theorem clash_base (b o : α) : clash b b o = false := by unfold clash; simp
theorem settle_base (b o : α) : settle b b o = o := by unfold settle; rw [clash_base, if_neg Bool.false_ne_true, if_pos rfl]
theorem settle_cases (b o p : α) : settle b o p = b ∨ settle b o p = o ∨ settle b o p = p := by
  unfold settle
  split
  · exact .inl rfl
  · split
    · exact .inr (.inr rfl)
    · exact .inr (.inl rfl)
end
theorem joinC_tab (b o p : Tb) : joinC (.tab b) (.tab o) (.tab p) = if clash b o p = true ∧ shape o = shape b ∧ shape p = shape b then (.tab (joinT b o p (shape b).1 (shape b).2), wordsT b o p (shape b).1 (shape b).2) else whole (Ct.tab b) (.tab o) (.tab p) := rfl
theorem joinC_comm (b o p : Ct) : joinC b p o = joinC b o p := by
  cases b with
  | txt b => exact whole_comm _ _ _
  | tab b =>
    cases o with
    | txt o => cases p <;> exact whole_comm _ _ _
    | tab o =>
      cases p with
      | txt p => exact whole_comm _ _ _
      | tab p =>
        rw [joinC_tab, joinC_tab, clash_comm, whole_comm]
        have e1 : joinT b p o (shape b).1 (shape b).2 = joinT b o p (shape b).1 (shape b).2 := by
          unfold joinT rowJ
          simp only [settle_comm (α := Str)]
        have e2 : wordsT b p o (shape b).1 (shape b).2 = wordsT b o p (shape b).1 (shape b).2 := by
          unfold wordsT rowW
          simp only [clash_comm (α := Str)]
        rw [e1, e2]
        by_cases h : clash b o p = true ∧ shape o = shape b ∧ shape p = shape b
        · rw [if_pos h, if_pos ⟨h.1, h.2.2, h.2.1⟩]
        · rw [if_neg h, if_neg fun z => h ⟨z.1, z.2.2, z.2.1⟩]
theorem joinC_base (b o : Ct) : joinC b b o = (o, []) := by
  have w : ∀ c d : Ct, whole c c d = (d, []) := fun c d => by unfold whole; rw [settle_base, clash_base, if_neg Bool.false_ne_true]
  cases b with
  | txt b => exact w _ _
  | tab b =>
    cases o with
    | txt o => exact w _ _
    | tab o =>
      rw [joinC_tab, if_neg (fun h => by rw [clash_base] at h; exact Bool.false_ne_true h.1)]
      exact w _ _
theorem joinC_wf {b o p : Ct} (hb : b.wf) (ho : o.wf) (hp : p.wf) (k1 : isTab o = isTab b) (k2 : isTab p = isTab b) : (joinC b o p).1.wf ∧ isTab (joinC b o p).1 = isTab b := by
  have w : (whole b o p).1.wf ∧ isTab (whole b o p).1 = isTab b := by
    show (settle b o p).wf ∧ isTab (settle b o p) = isTab b
    rcases settle_cases b o p with e | e | e <;> rw [e]
    · exact ⟨hb, rfl⟩
    · exact ⟨ho, k1⟩
    · exact ⟨hp, k2⟩
  cases b with
  | txt b => exact w
  | tab b =>
    cases o with
    | txt o => exact w
    | tab o =>
      cases p with
      | txt p => exact w
      | tab p =>
        rw [joinC_tab]
        by_cases h : clash b o p = true ∧ shape o = shape b ∧ shape p = shape b
        · rw [if_pos h]
          refine ⟨?_, rfl⟩
          obtain ⟨_, s1, s2⟩ := h
          have hb' : wfT b := hb
          have ho' : wfT o := ho
          have hp' : wfT p := hp
          have e1 : o.length = b.length := congrArg Prod.fst s1
          have e2 : p.length = b.length := congrArg Prod.fst s2
          have f1 : (o.getD 0 []).length = (b.getD 0 []).length := congrArg Prod.snd s1
          have f2 : (p.getD 0 []).length = (b.getD 0 []).length := congrArg Prod.snd s2
          show wfT (joinT b o p b.length (b.getD 0 []).length)
          have h0 := hb'.row (i := 0) hb'.1
          refine ⟨by unfold joinT; simp; exact hb'.1, by unfold joinT; simp; exact hb'.2.1, (b.getD 0 []).length, h0.2.1, h0.2.2.1, fun r hr => ?_⟩
          unfold joinT at hr
          obtain ⟨i, hi, rfl⟩ := List.mem_map.mp hr
          have hi := List.mem_range.mp hi
          refine ⟨by unfold rowJ; simp, fun z hz => ?_⟩
          unfold rowJ at hz
          obtain ⟨j, hj, rfl⟩ := List.mem_map.mp hz
          have hj := List.mem_range.mp hj
          rcases settle_cases (cell b i j) (cell o i j) (cell p i j) with e | e | e <;> rw [e]
          · exact hb'.cl hi hj
          · exact ho'.cl (by omega) (by omega)
          · exact hp'.cl (by omega) (by omega)
        · rw [if_neg h]; exact w
end
end K22

set_option maxRecDepth 100000
set_option maxHeartbeats 4000000
namespace K22
open PySem L2
theorem one_lt (a c : Nat) : decide ([c] < [a]) = decide (c < a) := by
  rw [Bool.eq_iff_iff, decide_eq_true_iff, decide_eq_true_iff, List.cons_lt_cons_iff]
  simp
theorem leL {s : Str} {a c : Nat} (h : s.cps.toList = [a]) : (!decide ((⟨#[c]⟩ : Str).cps.toList < s.cps.toList)) = decide (a ≤ c) := by
  rw [h]
  show (!decide ([c] < [a])) = _
  rw [one_lt, ← decide_not]
  exact decide_eq_decide.mpr Nat.not_lt
theorem leR {s : Str} {a c : Nat} (h : s.cps.toList = [a]) : (!decide (s.cps.toList < (⟨#[c]⟩ : Str).cps.toList)) = decide (c ≤ a) := by
  rw [h]
  show (!decide ([a] < [c])) = _
  rw [one_lt, ← decide_not]
  exact decide_eq_decide.mpr Nat.not_lt
theorem chain_str {s1 s2 : Str} {a b c : Nat} {Q : VK} {H : Hp} (h1 : s1.cps.toList = [a]) (h2 : s2.cps.toList = [b]) (k : Q (.bl (decide (a ≤ c) && decide (c ≤ b))) H) :
    if (!decide ((⟨#[c]⟩ : Str).cps.toList < s1.cps.toList)) = true then Q (.bl (!decide (s2.cps.toList < (⟨#[c]⟩ : Str).cps.toList))) H else Q (.bl false) H := by
  rw [leL h1, leR h2]
  cases e : decide (a ≤ c) with
  | true => rw [e, Bool.true_and] at k; exact iteT k
  | false => rw [e, Bool.false_and] at k; exact iteF k
theorem chain_int {a b c : Int} {Q : VK} {H : Hp} (k : Q (.bl (decide (a ≤ c) && decide (c ≤ b))) H) : if decide (a ≤ c) = true then Q (.bl (decide (c ≤ b))) H else Q (.bl false) H := by
  cases e : decide (a ≤ c) with
  | true => rw [e, Bool.true_and] at k; exact iteT k
  | false => rw [e, Bool.false_and] at k; exact iteF k
theorem dch_str {s1 s2 : Str} {a b c i : Nat} {Q : VK} {E : EK} {H : Hp} {σ : St} (h1 : s1.cps.toList = [a]) (h2 : s2.cps.toList = [b]) (hv : σ[i]? = some (some (.str ⟨#[c]⟩))) (k : Q (.bl (decide (a ≤ c) && decide (c ≤ b))) H) :
    dChain rLeD rLeD (dC (.str s1)) (dVar i) (dC (.str s2)) σ H Q E := by
  unfold dChain dC dVar
  rw [hv]
  exact chain_str h1 h2 k
section
variable {P : Program} {w : World} {K : PySem.W.Frag} {mg : Str → Option Value} {base : Heap} {t : Adr}
theorem ok_has_length {f : Addr} {fd : FuncData} (Z : Facts K t) (F : FunD K "has_length" "has_length" s_has_length f fd .none) (T : Tab P w K mg base 0 (gb_0 K t) bl) : FnOk P w K mg base CX0 1 f fd P_has_length (sp_has_length K t) := by
  refine F.okW0 sc_has_length vi_has_length T (rd_has_length K t) (fun vs H Q E h => ?_) (fun vs H Q E h => ?_)
  · obtain ⟨z, lo, hi, rfl, _⟩ := h; rfl
  · obtain ⟨z, lo, hi, rfl, hz, k⟩ := h
    exact ⟨rfl, Nat.le_trans hz (by decide), chain_int k⟩
theorem ok_is_text_sign {f : Addr} {fd : FuncData} (Z : Facts K t) (F : FunD K "is_text_sign" "is_text_sign" s_is_text_sign f fd .none) (T : Tab P w K mg base 0 (gb_0 K t) bl) : FnOk P w K mg base CX0 1 f fd P_is_text_sign (sp_is_text_sign K t) := by
  refine F.okW0 sc_is_text_sign vi_is_text_sign T (rd_is_text_sign K t) (fun vs H Q E h => ?_) (fun vs H Q E h => ?_)
  · obtain ⟨x, rfl, _⟩ := h; rfl
  · obtain ⟨c, rfl, k⟩ := h
    unfold textC at k
    dsimp only [t_is_text_sign, dSeq, dRet, dAndV]
    refine dch_str (s1 := " ") (s2 := "~") (c := c) (i := 0) (a := 32) (b := 126) (by decide +kernel) (by decide +kernel) (by rfl) ?_
    refine ite2 (c := (decide (32 ≤ c) && decide (c ≤ 126)) = true) (fun e2 => ?_) (fun e2 => ?_)
    · rw [e2, Bool.true_and] at k
      refine ⟨rfl, ?_⟩
      have e3 : (!decide (((c : Nat) : Int) = 37)) = (c != 37) := by
        rw [bne, Bool.beq_eq_decide_eq]
        congr 1
        exact decide_eq_decide.mpr (by omega)
      show Q (.bl (!decide (((c : Nat) : Int) = 37))) H
      rw [e3]
      exact k
    · have e2' : (decide (32 ≤ c) && decide (c ≤ 126)) = false := by simpa using e2
      rw [e2', Bool.false_and] at k
      show Q (.bl (decide (32 ≤ c) && decide (c ≤ 126))) H
      rw [e2']
      exact k
/-- all of a text's signs, by a comprehension of truths -/
theorem all_signs {z : Str} {te : DE} {p : Nat → Bool} {H : Hp} {Q : VK} (hz : z.length ≤ 1000) (he : ∀ (c : Nat) (σ : St) (H1 : Hp) (Q1 : VK), σ.length = 1 → Q1 (.bl (p c)) H1 → te (σ.set 0 (some (.str ⟨#[c]⟩))) H1 Q1 (fun _ _ => False)) (k : ∀ H', Same H H' → Q (.bl (z.cps.toList.all p)) H') :
    ∀ D, H D = none → CmpW (Its z) (gdN 0) dYes te D (fun H' => rAll K [.ref D] H' Q) (capt [none] [some (.str z)]) (upd H D (.lst [])) := by
  intro D hD
  refine cmp_map (yl_str z) (fun σ => σ.length = 1) (fun _ => true) (fun v => match v with | .str y => .bl (p (y.cps.getD 0 0)) | _ => .non) hD (fun _ _ => True.intro) ?_ rfl ?_ ?_
  · unfold signsV
    rw [List.length_map]
    exact Nat.lt_of_le_of_lt (show z.cps.toList.length ≤ 1000 from by have : z.cps.size ≤ 1000 := hz; simpa using this) (by decide)
  · intro x σ H1 hx hσ S Fin Skip hF hS
    obtain ⟨c, hc, rfl⟩ := List.mem_map.mp hx
    refine he c σ H1 _ hσ ?_
    exact hF _ _ _ (by rw [List.length_set]; exact hσ) (Same.refl _) rfl rfl
  · intro H' S hD'
    have e : ((signsV z).filter fun _ => true).map (fun v => match v with | .str y => V.bl (p (y.cps.getD 0 0)) | _ => .non) = (z.cps.toList.map p).map V.bl := by
      unfold signsV
      rw [List.filter_eq_self.mpr (fun _ _ => rfl), List.map_map, List.map_map]
      rfl
    refine ⟨z.cps.toList.map p, SqL.of (hD'.trans (by rw [e])), ?_⟩
    have e2 : (z.cps.toList.map p).all (fun b => b) = z.cps.toList.all p := by rw [List.all_map]; rfl
    rw [e2]
    exact k H' S
theorem ok_is_text {f : Addr} {fd : FuncData} (Z : Facts K t) (F : FunD K "is_text" "is_text" s_is_text f fd .none) (T : Tab P w K mg base 1 (gb_1 K t) bl) : FnOk P w K mg base CX0 2 f fd P_is_text (sp_is_text K t) := by
  refine F.okW0 sc_is_text vi_is_text T (rd_is_text K t) (fun vs H Q E h => ?_) (fun vs H Q E h => ?_)
  · obtain ⟨x, rfl, _⟩ := h; rfl
  · obtain ⟨z, rfl, hz, k⟩ := h
    have hl : z.length ≤ 1000 := Nat.le_trans hz.1 (by decide)
    refine ⟨z, 0, 60, rfl, hl, ?_⟩
    have e : (decide (0 ≤ (z.length : Int)) && decide ((z.length : Int) ≤ 60)) = true := by
      have := hz.1
      simp
      omega
    refine iteTe e ?_
    refine all_signs (p := textC) hl (fun c σ H1 Q1 hσ q => ?_) fun H' S => ?_
    · match σ, hσ with
      | [_], _ => exact ⟨c, rfl, q⟩
    · rw [hz.2]; exact k H' S
theorem ok_Kind_fits {f : Addr} {fd : FuncData} (Z : Facts K t) (F : FunD K "fits" "Kind.fits" s_Kind_fits f fd .none) (T : Tab P w K mg base 2 (gb_2 K t) bl) : FnOk P w K mg base CX0 3 f fd P_Kind_fits (sp_Kind_fits K t) := by
  refine F.okW0 sc_Kind_fits vi_Kind_fits T (rd_Kind_fits K t) (fun vs H Q E h => ?_) (fun vs H Q E h => ?_)
  · obtain ⟨s, x, rfl, _⟩ := h; rfl
  · obtain ⟨s, z, rfl, hz, k⟩ := h
    exact ⟨z, rfl, hz, k⟩
theorem ok_is_clash {f : Addr} {fd : FuncData} (Z : Facts K t) (F : FunD K "is_clash" "is_clash" s_is_clash f fd .none) (T : Tab P w K mg base 0 (gb_0 K t) bl) : FnOk P w K mg base CX0 1 f fd P_is_clash (sp_is_clash K t) := by
  refine F.okW0 sc_is_clash vi_is_clash T (rd_is_clash K t) (fun vs H Q E h => ?_) (fun vs H Q E h => ?_)
  · obtain ⟨x, y, z, b, o, p, rfl, _⟩ := h; rfl
  · obtain ⟨x, y, z, b, o, p, rfl, ⟨hb, ho, hp, k1, k2⟩, k⟩ := h
    refine eq_ct (neg := true) ho hp (by rw [k1, k2]) ?_
    unfold clash at k
    cases e1 : decide (o = p) with
    | true => rw [e1, Bool.not_true, Bool.false_and] at k; exact k
    | false =>
      rw [e1, Bool.not_false, Bool.true_and] at k
      refine iteT (B := Q (.bl true) H) ?_
      refine eq_ct (neg := true) ho hb k1 ?_
      cases e2 : decide (o = b) with
      | true => rw [e2, Bool.not_true, Bool.false_and] at k; exact k
      | false =>
        rw [e2, Bool.not_false, Bool.true_and] at k
        refine iteT (B := Q (.bl true) H) ?_
        exact eq_ct (neg := true) hp hb k2 k
theorem ok_settled {f : Addr} {fd : FuncData} (Z : Facts K t) (F : FunD K "settled" "settled" s_settled f fd .none) (T : Tab P w K mg base 1 (gb_1 K t) bl) : FnOk P w K mg base CX0 2 f fd P_settled (sp_settled K t) := by
  refine F.okW0 sc_settled vi_settled T (rd_settled K t) (fun vs H Q E h => ?_) (fun vs H Q E h => ?_)
  · obtain ⟨x, y, z, b, o, p, rfl, _⟩ := h; rfl
  · obtain ⟨x, y, z, b, o, p, rfl, h3, k⟩ := h
    obtain ⟨hb, ho, hp, k1, k2⟩ := h3
    refine ⟨x, y, z, b, o, p, rfl, ⟨hb, ho, hp, k1, k2⟩, ?_⟩
    unfold settle at k
    refine ite2 (fun hc => ?_) (fun hc => ?_)
    · rw [if_pos hc] at k; exact k _ hb
    · rw [if_neg hc] at k
      refine eq_ct (neg := false) ho hb k1 ?_
      refine ite2 (fun e => ?_) (fun e => ?_)
      · rw [if_pos (of_decide_eq_true e)] at k; exact k _ hp
      · rw [if_neg (fun z => e (decide_eq_true z))] at k; exact k _ ho
theorem ok_joined_whole {f : Addr} {fd : FuncData} (Z : Facts K t) (F : FunD K "joined_whole" "joined_whole" s_joined_whole f fd .none) (T : Tab P w K mg base 2 (gb_2 K t) bl) : FnOk P w K mg base CX0 3 f fd P_joined_whole (sp_joined_whole K t) := by
  refine F.okW0 sc_joined_whole vi_joined_whole T (rd_joined_whole K t) (fun vs H Q E h => ?_) (fun vs H Q E h => ?_)
  · obtain ⟨x, y, z, b, o, p, rfl, _⟩ := h; rfl
  · obtain ⟨x, y, z, b, o, p, rfl, h3, k⟩ := h
    refine ⟨x, y, z, b, o, p, rfl, h3, ?_⟩
    refine ite2 (fun hc => ?_) (fun hc => ?_)
    · refine ⟨by decide, fun l hl => ⟨(show 2 ≤ sizeLine by decide), fun r hr => ?_⟩⟩
      have hr0 : H r = none := (Same.upd hl).free hr
      refine k _ r ((Same.upd hl).set hr0) ⟨x, l, upd_same, ?_, ?_, hr0, hl⟩
      · have e : (whole b o p).1 = b := by unfold whole settle; rw [if_pos hc]
        rw [e]
        exact h3.1.up ((Same.upd hl).set hr0)
      · have e : (whole b o p).2 = [("content" : Str)] := by unfold whole; rw [if_pos hc]
        rw [e, upd_ne (ne_of_none upd_same hr), upd_same]
        rfl
    · refine ⟨x, y, z, b, o, p, rfl, h3, fun u hu => ?_⟩
      refine ⟨by decide, fun l hl => ⟨(show 2 ≤ sizeLine by decide), fun r hr => ?_⟩⟩
      have hr0 : H r = none := (Same.upd hl).free hr
      refine k _ r ((Same.upd hl).set hr0) ⟨u, l, upd_same, hu.up ((Same.upd hl).set hr0), ?_, hr0, hl⟩
      have e : (whole b o p).2 = [] := by unfold whole; rw [if_neg hc]
      rw [e, upd_ne (ne_of_none upd_same hr), upd_same]
      rfl
theorem ok_Kind_joined {f : Addr} {fd : FuncData} (Z : Facts K t) (F : FunD K "joined" "Kind.joined" s_Kind_joined f fd .none) (T : Tab P w K mg base 3 (gb_3 K t) bl) : FnOk P w K mg base CX0 4 f fd P_Kind_joined (sp_Kind_joined K t) := by
  refine F.okW0 sc_Kind_joined vi_Kind_joined T (rd_Kind_joined K t) (fun vs H Q E h => ?_) (fun vs H Q E h => ?_)
  · obtain ⟨s, x, y, z, b, o, p, rfl, _⟩ := h; rfl
  · obtain ⟨s, x, y, z, b, o, p, rfl, e, k⟩ := h
    cases e
    exact ⟨.str x, .str y, .str z, .txt x, .txt y, .txt z, rfl, ⟨rfl, rfl, rfl, rfl, rfl⟩, k⟩
theorem ok_is_tuple_of {f : Addr} {fd : FuncData} (Z : Facts K t) (F : FunD K "is_tuple_of" "is_tuple_of" s_is_tuple_of f fd .none) (T : Tab P w K mg base 0 (gb_0 K t) bl) : FnOk P w K mg base CX0 1 f fd P_is_tuple_of (sp_is_tuple_of K t) := by
  refine F.okW0 sc_is_tuple_of vi_is_tuple_of T (rd_is_tuple_of K t) (fun vs H Q E h => ?_) (fun vs H Q E h => ?_)
  · obtain ⟨a, xs, m, rfl, _⟩ := h; rfl
  · obtain ⟨a, xs, m, rfl, hq, k⟩ := h
    exact ⟨_, true, .sqT rfl hq rfl, rfl, xs, .inr hq, chain_int k⟩
end
end K22

set_option maxRecDepth 100000
set_option maxHeartbeats 4000000
namespace K22
open PySem L2
section
variable {P : Program} {w : World} {K : PySem.W.Frag} {mg : Str → Option Value} {base : Heap} {t : Adr}
theorem len1_6 {n : Nat} (h1 : 1 ≤ n) (h2 : n ≤ 6) : (decide (1 ≤ (n : Int)) && decide ((n : Int) ≤ 6)) = true := by simp; omega
theorem ok_is_row {f : Addr} {fd : FuncData} (Z : Facts K t) (F : FunD K "is_row" "is_row" s_is_row f fd .none) (T : Tab P w K mg base 2 (gb_2 K t) bl) : FnOk P w K mg base CX0 3 f fd P_is_row (sp_is_row K t) := by
  refine F.okW0 sc_is_row vi_is_row T (rd_is_row K t) (fun vs H Q E h => ?_) (fun vs H Q E h => ?_)
  · obtain ⟨x, r, m, rfl, _⟩ := h; rfl
  · obtain ⟨x, r, m, rfl, hx, m1, m2, ⟨hl, hw⟩, k⟩ := h
    obtain ⟨a, rfl, hq⟩ := at_tupS' (show At K H (.tup (r.map strD)) x from hx)
    refine ⟨a, _, 6, rfl, hq, ?_⟩
    refine iteTe (by rw [List.length_map, hl]; exact len1_6 m1 m2) ?_
    refine .inr ⟨⟨_, hq⟩, ?_⟩
    refine fun D hD => all_true (K := K) (yl_tup _) (fun σ => σ.length = 1) hD (fun H1 S => S.seqT hq) ?_ rfl (fun σ x hσ => by rw [List.length_set]; exact hσ) ?_ (fun H' S q => ⟨_, q, by rw [all_yes]; exact k H' S⟩)
    · rw [List.length_map, hl]; exact Nat.lt_of_le_of_lt m2 (by decide)
    · intro x σ H1 Q1 hx hσ S hk
      obtain ⟨z, hz, rfl⟩ := List.mem_map.mp hx
      match σ, hσ with
      | [_], _ => exact ⟨z, rfl, hw z hz, hk⟩
theorem ok_Table_fits {f : Addr} {fd : FuncData} (Z : Facts K t) (F : FunD K "fits" "Table.fits" s_Table_fits f fd .none) (T : Tab P w K mg base 3 (gb_3 K t) bl) : FnOk P w K mg base CX0 4 f fd P_Table_fits (sp_Table_fits K t) := by
  refine F.okW0 sc_Table_fits vi_Table_fits T (rd_Table_fits K t) (fun vs H Q E h => ?_) (fun vs H Q E h => ?_)
  · obtain ⟨s, x, c, rfl, _⟩ := h; rfl
  · obtain ⟨s, x, c, rfl, hx, hw, k⟩ := h
    obtain ⟨a, xs, rfl, hq, hl, hr⟩ := row_at hx
    have hlt : xs.length < sizeLine := by rw [hl]; exact Nat.lt_of_le_of_lt hw.2.1 (by decide)
    refine ⟨a, xs, 6, rfl, hq, ?_⟩
    refine iteFe (by rw [hl, len1_6 hw.1 hw.2.1]; rfl) ?_
    refine .inr ⟨⟨_, hq⟩, ?_⟩
    refine fun D hD => all_true (K := K) (yl_tup xs) (fun σ => σ.length = 1) hD (fun H1 S => S.seqT hq) hlt rfl (fun σ x hσ => by rw [List.length_set]; exact hσ) ?_ ?_
    · intro y σ H1 Q1 hy hσ S hk
      obtain ⟨i, hi, rfl⟩ := List.getElem_of_mem hy
      have hi' : i < c.length := by omega
      obtain ⟨b, hb, hb2⟩ := hr i _ (get_of hi')
      rw [List.getElem?_eq_getElem hi] at hb
      have hb := Option.some.inj hb
      obtain ⟨m, m1, m2, hm⟩ := hw.2.2
      match σ, hσ with
      | [_], _ =>
        refine ⟨.ref b, c.getD i [], m, ?_, ?_, m1, m2, hm _ (List.mem_of_getElem? (get_of hi')), hk⟩
        · rw [← hb]; rfl
        · exact at_tupS (S.seqT hb2)
    · intro H1 S1 q1
      refine ⟨_, q1, iteFe (by rw [all_yes]; rfl) ?_⟩
      refine .inr ⟨⟨_, S1.seqT hq⟩, ?_⟩
      refine fun D2 hD2 => all_true (K := K) (yl_tup xs) (fun σ => ∃ v, σ = [v, some (.ref a)]) hD2 (fun H1 S => S.seqT (S1.seqT hq)) hlt ⟨_, rfl⟩ (fun σ x hσ => by obtain ⟨v, rfl⟩ := hσ; exact ⟨_, rfl⟩) ?_ (fun H' S q => ⟨_, q, by rw [all_yes]; exact k H' (S1.trans S)⟩)
      intro y σ H2 Q1 hy hσ S hk
      obtain ⟨i, hi, rfl⟩ := List.getElem_of_mem hy
      have hi' : i < c.length := by omega
      obtain ⟨b, hb, hb2⟩ := hr i _ (get_of hi')
      obtain ⟨b0, hb0, hb02⟩ := hr 0 _ (get_of (show 0 < c.length by omega))
      rw [List.getElem?_eq_getElem hi] at hb
      have hb := Option.some.inj hb
      obtain ⟨v, rfl⟩ := hσ
      rw [hb]
      have S2 := S1.trans S
      refine ⟨_, .inr (S2.seqT hb2), ?_⟩
      refine ⟨_, _, .inr (S2.seqT hq), atI_some (i := 0) hb0, ?_⟩
      refine ⟨_, .inr (S2.seqT hb02), ?_⟩
      have e : decide ((((c.getD i []).map V.str).length : Int) = (((c.getD 0 []).map V.str).length : Int)) = true := by
        rw [List.length_map, List.length_map, (hw.row hi').1]; simp
      show Q1 (.bl (decide ((((c.getD i []).map V.str).length : Int) = (((c.getD 0 []).map V.str).length : Int)))) H2
      rw [e]
      exact hk H2 (Same.refl _)
theorem ok_shape_of {f : Addr} {fd : FuncData} (Z : Facts K t) (F : FunD K "shape_of" "shape_of" s_shape_of f fd .none) (T : Tab P w K mg base 0 (gb_0 K t) bl) : FnOk P w K mg base CX0 1 f fd P_shape_of (sp_shape_of K t) := by
  refine F.okW0 sc_shape_of vi_shape_of T (rd_shape_of K t) (fun vs H Q E h => ?_) (fun vs H Q E h => ?_)
  · obtain ⟨x, c, rfl, _⟩ := h; rfl
  · obtain ⟨x, c, rfl, hx, hl, k⟩ := h
    obtain ⟨a, xs, rfl, hq, hn, hr⟩ := row_at hx
    obtain ⟨b, hb, hb2⟩ := hr 0 _ (get_of (show 0 < c.length by omega))
    refine ⟨xs, .inr hq, xs, .ref b, .inr hq, atI_some (i := 0) hb, _, .inr hb2, (show 2 ≤ sizeLine by decide), fun r hr => ?_⟩
    refine k _ r (Same.upd hr) ?_ hr
    rw [upd_same, List.length_map, hn]
    rfl
theorem ok_Chapter_word {f : Addr} {fd : FuncData} (Z : Facts K t) (F : FunD K "word" "Chapter.word" s_Chapter_word f fd .none) (T : Tab P w K mg base 0 (gb_0 K t) bl) : FnOk P w K mg base CX0 1 f fd P_Chapter_word (sp_Chapter_word K t) := by
  refine F.okW0 sc_Chapter_word vi_Chapter_word T (rd_Chapter_word K t) (fun vs H Q E h => ?_) (fun vs H Q E h => ?_)
  · obtain ⟨s, rfl, _⟩ := h; rfl
  · obtain ⟨s, rfl, k⟩ := h; exact k
theorem ok_Para_word {f : Addr} {fd : FuncData} (Z : Facts K t) (F : FunD K "word" "Para.word" s_Para_word f fd .none) (T : Tab P w K mg base 0 (gb_0 K t) bl) : FnOk P w K mg base CX0 1 f fd P_Para_word (sp_Para_word K t) := by
  refine F.okW0 sc_Para_word vi_Para_word T (rd_Para_word K t) (fun vs H Q E h => ?_) (fun vs H Q E h => ?_)
  · obtain ⟨s, rfl, _⟩ := h; rfl
  · obtain ⟨s, rfl, k⟩ := h; exact k
theorem ok_Table_word {f : Addr} {fd : FuncData} (Z : Facts K t) (F : FunD K "word" "Table.word" s_Table_word f fd .none) (T : Tab P w K mg base 0 (gb_0 K t) bl) : FnOk P w K mg base CX0 1 f fd P_Table_word (sp_Table_word K t) := by
  refine F.okW0 sc_Table_word vi_Table_word T (rd_Table_word K t) (fun vs H Q E h => ?_) (fun vs H Q E h => ?_)
  · obtain ⟨s, rfl, _⟩ := h; rfl
  · obtain ⟨s, rfl, k⟩ := h; exact k
/-- == of two shapes -/
theorem eq_shape {H : Hp} {r q : Addr} {a b c d : Nat} {Q : VK} (h : H r = some (.tup [.int a, .int b])) (h' : H q = some (.tup [.int c, .int d])) (k : Q (.bl (decide ((a, b) = (c, d)))) H) : rEqD K false (.ref r) (.ref q) H Q := by
  refine .inr ⟨.tup [.at_ (.int a), .at_ (.int b)], .tup [.at_ (.int c), .at_ (.int d)], at_tup (SqT.of h) (atL_cons (at_flat rfl) (atL_cons (at_flat rfl) atL_nil)), at_tup (SqT.of h') (atL_cons (at_flat rfl) (atL_cons (at_flat rfl) atL_nil)), ?_, ?_⟩
  · have : dep (.tup [.at_ (.int a), .at_ (.int b)]) = 1 := by simp [dep, deps]
    rw [this]; decide
  · have e : deq (.tup [.at_ (.int a), .at_ (.int b)]) (.tup [.at_ (.int c), .at_ (.int d)]) = decide ((a, b) = (c, d)) := by
      simp only [deq, deqs, eqV]
      rw [Bool.eq_iff_iff]
      simp
      omega
    show Q (.bl (deq (.tup [.at_ (.int a), .at_ (.int b)]) (.tup [.at_ (.int c), .at_ (.int d)]))) H
    rw [e]
    exact k
theorem ok_Table_joined {f : Addr} {fd : FuncData} (Z : Facts K t) (F : FunD K "joined" "Table.joined" s_Table_joined f fd .none) (T : Tab P w K mg base 3 (gb_3 K t) bl) : FnOk P w K mg base CX0 4 f fd P_Table_joined (sp_Table_joined K t) := by
  refine F.okW0 sc_Table_joined vi_Table_joined T (rd_Table_joined K t) (fun vs H Q E h => ?_) (fun vs H Q E h => ?_)
  · obtain ⟨s, x, y, z, b, o, p, rfl, _⟩ := h; rfl
  · obtain ⟨s, x, y, z, b, o, p, rfl, hx, hy, hz, wb, wo, wp, k⟩ := h
    rw [joinC_tab] at k
    have h3 : three K H x y z (.tab b) (.tab o) (.tab p) := ⟨hx, hy, hz, rfl, rfl⟩
    have ec : clash (Ct.tab b) (.tab o) (.tab p) = clash b o p := by unfold clash; rw [dec_tab, dec_tab, dec_tab]
    have wh : ∀ H1, Same H H1 → ¬ (clash b o p = true ∧ shape o = shape b ∧ shape p = shape b) → dSeq (dRet (dFn (spE (sp_joined_whole K t) []) (dCons (dVar 1) (dCons (dVar 2) (dCons (dVar 3) dNil))))) dNext (endsOf Q fun _ _ => False) (L2.start N_Table_joined [s, x, y, z]) H1 := fun H1 S hn => by
      rw [if_neg hn] at k
      refine ⟨x, y, z, .tab b, .tab o, .tab p, rfl, ⟨at_up S hx, at_up S hy, at_up S hz, rfl, rfl⟩, fun H' r S' hr => k H' r (S.trans S') ?_⟩
      obtain ⟨u, l, r1, r2, r3, r4, r5⟩ := hr
      exact ⟨u, l, r1, r2, r3, S.free r4, S.free r5⟩
    refine ⟨x, y, z, .tab b, .tab o, .tab p, rfl, h3, ?_⟩
    rw [ec]
    refine ite2 (c := clash b o p = true) (fun hc => ?_) (fun hc => iteF (wh H (Same.refl _) fun z => hc z.1))
    refine ⟨y, o, rfl, hy, wo.1, fun H1 r1 S1 e1 f1 => ⟨x, b, rfl, at_up S1 hx, wb.1, fun H2 r2 S2 e2 f2 => ?_⟩⟩
    refine eq_shape (S2 _ _ e1) e2 ?_
    have S12 := S1.trans S2
    refine ite2 (c := decide (((shape o).1, (shape o).2) = ((shape b).1, (shape b).2)) = true) (fun hs => ?_) (fun hs => iteF (wh H2 S12 fun z => hs (decide_eq_true z.2.1)))
    refine ⟨z, p, rfl, at_up S12 hz, wp.1, fun H3 r3 S3 e3 f3 => ⟨x, b, rfl, at_up (S12.trans S3) hx, wb.1, fun H4 r4 S4 e4 f4 => ?_⟩⟩
    refine eq_shape (S4 _ _ e3) e4 ?_
    have S14 := (S12.trans S3).trans S4
    refine ite2 (c := decide (((shape p).1, (shape p).2) = ((shape b).1, (shape b).2)) = true) (fun hs2 => ?_) (fun hs2 => wh H4 S14 fun z => hs2 (decide_eq_true z.2.2))
    have s1 : shape o = shape b := of_decide_eq_true hs
    have s2 : shape p = shape b := of_decide_eq_true hs2
    rw [if_pos ⟨hc, s1, s2⟩] at k
    refine ⟨x, y, z, b, o, p, rfl, at_up S14 hx, at_up S14 hy, at_up S14 hz, wb, wo, wp, s1, s2, fun H' r S' hr => k H' r (S14.trans S') ?_⟩
    obtain ⟨u, l, r1, r2, r3, r4, r5⟩ := hr
    exact ⟨u, l, r1, r2, r3, S14.free r4, S14.free r5⟩
end
end K22

set_option maxRecDepth 100000
set_option maxHeartbeats 4000000
namespace K22
open PySem L2
section
variable {P : Program} {w : World} {K : PySem.W.Frag} {mg : Str → Option Value} {base : Heap} {t : Adr}
theorem new_ins {H : Hp} {a dx C : Addr} (ha : H a = none) (hd : H dx = none) : Same H (upd (upd H dx (.own a)) a (.ins C dx [])) := (Same.upd hd).set ha
theorem kw0 : ¬ (("para" : Str) = "chapter") := by decide
theorem kw1 : ¬ (("table" : Str) = "chapter") := by decide
theorem kw2 : ¬ (("table" : Str) = "para") := by decide
theorem ok_kind_of_word {f : Addr} {fd : FuncData} (Z : Facts K t) (F : FunD K "kind_of_word" "kind_of_word" s_kind_of_word f fd .none) (T : Tab P w K mg base 1 (gb_1 K t) bl) : FnOk P w K mg base CX0 2 f fd P_kind_of_word (sp_kind_of_word K t) := by
  refine F.okW0 sc_kind_of_word vi_kind_of_word T (rd_kind_of_word K t) (fun vs H Q E h => ?_) (fun vs H Q E h => ?_)
  · obtain ⟨w, rfl, _⟩ := h; rfl
  · obtain ⟨w, rfl, hw, k⟩ := h
    refine ⟨rfl, ?_⟩
    refine ⟨rfl, fun a1 d1 ha1 hd1 n1 => ?_⟩
    have S1 := new_ins (C := t.c_Chapter) ha1 hd1
    have e1 : upd (upd H d1 (.own a1)) a1 (.ins t.c_Chapter d1 []) a1 = some (.ins t.c_Chapter d1 []) := upd_same
    generalize upd (upd H d1 (.own a1)) a1 (.ins t.c_Chapter d1 []) = H1 at S1 e1 ⊢
    refine ⟨rfl, fun a2 d2 ha2 hd2 n2 => ?_⟩
    have S2 := new_ins (C := t.c_Para) ha2 hd2
    have e2 : upd (upd H1 d2 (.own a2)) a2 (.ins t.c_Para d2 []) a2 = some (.ins t.c_Para d2 []) := upd_same
    generalize upd (upd H1 d2 (.own a2)) a2 (.ins t.c_Para d2 []) = H2 at S2 e2 ⊢
    refine ⟨rfl, fun a3 d3 ha3 hd3 n3 => ?_⟩
    have S3 := new_ins (C := t.c_Table) ha3 hd3
    have e3 : upd (upd H2 d3 (.own a3)) a3 (.ins t.c_Table d3 []) a3 = some (.ins t.c_Table d3 []) := upd_same
    generalize upd (upd H2 d3 (.own a3)) a3 (.ins t.c_Table d3 []) = H3 at S3 e3 ⊢
    refine ⟨(show 3 ≤ sizeLine by decide), fun l hl => .inl ⟨⟨_, SqL.of upd_same⟩, ?_⟩⟩
    have S4 := Same.upd (o := .lst [.ref a1, .ref a2, .ref a3]) hl
    have e4 : upd H3 l (.lst [.ref a1, .ref a2, .ref a3]) l = some (.lst [.ref a1, .ref a2, .ref a3]) := upd_same
    generalize upd H3 l (.lst [.ref a1, .ref a2, .ref a3]) = H4 at S4 e4 ⊢
    have f1 := S4 _ _ (S3 _ _ (S2 _ _ e1))
    have f2 := S4 _ _ (S3 _ _ e2)
    have f3 := S4 _ _ e3
    have S := ((S1.trans S2).trans S3).trans S4
    refine for_by (yl_list [.ref a1, .ref a2, .ref a3]) (fun i σ H' => H' = H4 ∧ (∃ v, σ = [some (.str w), v]) ∧ (1 ≤ i → w ≠ "chapter") ∧ (2 ≤ i → w ≠ "para") ∧ (3 ≤ i → w ≠ "table")) ⟨rfl, ⟨_, rfl⟩, (fun h => by omega), (fun h => by omega), (fun h => by omega)⟩ (fun i σ H' _ q => q.1 ▸ SqL.of e4) ?_ ?_
    · rintro i x σ H' hx ⟨rfl, ⟨v, rfl⟩, g1, g2, g3⟩
      match i, hx with
      | 0, hx =>
        cases hx
        refine ⟨a1, d1, [], ⟨t.c_Chapter, i_Chapter_word K t⟩, rfl, .head _, f1, rfl, ⟨Nat.le_refl 1, Nat.le_refl 1⟩, _, rfl, ?_⟩
        refine ite2 (c := decide (("chapter" : Str) = w) = true) (fun e => ?_) (fun e => ⟨rfl, ⟨_, rfl⟩, fun _ z => e (decide_eq_true z.symm), (fun h => by omega), (fun h => by omega)⟩)
        have e := of_decide_eq_true e
        subst e
        refine k _ a1 d1 S ?_
        rw [f1]
        unfold clsOf
        rw [if_pos rfl]
      | 1, hx =>
        cases hx
        refine ⟨a2, d2, [], ⟨t.c_Para, i_Para_word K t⟩, rfl, .tail _ (.head _), f2, rfl, ⟨Nat.le_refl 1, Nat.le_refl 1⟩, _, rfl, ?_⟩
        refine ite2 (c := decide (("para" : Str) = w) = true) (fun e => ?_) (fun e => ⟨rfl, ⟨_, rfl⟩, fun _ => g1 (by omega), fun _ z => e (decide_eq_true z.symm), (fun h => by omega)⟩)
        have e := of_decide_eq_true e
        subst e
        refine k _ a2 d2 S ?_
        rw [f2]
        unfold clsOf
        rw [if_neg kw0, if_pos rfl]
      | 2, hx =>
        cases hx
        refine ⟨a3, d3, [], ⟨t.c_Table, i_Table_word K t⟩, rfl, .tail _ (.tail _ (.head _)), f3, rfl, ⟨Nat.le_refl 1, Nat.le_refl 1⟩, _, rfl, ?_⟩
        refine ite2 (c := decide (("table" : Str) = w) = true) (fun e => ?_) (fun e => ⟨rfl, ⟨_, rfl⟩, fun _ => g1 (by omega), fun _ => g2 (by omega), fun _ z => e (decide_eq_true z.symm)⟩)
        have e := of_decide_eq_true e
        subst e
        refine k _ a3 d3 S ?_
        rw [f3]
        unfold clsOf
        rw [if_neg kw1, if_neg kw2]
      | n + 3, hx => cases hx
    · rintro σ H' ⟨rfl, _, g1, g2, g3⟩
      rcases hw with h | h | h
      · exact absurd h (g1 (show 1 ≤ 3 by decide))
      · exact absurd h (g2 (show 2 ≤ 3 by decide))
      · exact absurd h (g3 (show 3 ≤ 3 by decide))
theorem rowJ_succ (b o p : Tb) (i j : Nat) : rowJ b o p i (j + 1) = rowJ b o p i j ++ [settle (cell b i j) (cell o i j) (cell p i j)] := by
  unfold rowJ; rw [List.range_succ, List.map_append]; rfl
theorem rowW_succ (b o p : Tb) (i j : Nat) : rowW b o p i (j + 1) = rowW b o p i j ++ (if clash (cell b i j) (cell o i j) (cell p i j) = true then [wordC i j] else []) := by
  unfold rowW; rw [List.range_succ, List.flatMap_append]; simp
theorem joinT_succ (b o p : Tb) (i n : Nat) : joinT b o p (i + 1) n = joinT b o p i n ++ [rowJ b o p i n] := by
  unfold joinT; rw [List.range_succ, List.map_append]; rfl
theorem wordsT_succ (b o p : Tb) (i n : Nat) : wordsT b o p (i + 1) n = wordsT b o p i n ++ rowW b o p i n := by
  unfold wordsT; rw [List.range_succ, List.flatMap_append]; simp
theorem rowW_len (b o p : Tb) (i n : Nat) : (rowW b o p i n).length ≤ n := by
  induction n with
  | zero => exact Nat.le_refl _
  | succ n ih =>
    rw [rowW_succ, List.length_append]
    have : (if clash (cell b i n) (cell o i n) (cell p i n) = true then [wordC i n] else []).length ≤ 1 := by split <;> simp
    omega
theorem wordsT_len (b o p : Tb) (m n : Nat) : (wordsT b o p m n).length ≤ m * n := by
  induction m with
  | zero => exact Nat.zero_le _
  | succ m ih =>
    rw [wordsT_succ, List.length_append, Nat.succ_mul]
    have := rowW_len b o p m n
    omega
theorem rng_at {n i : Nat} {x : V} (h : (rngV 0 n)[i]? = some x) : i < n ∧ x = .int (i : Int) := by
  have hi : i < n := by
    have := (List.getElem?_eq_some_iff.mp h).1
    rw [rngV_len] at this
    exact this
  rw [rngV_get hi] at h
  have := Option.some.inj h
  rw [Int.zero_add] at this
  exact ⟨hi, this.symm⟩
theorem shape_facts {b o : Tb} (h : shape o = shape b) : o.length = b.length ∧ (o.getD 0 []).length = (b.getD 0 []).length := ⟨congrArg Prod.fst h, congrArg Prod.snd h⟩
/-- what stands between two rows -/
structure RowsInv (K : PySem.W.Frag) (H : Hp) (b o p : Tb) (n lr lw i : Nat) (ws : List Str) (H' : Hp) : Prop where
  S : Same H H'
  rows : ∃ ys, H' lr = some (.lst ys) ∧ ys.length = i ∧ AtL K H' ((joinT b o p i n).map rowD) ys
  words : H' lw = some (.lst (ws.map V.str))
theorem RowsInv.same {H H' H2 : Hp} {b o p : Tb} {n lr lw i : Nat} {ws : List Str} (h : RowsInv K H b o p n lr lw i ws H') (S : Same H' H2) : RowsInv K H b o p n lr lw i ws H2 := by
  obtain ⟨ys, h1, h2, h3⟩ := h.rows
  exact ⟨h.S.trans S, ⟨ys, S _ _ h1, h2, atL_up S h3⟩, S _ _ h.words⟩
/-- another list changes -/
theorem RowsInv.other {H H' : Hp} {b o p : Tb} {n lr lw i lc : Nat} {ws : List Str} {zs us : List V} (h : RowsInv K H b o p n lr lw i ws H') (hc : H' lc = some (.lst zs)) (h0 : H lc = none) (n1 : lc ≠ lr) (n2 : lc ≠ lw) : RowsInv K H b o p n lr lw i ws (upd H' lc (.lst us)) := by
  obtain ⟨ys, h1, h2, h3⟩ := h.rows
  exact ⟨h.S.set h0, ⟨ys, by rw [upd_ne (Ne.symm n1)]; exact h1, h2, rowsS_keep (TKeep.lst hc) h3⟩, by rw [upd_ne (Ne.symm n2)]; exact h.words⟩
/-- a word more -/
theorem RowsInv.word {H H' : Hp} {b o p : Tb} {n lr lw i : Nat} {ws : List Str} {z : Str} (h : RowsInv K H b o p n lr lw i ws H') (h0 : H lw = none) (n1 : lw ≠ lr) : RowsInv K H b o p n lr lw i (ws ++ [z]) (upd H' lw (.lst (ws.map V.str ++ [.str z]))) := by
  obtain ⟨ys, h1, h2, h3⟩ := h.rows
  exact ⟨h.S.set h0, ⟨ys, by rw [upd_ne (Ne.symm n1)]; exact h1, h2, rowsS_keep (TKeep.lst h.words) h3⟩, by rw [upd_same, List.map_append]; rfl⟩
/-- a row more -/
theorem RowsInv.row {H H' : Hp} {b o p : Tb} {n lr lw i r : Nat} {ws : List Str} {ys : List V} (h : RowsInv K H b o p n lr lw i ws H') (e : H' lr = some (.lst ys)) (hr : H' r = some (.tup ((rowJ b o p i n).map V.str))) (h0 : H lr = none) (n1 : lw ≠ lr) : RowsInv K H b o p n lr lw (i + 1) ws (upd H' lr (.lst (ys ++ [.ref r]))) := by
  obtain ⟨ys', h1, h2, h3⟩ := h.rows
  rw [h1] at e
  cases e
  refine ⟨h.S.set h0, ⟨_, upd_same, by rw [List.length_append, h2]; rfl, ?_⟩, by rw [upd_ne n1]; exact h.words⟩
  rw [joinT_succ, List.map_append]
  refine atL_app (rowsS_keep (TKeep.lst h1) h3) (atL_cons ?_ atL_nil)
  exact at_tupS (TKeep.lst h1 _ _ (SqT.of hr))
theorem RowsInv.len {H H' : Hp} {b o p : Tb} {n lr lw i : Nat} {ws : List Str} {ys : List V} (h : RowsInv K H b o p n lr lw i ws H') (e : H' lr = some (.lst ys)) : ys.length = i := by
  obtain ⟨ys', h1, h2, h3⟩ := h.rows
  rw [h1] at e
  cases e
  exact h2
theorem log2_small {n : Nat} (h : n < 100) : ((n : Int)).natAbs.log2 < 1920 := by
  rw [Int.natAbs_natCast]
  by_cases e : n = 0
  · subst e; decide
  · have := Nat.log2_lt e |>.mpr (show n < 2 ^ 10 by omega)
    omega
theorem numS (n : Nat) (h : n < 100) : (Str.ofString (toString (n : Int))).length ≤ 102 := by
  have := PyProof.Rows.len_str_of_int (n : Int)
  rw [Int.natAbs_natCast] at this
  omega
theorem word_eq (i j : Nat) : ((((Str.empty ++ Str.ofString "cell ") ++ Str.ofString (toString (i : Int))) ++ Str.ofString " ") ++ Str.ofString (toString (j : Int))) = wordC i j := by
  have e : Str.empty ++ Str.ofString "cell " = Str.ofString "cell " := by decide +kernel
  unfold wordC
  rw [e]
theorem app_len (a b : Str) : (a ++ b).length = a.length + b.length := PySem.strLen_append a b
theorem ok_joined_cells {f : Addr} {fd : FuncData} (Z : Facts K t) (F : FunD K "joined_cells" "joined_cells" s_joined_cells f fd .none) (T : Tab P w K mg base 2 (gb_2 K t) bl) : FnOk P w K mg base CX0 3 f fd P_joined_cells (sp_joined_cells K t) := by
  refine F.okW0 sc_joined_cells vi_joined_cells T (rd_joined_cells K t) (fun vs H Q E h => ?_) (fun vs H Q E h => ?_)
  · obtain ⟨x, y, z, b, o, p, rfl, _⟩ := h; rfl
  · obtain ⟨x, y, z, b, o, p, rfl, hx, hy, hz, wb, wo, wp, so, sp, k⟩ := h
    obtain ⟨eo, fo⟩ := shape_facts so
    obtain ⟨ep, fp⟩ := shape_facts sp
    have h0 := wb.row (i := 0) wb.1
    have hm : b.length ≤ 6 := wb.2.1
    have hn : (b.getD 0 []).length ≤ 6 := h0.2.2.1
    refine ⟨by decide, fun lr hlr => ?_⟩
    refine ⟨by decide, fun lw hlw => ?_⟩
    have hlw0 : H lw = none := (Same.upd hlr).free hlw
    have nwr : lw ≠ lr := (ne_of_none upd_same hlw).symm
    have I0 : RowsInv K H b o p (b.getD 0 []).length lr lw 0 [] (upd (upd H lr (.lst [])) lw (.lst [])) :=
      ⟨(Same.upd hlr).set hlw0, ⟨[], by rw [upd_ne (Ne.symm nwr), upd_same], rfl, atL_nil⟩, upd_same⟩
    generalize upd (upd H lr (.lst [])) lw (.lst []) = H1 at I0 ⊢
    obtain ⟨a, xs, rfl, hq, hl, hr⟩ := row_at hx
    obtain ⟨a2, xs2, rfl, hq2, hl2, hr2⟩ := row_at hy
    obtain ⟨a3, xs3, rfl, hq3, hl3, hr3⟩ := row_at hz
    refine ⟨xs, .inr (I0.S.seqT hq), ?_⟩
    rw [hl]
    refine ⟨⟨by omega, by omega⟩, ?_⟩
    rw [Int.toNat_natCast]
    refine for_by (yl_range 0 b.length) (fun i σ H' => (∃ c5 c6 c7 c8, σ = [some (.ref a), some (.ref a2), some (.ref a3), some (.ref lr), some (.ref lw), c5, c6, c7, c8]) ∧ RowsInv K H b o p (b.getD 0 []).length lr lw i (wordsT b o p i (b.getD 0 []).length) H')
      ⟨⟨_, _, _, _, rfl⟩, I0⟩ (fun _ _ _ _ _ => True.intro) ?_ ?_
    · rintro i x σ H2 hxi ⟨⟨c5, c6, c7, c8, rfl⟩, I2⟩
      obtain ⟨hi, rfl⟩ := rng_at hxi
      refine ⟨by decide, fun lc hlc => ?_⟩
      have hlc0 : H lc = none := I2.S.free hlc
      have ncr : lc ≠ lr := by
        obtain ⟨ys, e, _⟩ := I2.rows
        exact (ne_of_none e hlc).symm
      have ncw : lc ≠ lw := (ne_of_none I2.words hlc).symm
      have I3 := I2.same (Same.upd (o := .lst []) hlc)
      have ec : upd H2 lc (.lst []) lc = some (.lst ((rowJ b o p i 0).map V.str)) := upd_same
      generalize upd H2 lc (.lst []) = H3 at I3 ec ⊢
      obtain ⟨ri, ri1, ri2, ri3⟩ := wb.row hi
      obtain ⟨b1, hb1, hc1⟩ := hr i _ (get_of hi)
      obtain ⟨b2, hb2, hc2⟩ := hr2 i _ (get_of (t := o) (by omega))
      obtain ⟨b3, hb3, hc3⟩ := hr3 i _ (get_of (t := p) (by omega))
      refine ⟨_, _, .inr (I3.S.seqT hq), atI_some hb1, _, .inr (I3.S.seqT hc1), ?_⟩
      rw [List.length_map, ri]
      refine ⟨⟨by omega, by omega⟩, ?_⟩
      rw [Int.toNat_natCast]
      refine for_by (yl_range 0 (b.getD 0 []).length) (fun j σ H' => (∃ c7 c8, σ = [some (.ref a), some (.ref a2), some (.ref a3), some (.ref lr), some (.ref lw), some (.int (i : Int)), some (.ref lc), c7, c8]) ∧
          RowsInv K H b o p (b.getD 0 []).length lr lw i (wordsT b o p i (b.getD 0 []).length ++ rowW b o p i j) H' ∧ H' lc = some (.lst ((rowJ b o p i j).map V.str)))
        ⟨⟨_, _, rfl⟩, by rw [show rowW b o p i 0 = [] from rfl, List.append_nil]; exact I3, ec⟩ (fun _ _ _ _ _ => True.intro) ?_ ?_
      · rintro j xj σ H4 hxj ⟨⟨c7, c8, rfl⟩, I4, ec4⟩
        obtain ⟨hj, rfl⟩ := rng_at hxj
        have g1 : atI ((b.getD i []).map V.str) (j : Int) = some (.str (cell b i j)) := atI_some (getS_of (r := b.getD i []) (j := j) (by rw [ri]; exact hj))
        have g2 : atI ((o.getD i []).map V.str) (j : Int) = some (.str (cell o i j)) := atI_some (getS_of (r := o.getD i []) (j := j) (by rw [(wo.row (i := i) (by omega)).1]; omega))
        have g3 : atI ((p.getD i []).map V.str) (j : Int) = some (.str (cell p i j)) := atI_some (getS_of (r := p.getD i []) (j := j) (by rw [(wp.row (i := i) (by omega)).1]; omega))
        refine ⟨_, _, .inr (I4.S.seqT hq), atI_some hb1, _, _, .inr (I4.S.seqT hc1), g1, _, _, .inr (I4.S.seqT hq2), atI_some hb2, _, _, .inr (I4.S.seqT hc2), g2, _, _, .inr (I4.S.seqT hq3), atI_some hb3, _, _, .inr (I4.S.seqT hc3), g3, ?_⟩
        refine ⟨(show 3 ≤ sizeLine by decide), fun r3 hr3 => ?_⟩
        have I5 := I4.same (Same.upd (o := .tup [.str (cell b i j), .str (cell o i j), .str (cell p i j)]) hr3)
        have ec5 := Same.upd (o := .tup [.str (cell b i j), .str (cell o i j), .str (cell p i j)]) hr3 _ _ ec4
        have er5 : upd H4 r3 (.tup [.str (cell b i j), .str (cell o i j), .str (cell p i j)]) r3 = some (.tup [.str (cell b i j), .str (cell o i j), .str (cell p i j)]) := upd_same
        generalize upd H4 r3 (.tup [.str (cell b i j), .str (cell o i j), .str (cell p i j)]) = H5 at I5 ec5 er5 ⊢
        have three5 : ∀ H6, Same H5 H6 ∨ TKeep K H5 H6 → SqT K H6 r3 [.str (cell b i j), .str (cell o i j), .str (cell p i j)] := fun H6 h => h.elim (fun S => S.seqT (SqT.of er5)) fun T => T _ _ (SqT.of er5)
        have q5 := three5 H5 (.inl (Same.refl _))
        refine ⟨.inl ⟨rfl, _, SqL.of ec5⟩, _, _, .inr q5, rfl, _, _, .inr q5, rfl, _, _, .inr q5, rfl, ?_⟩
        refine ⟨_, _, _, .txt (cell b i j), .txt (cell o i j), .txt (cell p i j), rfl, ⟨rfl, rfl, rfl, rfl, rfl⟩, fun u hu => ?_⟩
        have es : settle (Ct.txt (cell b i j)) (.txt (cell o i j)) (.txt (cell p i j)) = .txt (settle (cell b i j) (cell o i j) (cell p i j)) := by
          unfold settle clash
          rw [dec_txt, dec_txt, dec_txt]
          split
          · rfl
          · by_cases e : cell o i j = cell b i j
            · rw [if_pos e, if_pos (by rw [e])]
            · rw [if_neg e, if_neg (fun z => e (by injection z))]
        have ecl : clash (Ct.txt (cell b i j)) (.txt (cell o i j)) (.txt (cell p i j)) = clash (cell b i j) (cell o i j) (cell p i j) := by
          unfold clash; rw [dec_txt, dec_txt, dec_txt]
        rw [es] at hu
        cases hu
        refine ⟨lc, _, _, rfl, rfl, ec5, ?_, ?_⟩
        · rw [List.length_map]; unfold rowJ; rw [List.length_map, List.length_range]; exact Nat.lt_of_lt_of_le (show j < 6 by omega) (by decide)
        have I6 := I5.other (us := (rowJ b o p i j).map V.str ++ [.str (settle (cell b i j) (cell o i j) (cell p i j))]) ec5 hlc0 ncr ncw
        have q6 := three5 (upd H5 lc (.lst ((rowJ b o p i j).map V.str ++ [.str (settle (cell b i j) (cell o i j) (cell p i j))]))) (.inr (TKeep.lst ec5))
        have ec6 : upd H5 lc (.lst ((rowJ b o p i j).map V.str ++ [.str (settle (cell b i j) (cell o i j) (cell p i j))])) lc = some (.lst ((rowJ b o p i (j + 1)).map V.str)) := by rw [upd_same, rowJ_succ, List.map_append]; rfl
        generalize upd H5 lc (.lst ((rowJ b o p i j).map V.str ++ [.str (settle (cell b i j) (cell o i j) (cell p i j))])) = H6 at I6 q6 ec6 ⊢
        refine ⟨_, _, .inr q6, rfl, _, _, .inr q6, rfl, _, _, .inr q6, rfl, ?_⟩
        refine ⟨_, _, _, .txt (cell b i j), .txt (cell o i j), .txt (cell p i j), rfl, ⟨rfl, rfl, rfl, rfl, rfl⟩, ?_⟩
        rw [ecl]
        refine ite2 (c := clash (cell b i j) (cell o i j) (cell p i j) = true) (fun hc => ?_) (fun hc => ?_)
        · have n1 := numS i (by omega)
          have n2 := numS j (by omega)
          have c5 : (Str.ofString "cell ").length = 5 := by decide +kernel
          have c1 : (Str.ofString " ").length = 1 := by decide +kernel
          have c0 : Str.empty.length = 0 := by decide +kernel
          have big : 1000 ≤ sizeLine := by decide
          refine ⟨.inl ⟨rfl, _, SqL.of I6.words⟩, by rw [app_len]; omega, log2_small (by omega), by rw [app_len, app_len]; omega, by rw [app_len, app_len, app_len]; omega, log2_small (by omega), by rw [app_len, app_len, app_len, app_len]; omega, by rw [app_len, app_len, app_len, app_len]; omega, ?_⟩
          rw [word_eq]
          refine ⟨lw, _, _, rfl, rfl, I6.words, ?_, ?_⟩
          · rw [List.length_map, List.length_append]
            have l1 := wordsT_len b o p i (b.getD 0 []).length
            have l2 := rowW_len b o p i j
            have l3 : i * (b.getD 0 []).length ≤ 6 * 6 := Nat.mul_le_mul (by omega) hn
            omega
          · refine ⟨⟨_, _, rfl⟩, ?_, ?_⟩
            · rw [rowW_succ, if_pos hc, ← List.append_assoc]
              exact I6.word hlw0 nwr
            · rw [upd_ne ncw]; exact ec6
        · refine ⟨⟨_, _, rfl⟩, ?_, ec6⟩
          rw [rowW_succ, if_neg hc, List.append_nil]
          exact I6
      · rintro σ H4 ⟨⟨c7, c8, rfl⟩, I4, ec4⟩
        rw [rngV_len] at I4 ec4
        obtain ⟨ys, ey, _⟩ := I4.rows
        refine ⟨.inl ⟨rfl, _, SqL.of ey⟩, _, .inl ⟨SqL.of ec4, fun rt hrt => ?_⟩⟩
        have I5 := I4.same (Same.upd (o := .tup ((rowJ b o p i (b.getD 0 []).length).map V.str)) hrt)
        have er : upd H4 rt (.tup ((rowJ b o p i (b.getD 0 []).length).map V.str)) rt = some (.tup ((rowJ b o p i (b.getD 0 []).length).map V.str)) := upd_same
        have ey5 := Same.upd (o := .tup ((rowJ b o p i (b.getD 0 []).length).map V.str)) hrt _ _ ey
        generalize upd H4 rt (.tup ((rowJ b o p i (b.getD 0 []).length).map V.str)) = H5 at I5 er ey5 ⊢
        refine ⟨lr, _, _, rfl, rfl, ey5, ?_, ⟨_, _, _, _, rfl⟩, ?_⟩
        · rw [I5.len ey5]; exact Nat.lt_of_lt_of_le (show i < 6 by omega) (by decide)
        · rw [wordsT_succ]
          exact I5.row ey5 er hlr nwr
    · rintro σ H2 ⟨⟨c5, c6, c7, c8, rfl⟩, I2⟩
      rw [rngV_len] at I2
      obtain ⟨ys, ey, ly, ay⟩ := I2.rows
      refine ⟨_, .inl ⟨SqL.of ey, fun rt hrt => ?_⟩⟩
      refine ⟨(show 2 ≤ sizeLine by decide), fun r hr => ?_⟩
      have St := Same.upd (o := .tup ys) hrt
      have Sr := Same.upd (o := .tup [.ref rt, .ref lw]) hr
      have S2 := (I2.S.trans St).trans Sr
      refine k _ r S2 ⟨.ref rt, lw, upd_same, ?_, (Sr _ _ (St _ _ I2.words)), (I2.S.trans St).free hr, hlw0⟩
      show At K _ (tabD (joinT b o p b.length (b.getD 0 []).length)) (.ref rt)
      exact at_tup (SqT.of (Sr _ _ upd_same)) (atL_up (St.trans Sr) ay)
end
end K22

set_option maxRecDepth 100000
set_option maxHeartbeats 4000000
namespace K22
open PySem L2
section
variable {P : Program} {w : World} {K : PySem.W.Frag} {mg : Str → Option Value} {base : Heap} {t : Adr}
theorem and3 {c1 c2 c3 : Bool} {A B : Prop} (a : A) (b : B) : if c1 = true then (if c2 = true then (if c3 = true then A else B) else (if false = true then A else B)) else (if false = true then A else B) := by
  cases c1 <;> cases c2 <;> cases c3 <;> first | exact iteF (iteF b) | exact iteF b | exact iteT (iteF (iteF b)) | exact iteT (iteT (iteF b)) | exact iteT (iteT (iteT a))
theorem atM {α : Type} {xs : List α} (c : Int) (m : Int) (hm : (xs.length : Int) = m) (h : 0 < m) : ∃ v, v ∈ xs ∧ atI xs (c % m) = some v := by
  have h1 := Int.emod_nonneg c (show m ≠ 0 by omega)
  have h2 := Int.emod_lt_of_pos c h
  have hl : (c % m).toNat < xs.length := by omega
  refine ⟨xs[(c % m).toNat], List.getElem_mem hl, ?_⟩
  unfold atI ixN
  have a1 : ¬ (c % m < 0) := by omega
  have a2 : c % m < (xs.length : Int) := by omega
  simp [a1, a2]
  rw [if_pos h1]
  exact List.getElem?_eq_getElem hl
theorem emod_nat (c : Int) {m : Nat} (h : 0 < m) : ∃ j : Nat, c % (m : Int) = (j : Int) ∧ j < m := by
  have h1 := Int.emod_nonneg c (show (m : Int) ≠ 0 by omega)
  have h2 := Int.emod_lt_of_pos c (show (0 : Int) < (m : Int) by omega)
  exact ⟨(c % (m : Int)).toNat, by omega, by omega⟩
theorem ok_law_cell {f : Addr} {fd : FuncData} (Z : Facts K t) (F : FunD K "_law_cell" "_law_cell" s_law_cell f fd .none) (T : Tab P w K mg base 0 (gb_0 K t) bl) : FnOk P w K mg base CX0 1 f fd P_law_cell (sp_law_cell K t) := by
  refine F.okW0 sc_law_cell vi_law_cell T (rd_law_cell K t) (fun vs H Q E h => ?_) (fun vs H Q E h => ?_)
  · obtain ⟨a, ns, k, rfl, _⟩ := h; rfl
  · obtain ⟨a, ns, k, rfl, hS, q⟩ := h
    refine ⟨_, .inl hS, ite2 (fun hlt => ?_) (fun _ => ⟨.inr ⟨by decide, by decide⟩, q _⟩)⟩
    have hlt : (k : Int) < ((ns.map V.int).length : Int) := of_decide_eq_true hlt
    have hk : k < ns.length := by rw [List.length_map] at hlt; omega
    refine ⟨_, .int ns[k], .inl hS, ?_, q _⟩
    exact atI_some (by rw [List.getElem?_map, List.getElem?_eq_getElem hk]; rfl)
theorem ok_law_stream {f : Addr} {fd : FuncData} (Z : Facts K t) (F : FunD K "_law_stream" "_law_stream" s_law_stream f fd .none) (T : Tab P w K mg base 0 (gb_0 K t) bl) : FnOk P w K mg base CX0 1 f fd P_law_stream (sp_law_stream K t) := by
  refine F.okW0 sc_law_stream vi_law_stream T (rd_law_stream K t) (fun vs H Q E h => ?_) (fun vs H Q E h => ?_)
  · obtain ⟨c, n, rfl, _⟩ := h; rfl
  · obtain ⟨c, n, rfl, hn, k⟩ := h
    refine ⟨by decide, fun l hl => ⟨⟨by decide, by decide⟩, by decide, ⟨by omega, by omega⟩, ?_⟩⟩
    rw [Int.toNat_natCast]
    have m1 := Int.emod_nonneg c (show (2147483629 : Int) ≠ 0 by decide)
    have m2 := Int.emod_lt_of_pos c (show (0 : Int) < 2147483629 by decide)
    refine for_by (yl_range 0 n) (fun i σ H' => (∃ left num v, σ = [some (.int c), some (.int n), some (.ref l), some (.int left), some (.int num), v] ∧ 0 ≤ num ∧ num < 4294967296) ∧ Same H H' ∧ ∃ ns : List Int, ns.length = i ∧ H' l = some (.lst (ns.map V.int)) ∧ ∀ z ∈ ns, 0 ≤ z ∧ z < 2147483648)
      ⟨⟨_, _, _, rfl, by omega, by omega⟩, Same.upd hl, [], rfl, upd_same, (fun z hz => by cases hz)⟩ (fun _ _ _ _ _ => True.intro) ?_ ?_
    · rintro i x σ H' hx ⟨⟨left, num, v, rfl, u1, u2⟩, S, ns, e1, e2, e3⟩
      obtain ⟨hi, rfl⟩ := rng_at hx
      refine ⟨.inr ⟨by decide, by decide⟩, .inl ⟨by decide, by decide⟩, by decide, by decide, ?_⟩
      have w1 := Int.emod_nonneg (num * 48271 + 7919 * (i : Int) + 1) (show (2147483647 : Int) ≠ 0 by decide)
      have w2 := Int.emod_lt_of_pos (num * 48271 + 7919 * (i : Int) + 1) (show (0 : Int) < 2147483647 by decide)
      generalize (num * 48271 + 7919 * (i : Int) + 1) % 2147483647 = nu at w1 w2 ⊢
      have put : ∀ y : Int, 0 ≤ y → y < 2147483648 → Same H (upd H' l (.lst (ns.map V.int ++ [.int y]))) ∧ ∃ ns2 : List Int, ns2.length = i + 1 ∧ upd H' l (.lst (ns.map V.int ++ [.int y])) l = some (.lst (ns2.map V.int)) ∧ ∀ z ∈ ns2, 0 ≤ z ∧ z < 2147483648 := fun y y1 y2 =>
        ⟨S.set hl, ns ++ [y], by rw [List.length_append, e1]; rfl, by rw [upd_same, List.map_append]; rfl, fun z hz => by
          rcases List.mem_append.mp hz with h | h
          · exact e3 z h
          · have : z = y := by simpa using h
            subst this; exact ⟨y1, y2⟩⟩
      have hsz : (ns.map V.int).length < sizeLine := by rw [List.length_map, e1]; exact Nat.lt_of_lt_of_le (show i < 100 by omega) (by decide)
      refine and3 ?_ ?_
      · have y1 := Int.emod_nonneg left (show (268435456 : Int) ≠ 0 by decide)
        have y2 := Int.emod_lt_of_pos left (show (0 : Int) < 268435456 by decide)
        exact ⟨.inl ⟨rfl, _, SqL.of e2⟩, by decide, l, _, _, rfl, rfl, e2, hsz, ⟨by decide, by decide⟩, ⟨_, _, _, rfl, by omega, by omega⟩, put _ y1 (by omega)⟩
      · have y1 := Int.emod_nonneg (nu * nu % 2147483629 * 16807 + (i : Int)) (show (2147483587 : Int) ≠ 0 by decide)
        have y2 := Int.emod_lt_of_pos (nu * nu % 2147483629 * 16807 + (i : Int)) (show (0 : Int) < 2147483587 by decide)
        exact ⟨.inl ⟨rfl, _, SqL.of e2⟩, .inl ⟨by omega, by omega⟩, by decide, .inr ⟨by decide, by decide⟩, by decide, ⟨by decide, by decide⟩, l, _, _, rfl, rfl, e2, hsz, ⟨_, _, _, rfl, by omega, by omega⟩, put _ (by omega) (by omega)⟩
    · rintro σ H' ⟨⟨left, num, v, rfl, _⟩, S, ns, e1, e2, e3⟩
      rw [rngV_len] at e1
      exact k _ l ns S hl e2 e1 e3
theorem in4 {a b c d : Nat} {v : V} (ha : a ≤ 60) (hb : b ≤ 60) (hc : c ≤ 60) (hd : d ≤ 60) (h : v ∈ [V.int a, .int b, .int c, .int d]) : ∃ m : Nat, v = .int (m : Int) ∧ m ≤ 60 := by
  simp only [List.mem_cons, List.not_mem_nil, or_false] at h
  rcases h with rfl | rfl | rfl | rfl
  · exact ⟨a, rfl, ha⟩
  · exact ⟨b, rfl, hb⟩
  · exact ⟨c, rfl, hc⟩
  · exact ⟨d, rfl, hd⟩
def signsS : Str := Str.ofString " !#$&'()*+,-./0123456789:;<=>?@ABCDEFGHIJKLMNOPQRSTUVWXYZ[\\]^_`abcdefghijklmnopqrstuvwxyz{|}~" ++ Str.ofString "\""
theorem signs_ok : signsS.cps.toList.length = 94 ∧ signsS.cps.toList.all textC = true := by decide +kernel
theorem five_ok : (Str.ofString "|/\\a ").cps.toList.length = 5 ∧ (Str.ofString "|/\\a ").cps.toList.all textC = true := by decide +kernel
theorem str_len (z : Str) : z.cps.toList.length = z.length := by simp [Str.length]
theorem app_cps (a b : Str) : (a ++ b).cps.toList = a.cps.toList ++ b.cps.toList := by
  show (a.cps ++ b.cps).toList = _
  simp
theorem wf_add {z : Str} {c : Nat} (h : z.cps.toList.all textC = true) (hc : textC c = true) : (z ++ ⟨#[c]⟩).cps.toList.all textC = true := by
  rw [app_cps, List.all_append, h]
  simpa using hc
theorem ok_law_text {f : Addr} {fd : FuncData} (Z : Facts K t) (F : FunD K "_law_text" "_law_text" s_law_text f fd .none) (T : Tab P w K mg base 1 (gb_1 K t) bl) : FnOk P w K mg base CX0 2 f fd P_law_text (sp_law_text K t) := by
  refine F.okW0 sc_law_text vi_law_text T (rd_law_text K t) (fun vs H Q E h => ?_) (fun vs H Q E h => ?_)
  · obtain ⟨c, rfl, _⟩ := h; rfl
  · obtain ⟨c, rfl, k⟩ := h
    refine ⟨by decide +kernel, c, 4, rfl, by decide, fun H1 l ns S1 hl el en eb => ?_⟩
    match ns, en with
    | [n0, n1, n2, n3], _ =>
      have q : SqL K H1 l [.int n0, .int n1, .int n2, .int n3] := SqL.of el
      refine ⟨_, _, .inl q, rfl, by decide, _, _, .inl q, rfl, by decide, _, _, .inl q, rfl, by decide, (show 4 ≤ sizeLine by decide), fun p hp => ?_⟩
      have q1 := (Same.upd (o := .lst [.int 0, .int (n1 % 4), .int (n1 % 12), .int (n1 % 61)]) hp).seqL q
      have S2 := S1.trans (Same.upd (o := .lst [.int 0, .int (n1 % 4), .int (n1 % 12), .int (n1 % 61)]) hp)
      have ep : upd H1 p (.lst [.int 0, .int (n1 % 4), .int (n1 % 12), .int (n1 % 61)]) p = some (.lst [.int 0, .int (n1 % 4), .int (n1 % 12), .int (n1 % 61)]) := upd_same
      generalize upd H1 p (.lst [.int 0, .int (n1 % 4), .int (n1 % 12), .int (n1 % 61)]) = H2 at q1 S2 ep ⊢
      refine ⟨_, _, .inl q1, rfl, by decide, ?_⟩
      obtain ⟨v, hv, ev⟩ := atM (xs := [V.int 0, .int (n1 % 4), .int (n1 % 12), .int (n1 % 61)]) n0 4 rfl (by decide)
      obtain ⟨j1, e1, g1⟩ := emod_nat n1 (m := 4) (by decide)
      obtain ⟨j2, e2, g2⟩ := emod_nat n1 (m := 12) (by decide)
      obtain ⟨j3, e3, g3⟩ := emod_nat n1 (m := 61) (by decide)
      have hv2 : v ∈ [V.int ((0 : Nat) : Int), .int j1, .int j2, .int j3] := by
        rw [← e1, ← e2, ← e3]
        exact hv
      obtain ⟨m, rfl, hm⟩ := in4 (by omega) (by omega) (by omega) (by omega) hv2
      refine ⟨_, _, .inl (SqL.of ep), ev, ?_⟩
      refine ⟨c + 1, m, rfl, by omega, fun H3 l2 ns2 S3 hl2 el2 en2 _ => .inl ⟨⟨_, SqL.of el2⟩, ?_⟩⟩
      have q3 := S3.seqL q1
      have S4 := S2.trans S3
      refine for_by (yl_list (ns2.map V.int)) (fun i σ H' => H' = H3 ∧ ∃ z v, σ = [some (.int c), some (.str signsS), some (.ref l), some (.int m), some (.str z), v] ∧ z.length = i ∧ z.cps.toList.all textC = true)
        ⟨rfl, _, _, rfl, by decide +kernel, by decide +kernel⟩ (fun i σ H' _ h => h.1 ▸ SqL.of el2) ?_ ?_
      · rintro i x σ H' hx ⟨rfl, z, v, rfl, lz, az⟩
        have hi : i < m := by
          have := (List.getElem?_eq_some_iff.mp hx).1
          rw [List.length_map, en2] at this
          exact this
        rw [List.getElem?_map] at hx
        obtain ⟨y, _, rfl⟩ := Option.map_eq_some_iff.mp hx
        have big : 1000 ≤ sizeLine := by decide
        refine ⟨_, _, .inl q3, rfl, by decide, ?_⟩
        refine ite2 (fun _ => ?_) (fun _ => ?_)
        · obtain ⟨ch, hc, ec⟩ := atM (xs := (Str.ofString "|/\\a ").cps.toList) y 5 (by rw [five_ok.1]; rfl) (by decide)
          refine ⟨by decide, by decide +kernel, ch, ec, ?_, rfl, _, _, rfl, ?_, wf_add az (List.all_eq_true.mp five_ok.2 ch hc)⟩
          · show z.length + 1 ≤ sizeLine; omega
          · rw [app_len, lz]; rfl
        · obtain ⟨ch, hc, ec⟩ := atM (xs := signsS.cps.toList) y 94 (by rw [signs_ok.1]; rfl) (by decide)
          refine ⟨by decide, ?_, ch, ec, ?_, rfl, _, _, rfl, ?_, wf_add az (List.all_eq_true.mp signs_ok.2 ch hc)⟩
          · have := signs_ok.1; rw [str_len] at this; omega
          · show z.length + 1 ≤ sizeLine; omega
          · rw [app_len, lz]; rfl
      · rintro σ H' ⟨rfl, z, v, rfl, lz, az⟩
        rw [List.length_map, en2] at lz
        exact k z _ S4 ⟨by omega, az⟩
theorem ok_law_content {f : Addr} {fd : FuncData} (Z : Facts K t) (F : FunD K "_law_content" "_law_content" s_law_content f fd .none) (T : Tab P w K mg base 3 (gb_3 K t) bl) : FnOk P w K mg base CX0 4 f fd P_law_content (sp_law_content K t) := by
  refine F.okW0 sc_law_content vi_law_content T (rd_law_content K t) (fun vs H Q E h => ?_) (fun vs H Q E h => ?_)
  · obtain ⟨w, c, rfl, _⟩ := h; rfl
  · obtain ⟨w, c, rfl, k⟩ := h
    refine ite2 (c := decide (w = "table") = true) (fun e => ?_) (fun e => ?_)
    · refine ⟨c, rfl, fun tb H' x S hw hx => k (.tab tb) H' x S hw ?_ hx⟩
      unfold tabS; rw [e]; rfl
    · refine ⟨c, rfl, fun z H' S hz => k (.txt z) H' _ S hz ?_ rfl⟩
      unfold tabS
      have e' : decide (w = "table") = false := by simpa using e
      rw [e']; rfl
end
end K22

set_option maxRecDepth 100000
set_option maxHeartbeats 4000000
namespace K22
open PySem L2
section
variable {P : Program} {w : World} {K : PySem.W.Frag} {mg : Str → Option Value} {base : Heap} {t : Adr}
theorem in3 {a b c : Int} {v : V} (ha : 1 ≤ a ∧ a ≤ 6) (hb : 1 ≤ b ∧ b ≤ 6) (hc : 1 ≤ c ∧ c ≤ 6) (h : v ∈ [V.int a, .int b, .int c]) : ∃ m : Nat, v = .int (m : Int) ∧ 1 ≤ m ∧ m ≤ 6 := by
  have go : ∀ d : Int, 1 ≤ d ∧ d ≤ 6 → ∃ m : Nat, V.int d = .int (m : Int) ∧ 1 ≤ m ∧ m ≤ 6 := fun d hd => ⟨d.toNat, by rw [Int.toNat_of_nonneg (by omega)], by omega, by omega⟩
  simp only [List.mem_cons, List.not_mem_nil, or_false] at h
  rcases h with rfl | rfl | rfl
  · exact go _ ha
  · exact go _ hb
  · exact go _ hc
/-- rows made so far: a list of tuples of texts -/
def RowsAt (K : PySem.W.Frag) (H' : Hp) (lr n i : Nat) : Prop := ∃ (ys : List V) (rs : Tb), H' lr = some (.lst ys) ∧ ys.length = i ∧ rs.length = i ∧ (∀ r ∈ rs, wfR n r) ∧ AtL K H' (rs.map rowD) ys
theorem RowsAt.same {H H' : Hp} {lr n i : Nat} (h : RowsAt K H lr n i) (S : Same H H') : RowsAt K H' lr n i := by
  obtain ⟨ys, rs, h1, h2, h3, h4, h5⟩ := h
  exact ⟨ys, rs, S _ _ h1, h2, h3, h4, atL_up S h5⟩
theorem RowsAt.other {H : Hp} {lr n i lc : Nat} {zs us : List V} (h : RowsAt K H lr n i) (hc : H lc = some (.lst zs)) (ne : lc ≠ lr) : RowsAt K (upd H lc (.lst us)) lr n i := by
  obtain ⟨ys, rs, h1, h2, h3, h4, h5⟩ := h
  exact ⟨ys, rs, by rw [upd_ne (Ne.symm ne)]; exact h1, h2, h3, h4, rowsS_keep (TKeep.lst hc) h5⟩
theorem RowsAt.row {H : Hp} {lr n i r : Nat} {row : List Str} {ys : List V} (h : RowsAt K H lr n i) (e : H lr = some (.lst ys)) (hr : H r = some (.tup (row.map V.str))) (hw : wfR n row) : RowsAt K (upd H lr (.lst (ys ++ [.ref r]))) lr n (i + 1) := by
  obtain ⟨ys', rs, h1, h2, h3, h4, h5⟩ := h
  rw [h1] at e
  cases e
  refine ⟨_, rs ++ [row], upd_same, by rw [List.length_append, h2]; rfl, by rw [List.length_append, h3]; rfl, fun r' hr' => ?_, ?_⟩
  · rcases List.mem_append.mp hr' with q | q
    · exact h4 r' q
    · have : r' = row := by simpa using q
      subst this; exact hw
  · rw [List.map_append]
    exact atL_app (rowsS_keep (TKeep.lst h1) h5) (atL_cons (at_tupS (TKeep.lst h1 _ _ (SqT.of hr))) atL_nil)
theorem RowsAt.done {H H0 : Hp} {lr n i : Nat} (h : RowsAt K H lr n i) (i1 : 1 ≤ i) (i6 : i ≤ 6) (n1 : 1 ≤ n) (n6 : n ≤ 6) {Q : VK} (S : Same H0 H) (k : ∀ c H' x, Same H0 H' → wfT c → At K H' (tabD c) x → Q x H') :
    ∃ ys, (SqL K H lr ys ∧ ∀ l, H l = none → Q (.ref l) (upd H l (.tup ys))) ∨ (SqT K H lr ys ∧ Q (.ref lr) H) := by
  obtain ⟨ys, rs, h1, h2, h3, h4, h5⟩ := h
  refine ⟨ys, .inl ⟨SqL.of h1, fun l hl => ?_⟩⟩
  exact k rs _ _ (S.trans (Same.upd hl)) ⟨by omega, by omega, n, n1, n6, h4⟩ (at_tup (SqT.of upd_same) (atL_up (Same.upd hl) h5))
theorem ok_law_table {f : Addr} {fd : FuncData} (Z : Facts K t) (F : FunD K "_law_table" "_law_table" s_law_table f fd .none) (T : Tab P w K mg base 2 (gb_2 K t) bl) : FnOk P w K mg base CX0 3 f fd P_law_table (sp_law_table K t) := by
  refine F.okW0 sc_law_table vi_law_table T (rd_law_table K t) (fun vs H Q E h => ?_) (fun vs H Q E h => ?_)
  · obtain ⟨c, rfl, _⟩ := h; rfl
  · obtain ⟨c, rfl, k⟩ := h
    refine ⟨c, 3, rfl, by decide, fun H1 l ns S1 hl el en eb => ?_⟩
    match ns, en, eb with
    | [n0, n1, n2], _, eb =>
      have q : SqL K H1 l [.int n0, .int n1, .int n2] := SqL.of el
      have pick : ∀ y : Int, ∃ m : Nat, atI [V.int (1 + y / 3 % 3), .int (1 + y / 3 % 6), .int 6] (y % 3) = some (.int (m : Int)) ∧ 1 ≤ m ∧ m ≤ 6 := fun y => by
        obtain ⟨v, hv, ev⟩ := atM (xs := [V.int (1 + y / 3 % 3), .int (1 + y / 3 % 6), .int 6]) y 3 rfl (by decide)
        obtain ⟨m, rfl, hm⟩ := in3 (by omega) (by omega) (by decide) hv
        exact ⟨m, ev, hm⟩
      obtain ⟨m, em, m1, m6⟩ := pick n0
      obtain ⟨n, en', n1', n6⟩ := pick n1
      refine ⟨_, _, .inl q, rfl, ⟨by decide, by decide⟩, by decide, _, _, .inl q, rfl, ⟨by decide, by decide⟩, by decide, (show 3 ≤ sizeLine by decide), fun p hp => ?_⟩
      have Sp := Same.upd (o := .lst [.int (1 + n0 / 3 % 3), .int (1 + n0 / 3 % 6), .int 6]) hp
      have ep : upd H1 p (.lst [.int (1 + n0 / 3 % 3), .int (1 + n0 / 3 % 6), .int 6]) p = some (.lst [.int (1 + n0 / 3 % 3), .int (1 + n0 / 3 % 6), .int 6]) := upd_same
      generalize upd H1 p (.lst [.int (1 + n0 / 3 % 3), .int (1 + n0 / 3 % 6), .int 6]) = H2 at Sp ep ⊢
      have q2 := Sp.seqL q
      refine ⟨_, _, .inl q2, rfl, by decide, _, _, .inl (SqL.of ep), em, ?_⟩
      refine ⟨_, _, .inl q2, rfl, ⟨by decide, by decide⟩, by decide, _, _, .inl q2, rfl, ⟨by decide, by decide⟩, by decide, (show 3 ≤ sizeLine by decide), fun p2 hp2 => ?_⟩
      have Sp2 := Same.upd (o := .lst [.int (1 + n1 / 3 % 3), .int (1 + n1 / 3 % 6), .int 6]) hp2
      have ep2 : upd H2 p2 (.lst [.int (1 + n1 / 3 % 3), .int (1 + n1 / 3 % 6), .int 6]) p2 = some (.lst [.int (1 + n1 / 3 % 3), .int (1 + n1 / 3 % 6), .int 6]) := upd_same
      generalize upd H2 p2 (.lst [.int (1 + n1 / 3 % 3), .int (1 + n1 / 3 % 6), .int 6]) = H3 at Sp2 ep2 ⊢
      have q3 := Sp2.seqL q2
      refine ⟨_, _, .inl q3, rfl, by decide, _, _, .inl (SqL.of ep2), en', ?_⟩
      have S3 := (S1.trans Sp).trans Sp2
      refine ⟨by decide, fun lr hlr => ⟨⟨by omega, by omega⟩, ?_⟩⟩
      rw [Int.toNat_natCast]
      have hlr0 : H lr = none := S3.free hlr
      refine for_by (yl_range 0 m) (fun i σ H' => (∃ v, σ = [some (.int c), some (.ref l), some (.int m), some (.int n), some (.ref lr), v]) ∧ Same H H' ∧ RowsAt K H' lr n i)
        ⟨⟨_, rfl⟩, S3.trans (Same.upd hlr), [], [], upd_same, rfl, rfl, (fun r hr => by cases hr), atL_nil⟩ (fun _ _ _ _ _ => True.intro) ?_ ?_
      · rintro i x σ H4 hx ⟨⟨v, rfl⟩, S4, R4⟩
        obtain ⟨hi, rfl⟩ := rng_at hx
        have hys : ∃ ys, H4 lr = some (.lst ys) ∧ ys.length = i := by obtain ⟨ys, _, h1, h2, _⟩ := R4; exact ⟨ys, h1, h2⟩
        obtain ⟨ys, ey, ly⟩ := hys
        refine ⟨.inl ⟨rfl, _, SqL.of ey⟩, ⟨by omega, by omega⟩, fun D hD => ?_⟩
        rw [Int.toNat_natCast]
        refine cmp_by (yl_range 0 n) (fun j σ' H' => (∃ v, σ' = [v, some (.int c), some (.int (i : Int))]) ∧ Same H4 H' ∧ ∃ zs : List Str, zs.length = j ∧ (∀ z ∈ zs, wfS z) ∧ H' D = some (.lst (zs.map V.str)))
          ⟨⟨_, rfl⟩, Same.upd hD, [], rfl, (fun z hz => by cases hz), upd_same⟩ (fun _ _ _ _ _ => True.intro) ?_ ?_
        · rintro j xj σ' H5 hxj ⟨⟨v, rfl⟩, S5, zs, e1, e2, e3⟩
          obtain ⟨hj, rfl⟩ := rng_at hxj
          refine ⟨.inl ⟨by decide, by decide⟩, .inl ⟨by decide, by decide⟩, _, rfl, fun z H6 S6 hz => ?_⟩
          refine ⟨_, S6 _ _ e3, ?_, ⟨_, rfl⟩, (S5.trans S6).set hD, zs ++ [z], by rw [List.length_append, e1]; rfl, fun z' hz' => ?_, by rw [upd_same, List.map_append]; rfl⟩
          · rw [List.length_map, e1]; exact Nat.lt_of_lt_of_le (show j < 6 by omega) (by decide)
          · rcases List.mem_append.mp hz' with q | q
            · exact e2 z' q
            · have : z' = z := by simpa using q
              subst this; exact hz
        · rintro σ' H5 ⟨_, S5, zs, e1, e2, e3⟩
          rw [rngV_len] at e1
          refine ⟨_, .inl ⟨SqL.of e3, fun rt hrt => ?_⟩⟩
          have S6 := S5.trans (Same.upd (o := .tup (zs.map V.str)) hrt)
          have er : upd H5 rt (.tup (zs.map V.str)) rt = some (.tup (zs.map V.str)) := upd_same
          generalize upd H5 rt (.tup (zs.map V.str)) = H6 at S6 er ⊢
          exact ⟨lr, _, _, rfl, rfl, S6 _ _ ey, by rw [ly]; exact Nat.lt_of_lt_of_le (show i < 6 by omega) (by decide), ⟨_, rfl⟩, (S4.trans S6).set hlr0, (R4.same S6).row (S6 _ _ ey) er ⟨e1, e2⟩⟩
      · rintro σ H4 ⟨⟨v, rfl⟩, S4, R4⟩
        rw [rngV_len] at R4
        exact R4.done m1 m6 n1' n6 S4 k
end
end K22

set_option maxRecDepth 100000
set_option maxHeartbeats 4000000
namespace K22
open PySem L2
section
variable {P : Program} {w : World} {K : PySem.W.Frag} {mg : Str → Option Value} {base : Heap} {t : Adr}
theorem slice59 {z : Str} (h : wfS z) : (Txt.slice z none (some 59)).length ≤ 59 ∧ (Txt.slice z none (some 59)).cps.toList.all textC = true := by
  constructor
  · by_cases hz : 59 ≤ z.length
    · have e := eq_of_beq (PyProof.Rows.slice_closes_to (x := z) (j := 59) ⟨by decide, by rw [str_len]; omega⟩)
      rw [e]
      show (List.take _ _).toArray.size ≤ 59
      rw [List.size_toArray, List.length_take]
      exact Nat.min_le_left _ _
    · have := Txt.slice_le z none (some 59)
      omega
  · unfold Txt.slice
    split
    · exact h.2
    · rw [List.all_eq_true]
      intro c hc
      have hc : c ∈ List.filterMap (fun i => z.cps[i]?) (PySem.Builtin.Str.strSliceIndices none (some 59) 1 z.length) := by simpa using hc
      obtain ⟨i, _, hi⟩ := List.mem_filterMap.mp hc
      refine List.all_eq_true.mp h.2 c ?_
      rw [← Array.getElem?_toList] at hi
      exact List.mem_of_getElem? hi
theorem wf_cut {z : Str} (h : wfS z) {c : Nat} (hc : textC c = true) : wfS (Txt.slice z none (some 59) ++ ⟨#[c]⟩) := by
  obtain ⟨h1, h2⟩ := slice59 h
  exact ⟨by rw [app_len]; show _ + 1 ≤ 60; omega, wf_add h2 hc⟩
theorem one_x : (Str.ofString "x") = ⟨#[120]⟩ := by decide +kernel
theorem one_y : (Str.ofString "y") = ⟨#[121]⟩ := by decide +kernel
theorem wf_x01 {y : Int} (h : y = 0 ∨ y = 1) : wfS (Str.ofString "x" ++ Str.ofString (toString y)) := by
  rcases h with rfl | rfl
  · exact ⟨by decide +kernel, by decide +kernel⟩
  · exact ⟨by decide +kernel, by decide +kernel⟩
theorem mod2 (y : Int) : y % 2 = 0 ∨ y % 2 = 1 := by omega
theorem log2_01 {y : Int} (h : y = 0 ∨ y = 1) : y.natAbs.log2 < 1920 := by
  rcases h with rfl | rfl <;> decide
theorem ok_law_cells_changed {f : Addr} {fd : FuncData} (Z : Facts K t) (F : FunD K "_law_cells_changed" "_law_cells_changed" s_law_cells_changed f fd .none) (T : Tab P w K mg base 1 (gb_1 K t) bl) : FnOk P w K mg base CX0 2 f fd P_law_cells_changed (sp_law_cells_changed K t) := by
  refine F.okW0 sc_law_cells_changed vi_law_cells_changed T (rd_law_cells_changed K t) (fun vs H Q E h => ?_) (fun vs H Q E h => ?_)
  · obtain ⟨x, b, c, rfl, _⟩ := h; rfl
  · obtain ⟨x, b, c, rfl, hx, wb, k⟩ := h
    obtain ⟨a, xs, rfl, hq, hl, hr⟩ := row_at hx
    have h0 := wb.row (i := 0) wb.1
    have hm : b.length ≤ 6 := wb.2.1
    have hn : (b.getD 0 []).length ≤ 6 := h0.2.2.1
    obtain ⟨bz, hbz, hcz⟩ := hr 0 _ (get_of wb.1)
    refine ⟨c, 38, rfl, by decide, fun H1 l ns S1 hl1 el en eb => ?_⟩
    refine ⟨by decide, fun lr hlr => ⟨xs, .inr ((S1.trans (Same.upd hlr)).seqT hq), ?_⟩⟩
    rw [hl]
    refine ⟨⟨by omega, by omega⟩, ?_⟩
    rw [Int.toNat_natCast]
    have hlr0 : H lr = none := S1.free hlr
    have ql0 : SqL K H1 l (ns.map V.int) := SqL.of el
    have nlr : l ≠ lr := ne_of_none el hlr
    refine for_by (yl_range 0 b.length) (fun i σ H' => (∃ v4 v5 v6 v7, σ = [some (.ref a), some (.int c), some (.ref l), some (.ref lr), v4, v5, v6, v7]) ∧ Same H H' ∧ H' l = some (.lst (ns.map V.int)) ∧ RowsAt K H' lr (b.getD 0 []).length i)
      ⟨⟨_, _, _, _, rfl⟩, S1.trans (Same.upd hlr), by rw [upd_ne nlr]; exact el, [], [], upd_same, rfl, rfl, (fun r hr => by cases hr), atL_nil⟩ (fun _ _ _ _ _ => True.intro) ?_ ?_
    · rintro i x σ H2 hxi ⟨⟨v4, v5, v6, v7, rfl⟩, S2, e2, R2⟩
      obtain ⟨hi, rfl⟩ := rng_at hxi
      refine ⟨by decide, fun lc hlc => ?_⟩
      have hlc0 : H lc = none := S2.free hlc
      have ncl : lc ≠ l := (ne_of_none e2 hlc).symm
      have hys : ∃ ys, H2 lr = some (.lst ys) ∧ ys.length = i := by obtain ⟨ys, _, h1, h2, _⟩ := R2; exact ⟨ys, h1, h2⟩
      obtain ⟨ys, ey, ly⟩ := hys
      have ncr : lc ≠ lr := (ne_of_none ey hlc).symm
      have Sc := Same.upd (o := .lst []) hlc
      have S3 := S2.trans Sc
      have e3 := Sc _ _ e2
      have R3 := R2.same Sc
      have ey3 := Sc _ _ ey
      have ec3 : upd H2 lc (.lst []) lc = some (.lst []) := upd_same
      generalize upd H2 lc (.lst []) = H3 at Sc S3 e3 R3 ey3 ec3 ⊢
      obtain ⟨ri, ri1, ri2, ri3⟩ := wb.row hi
      obtain ⟨b1, hb1, hc1⟩ := hr i _ (get_of hi)
      refine ⟨_, _, .inr (S3.seqT hq), atI_some (i := 0) hbz, _, .inr (S3.seqT hcz), ?_⟩
      rw [List.length_map]
      refine ⟨⟨by omega, by omega⟩, ?_⟩
      rw [Int.toNat_natCast]
      refine for_by (yl_range 0 (b.getD 0 []).length) (fun j σ H' => (∃ v6 v7, σ = [some (.ref a), some (.int c), some (.ref l), some (.ref lr), some (.int (i : Int)), some (.ref lc), v6, v7]) ∧ Same H H' ∧ H' l = some (.lst (ns.map V.int)) ∧ RowsAt K H' lr (b.getD 0 []).length i ∧
          H' lr = some (.lst ys) ∧ ∃ zs : List Str, zs.length = j ∧ (∀ z ∈ zs, wfS z) ∧ H' lc = some (.lst (zs.map V.str)))
        ⟨⟨_, _, rfl⟩, S3, e3, R3, ey3, [], rfl, (fun z hz => by cases hz), ec3⟩ (fun _ _ _ _ _ => True.intro) ?_ ?_
      · rintro j xj σ H4 hxj ⟨⟨v6, v7, rfl⟩, S4, e4, R4, ey4, zs, f1, f2, f3⟩
        obtain ⟨hj, rfl⟩ := rng_at hxj
        have hk : 2 + 6 * i + j < ns.length := by rw [en]; omega
        have hy : atI (ns.map V.int) (2 + 6 * (i : Int) + (j : Int)) = some (.int (ns[2 + 6 * i + j]'hk)) := by
          have e : (2 + 6 * (i : Int) + (j : Int)) = ((2 + 6 * i + j : Nat) : Int) := by omega
          rw [e]
          exact atI_some (by rw [List.getElem?_map, List.getElem?_eq_getElem hk]; rfl)
        generalize ns[2 + 6 * i + j]'hk = y at hy
        have g1 : atI ((b.getD i []).map V.str) (j : Int) = some (.str (cell b i j)) := atI_some (getS_of (r := b.getD i []) (j := j) (by rw [ri]; exact hj))
        have wc : wfS (cell b i j) := wb.cl hi hj
        have m2 := mod2 (y / 4)
        have wx := wf_x01 m2
        have wy : wfS (Txt.slice (cell b i j) none (some 59) ++ Str.ofString "y") := by rw [one_y]; exact wf_cut wc (by decide)
        have big : 1000 ≤ sizeLine := by decide
        refine ⟨.inl ⟨by decide, by decide⟩, _, _, .inl (SqL.of e4), hy, ?_⟩
        refine ⟨.inl ⟨rfl, _, SqL.of f3⟩, _, _, .inr (S4.seqT hq), atI_some hb1, _, _, .inr (S4.seqT hc1), g1, _, _, .inr (S4.seqT hq), atI_some hb1, _, _, .inr (S4.seqT hc1), g1, ⟨by decide, by decide⟩, by decide, log2_01 m2, ?_, _, _, .inr (S4.seqT hq), atI_some hb1, _, _, .inr (S4.seqT hc1), g1, ?_, ?_, (show 4 ≤ sizeLine by decide), fun p hp => ?_⟩
        · have := wx.1; rw [app_len] at this; exact Nat.le_trans this (by omega)
        · have := wc.1; omega
        · have := wy.1; rw [app_len] at this; exact Nat.le_trans this (by omega)
        obtain ⟨v, hv, ev⟩ := atM (xs := [V.str (cell b i j), .str (cell b i j), .str (Str.ofString "x" ++ Str.ofString (toString (y / 4 % 2))), .str (Txt.slice (cell b i j) none (some 59) ++ Str.ofString "y")]) y 4 rfl (by decide)
        have hv2 : ∃ z, v = .str z ∧ wfS z := by
          simp only [List.mem_cons, List.not_mem_nil, or_false] at hv
          rcases hv with rfl | rfl | rfl | rfl
          · exact ⟨_, rfl, wc⟩
          · exact ⟨_, rfl, wc⟩
          · exact ⟨_, rfl, wx⟩
          · exact ⟨_, rfl, wy⟩
        obtain ⟨z, rfl, wz⟩ := hv2
        have Sp := Same.upd (o := .lst [V.str (cell b i j), .str (cell b i j), .str (Str.ofString "x" ++ Str.ofString (toString (y / 4 % 2))), .str (Txt.slice (cell b i j) none (some 59) ++ Str.ofString "y")]) hp
        have qp : SqL K (upd H4 p (.lst [V.str (cell b i j), .str (cell b i j), .str (Str.ofString "x" ++ Str.ofString (toString (y / 4 % 2))), .str (Txt.slice (cell b i j) none (some 59) ++ Str.ofString "y")])) p [V.str (cell b i j), .str (cell b i j), .str (Str.ofString "x" ++ Str.ofString (toString (y / 4 % 2))), .str (Txt.slice (cell b i j) none (some 59) ++ Str.ofString "y")] := SqL.of upd_same
        generalize upd H4 p (.lst [V.str (cell b i j), .str (cell b i j), .str (Str.ofString "x" ++ Str.ofString (toString (y / 4 % 2))), .str (Txt.slice (cell b i j) none (some 59) ++ Str.ofString "y")]) = H5 at Sp qp ⊢
        have f5 := Sp _ _ f3
        refine ⟨by decide, _, _, .inl qp, ev, lc, _, _, rfl, rfl, f5, ?_, ⟨_, _, rfl⟩, (S4.trans Sp).set hlc0, ?_, (R4.same Sp).other f5 ncr, ?_, zs ++ [z], by rw [List.length_append, f1]; rfl, fun z' hz' => ?_, by rw [upd_same, List.map_append]; rfl⟩
        · rw [List.length_map, f1]; exact Nat.lt_of_lt_of_le (show j < 6 by omega) (by decide)
        · rw [upd_ne (Ne.symm ncl)]; exact Sp _ _ e4
        · rw [upd_ne (Ne.symm ncr)]; exact Sp _ _ ey4
        · rcases List.mem_append.mp hz' with q | q
          · exact f2 z' q
          · have : z' = z := by simpa using q
            subst this; exact wz
      · rintro σ H4 ⟨⟨v6, v7, rfl⟩, S4, e4, R4, ey4, zs, f1, f2, f3⟩
        rw [rngV_len] at f1
        refine ⟨.inl ⟨rfl, _, SqL.of ey4⟩, _, .inl ⟨SqL.of f3, fun rt hrt => ?_⟩⟩
        have Sr := Same.upd (o := .tup (zs.map V.str)) hrt
        have er : upd H4 rt (.tup (zs.map V.str)) rt = some (.tup (zs.map V.str)) := upd_same
        generalize upd H4 rt (.tup (zs.map V.str)) = H5 at Sr er ⊢
        refine ⟨lr, _, _, rfl, rfl, Sr _ _ ey4, by rw [ly]; exact Nat.lt_of_lt_of_le (show i < 6 by omega) (by decide), ⟨_, _, _, _, rfl⟩, (S4.trans Sr).set hlr0, ?_, (R4.same Sr).row (Sr _ _ ey4) er ⟨f1, f2⟩⟩
        rw [upd_ne nlr]; exact Sr _ _ e4
    · rintro σ H2 ⟨⟨v4, v5, v6, v7, rfl⟩, S2, e2, R2⟩
      rw [rngV_len] at R2
      exact R2.done wb.1 hm h0.2.1 hn S2 k
theorem row_of {H : Hp} {tb : Tb} {xs : List V} (g : AtL K H (tb.map rowD) xs) : xs.length = tb.length ∧ ∀ (i : Nat) (r : List Str), tb[i]? = some r → ∃ b : Addr, xs[i]? = some (.ref b) ∧ SqT K H b (r.map V.str) := by
  refine ⟨by rw [g.length, List.length_map], fun i r hr => ?_⟩
  obtain ⟨y, hy, hr'⟩ := atL_get g (i := i) (d := rowD r) (by rw [List.getElem?_map, hr]; rfl)
  obtain ⟨b, rfl, hb⟩ := at_tupS' hr'
  exact ⟨b, hy, hb⟩
theorem cut1 {xs : List V} (h : 1 < xs.length) : cutV xs (some 1) none = xs.drop 1 ∧ ¬ (HT.sIx xs.length 0 (some 1) = 0 ∧ HT.sIx xs.length xs.length none = xs.length) := by
  have e : HT.sIx xs.length 0 (some (1 : Int)) = 1 := by
    have := HT.sIx_nat xs.length 0 1
    rw [show ((1 : Nat) : Int) = 1 from rfl] at this
    rw [this]
    omega
  constructor
  · unfold cutV
    rw [e, HT.sIx_none, List.take_of_length_le (by rw [List.length_drop]; omega)]
  · rw [e]; omega
theorem ok_law_made {f : Addr} {fd : FuncData} (Z : Facts K t) (F : FunD K "_law_made" "_law_made" s_law_made f fd .none) (T : Tab P w K mg base 4 (gb_4 K t) bl) : FnOk P w K mg base CX0 5 f fd P_law_made (sp_law_made K t) := by
  refine F.okW0 sc_law_made vi_law_made T (rd_law_made K t) (fun vs H Q E h => ?_) (fun vs H Q E h => ?_)
  · obtain ⟨w, x, b, c, rfl, _⟩ := h; rfl
  · obtain ⟨w, x, b, c, rfl, hx, wb, kb, k⟩ := h
    have big : 1000 ≤ sizeLine := by decide
    refine ⟨by decide, ite2 (fun _ => k b H x (Same.refl _) wb kb hx) fun _ => ?_⟩
    have cont : ∀ H0 : Hp, H0 = H → dRet (dFn (spE (sp_law_content K t) []) (dCons (dVar 0) (dCons (dBin rFdivD (dVar 2) (dC (.int 6))) dNil))) (endsOf Q fun _ _ => False) [some (.str w), some x, some (.int c), some (.int (c % 6))] H0 := fun H0 e => by
      subst e
      exact ⟨⟨by decide, by decide⟩, w, _, rfl, k⟩
    cases b with
    | txt z =>
      cases hx
      have et : decide (w = "table") = false := kb.symm
      have ht : ∀ (A B : Prop), A → if (!decide (w = "table")) = true then A else B := fun A B h => by rw [et]; exact iteT h
      refine ite2 (fun _ => cont H rfl) fun _ => ?_
      refine ht _ _ ?_
      refine ite2 (fun _ => cont H rfl) fun _ => ?_
      refine ht _ _ ?_
      have hz : wfS z := wb
      obtain ⟨h1, h2⟩ := slice59 hz
      refine ⟨by have := hz.1; omega, (show 2 ≤ sizeLine by decide), fun p hp => ?_⟩
      obtain ⟨v, hv, ev⟩ := atM (xs := [V.str "x", .str "y"]) (c / 6) 2 rfl (by decide)
      have hv2 : ∃ ch, v = .str ⟨#[ch]⟩ ∧ textC ch = true := by
        simp only [List.mem_cons, List.not_mem_nil, or_false] at hv
        rcases hv with rfl | rfl
        · exact ⟨120, by rw [one_x], by decide⟩
        · exact ⟨121, by rw [one_y], by decide⟩
      obtain ⟨ch, rfl, hc⟩ := hv2
      refine ⟨⟨by decide, by decide⟩, by decide, _, _, .inl (SqL.of upd_same), ev, ?_, ?_⟩
      · show _ + 1 ≤ sizeLine; omega
      · exact k (.txt _) _ _ (Same.upd hp) (wf_cut hz hc) kb rfl
    | tab tb =>
      have et : decide (w = "table") = true := kb.symm
      have hf : ∀ (A B : Prop), B → if (!decide (w = "table")) = true then A else B := fun A B h => by rw [et]; exact iteF h
      have hw : wfT tb := wb
      obtain ⟨a, xs, rfl, hq, g0⟩ := at_tup' (show At K H (.tup (tb.map rowD)) x from hx)
      obtain ⟨hl, hr⟩ := row_of g0
      have ch : ∀ H0 : Hp, H0 = H → dSeq (dRet (dFn (spE (sp_law_cells_changed K t) []) (dCons (dVar 1) (dCons (dBin rFdivD (dVar 2) (dC (.int 6))) dNil)))) dNext (endsOf Q fun _ _ => False) [some (.str w), some (.ref a), some (.int c), some (.int (c % 6))] H0 := fun H0 e => by
        subst e
        exact ⟨⟨by decide, by decide⟩, .ref a, tb, _, rfl, hx, hw, fun c' H' x' S hw' hx' => k (.tab c') H' x' S hw' kb hx'⟩
      have three : ∀ H0 : Hp, H0 = H → dSeq (dIf (dAnd (dTst (dBin (rEqD K false) (dVar 3) (dC (.int 3)))) (dTst (dBin rLtD (dFn (fun vs H Q _ => (rLen K) vs H Q) (dCons (dVar 1) dNil)) (dC (.int 6))))) (dSeq (dRet (dBin (rAddD K) (dVar 1) (dTup (dCons (dBin (rIxD K) (dVar 1) (dC (.int 0))) dNil)))) dNext) dNext)
          (dSeq (dRet (dFn (spE (sp_law_cells_changed K t) []) (dCons (dVar 1) (dCons (dBin rFdivD (dVar 2) (dC (.int 6))) dNil)))) dNext) (endsOf Q fun _ _ => False) [some (.str w), some (.ref a), some (.int c), some (.int (c % 6))] H0 := fun H0 e => by
        subst e
        refine ite2 (fun _ => ?_) (fun _ => iteF (ch H0 rfl))
        refine ⟨xs, .inr hq, ite2 (fun h6 => ?_) (fun _ => ch H0 rfl)⟩
        have h6 : (xs.length : Int) < 6 := of_decide_eq_true h6
        obtain ⟨b0, hb0, hc0⟩ := hr 0 _ (get_of hw.1)
        have h1 := hw.1
        refine ⟨_, _, .inr hq, atI_some (i := 0) hb0, (show 1 ≤ sizeLine by decide), fun p hp => .inr ⟨a, p, xs, [.ref b0], rfl, rfl, (Same.upd hp).seqT hq, SqT.of upd_same, ?_, ?_, (fun z => by cases z), fun _ p2 hp2 => ?_⟩⟩
        · intro z; rw [z] at hl; simp at hl; omega
        · show xs.length + 1 ≤ sizeLine; omega
        · have S2 := (Same.upd (o := .tup [.ref b0]) hp).trans (Same.upd (o := .tup (xs ++ [.ref b0])) hp2)
          refine k (.tab (tb ++ [tb.getD 0 []])) _ _ S2 ⟨by simp, by simp; omega, ?_⟩ kb ?_
          · obtain ⟨m, m1, m2, hm⟩ := hw.2.2
            refine ⟨m, m1, m2, fun r hr' => ?_⟩
            rcases List.mem_append.mp hr' with q | q
            · exact hm r q
            · have : r = tb.getD 0 [] := by simpa using q
              subst this
              exact hm _ (List.mem_of_getElem? (get_of hw.1))
          · show At K _ (.tup ((tb ++ [tb.getD 0 []]).map rowD)) (.ref p2)
            rw [List.map_append]
            exact at_tup (SqT.of upd_same) (atL_app (atL_up S2 g0) (atL_cons (at_tupS (S2.seqT hc0)) atL_nil))
      refine ite2 (fun _ => cont H rfl) fun _ => ?_
      refine hf _ _ ?_
      refine iteF ?_
      refine hf _ _ ?_
      refine ite2 (fun _ => ?_) (fun _ => iteF (three H rfl))
      refine ⟨xs, .inr hq, ite2 (fun h1 => ?_) (fun _ => three H rfl)⟩
      have h1 : (1 : Int) < (xs.length : Int) := of_decide_eq_true h1
      have h1 : 1 < xs.length := by omega
      obtain ⟨c1, c2⟩ := cut1 h1
      refine .inr ⟨xs, hq, c2, fun p hp => ?_⟩
      rw [c1]
      refine k (.tab (tb.drop 1)) _ _ (Same.upd hp) ⟨by rw [List.length_drop]; omega, by rw [List.length_drop]; have := hw.2.1; omega, ?_⟩ kb ?_
      · obtain ⟨m, m1, m2, hm⟩ := hw.2.2
        exact ⟨m, m1, m2, fun r hr' => hm r (List.mem_of_mem_drop hr')⟩
      · show At K _ (.tup ((tb.drop 1).map rowD)) (.ref p)
        rw [List.map_drop]
        exact at_tup (SqT.of upd_same) (atL_drop (atL_up (Same.upd hp) g0))
end
end K22

set_option maxRecDepth 100000
set_option maxHeartbeats 4000000
namespace K22
open PySem L2
section
variable {P : Program} {w : World} {K : PySem.W.Frag} {mg : Str → Option Value} {base : Heap} {t : Adr}
theorem ok_law_same {f : Addr} {fd : FuncData} (Z : Facts K t) (F : FunD K "_law_same" "_law_same" s_law_same f fd .none) (T : Tab P w K mg base 0 (gb_0 K t) bl) : FnOk P w K mg base CX0 1 f fd P_law_same (sp_law_same K t) := by
  refine F.okW0 sc_law_same vi_law_same T (rd_law_same K t) (fun vs H Q E h => ?_) (fun vs H Q E h => ?_)
  · obtain ⟨r, q, x, y, l, m, c, d, ws, us, rfl, _⟩ := h; rfl
  · obtain ⟨r, q, x, y, l, m, c, d, ws, us, rfl, hr, hq, hc, hd, kk, hl, hm, k⟩ := h
    refine ⟨_, true, .of (TyOf.tup hr), rfl, ?_⟩
    refine ⟨_, .inr (SqT.of hr), ?_⟩
    refine ⟨_, _, .inr (SqT.of hr), rfl, _, true, .of (TyOf.lst hl), rfl, ?_⟩
    refine ⟨_, _, .inr (SqT.of hr), rfl, _, _, .inr (SqT.of hq), rfl, ?_⟩
    refine eq_ct (neg := false) hc hd kk ?_
    cases e : decide (c = d) with
    | false => rw [e, Bool.false_and] at k; exact k
    | true =>
      rw [e, Bool.true_and] at k
      refine iteT (B := Q (.bl true) H) ?_
      refine ⟨_, _, .inr (SqT.of hr), rfl, _, _, .inr (SqT.of hq), rfl, .inr ⟨_, _, at_lstS (SqL.of hl), at_lstS (SqL.of hm), ?_, ?_⟩⟩
      · unfold dep
        exact Nat.le_trans (Nat.succ_le_succ (deps_map dep_strD ws)) (by decide)
      · have e2 : deq (.lst (ws.map strD)) (.lst (us.map strD)) = decide (ws = us) := by unfold deq; exact deqs_map deq_strD ws us
        show Q (.bl (deq (.lst (ws.map strD)) (.lst (us.map strD)))) H
        rw [e2]
        exact k
def shD (s : Nat × Nat) : Dt := .tup [.at_ (.int s.1), .at_ (.int s.2)]
theorem at_shD {H : Hp} {r : Addr} {s : Nat × Nat} (h : H r = some (.tup [.int s.1, .int s.2])) : At K H (shD s) (.ref r) := at_tup (SqT.of h) (atL_cons (at_flat rfl) (atL_cons (at_flat rfl) atL_nil))
theorem deq_shD (a b : Nat × Nat) : deq (shD a) (shD b) = decide (a = b) := by
  obtain ⟨a1, a2⟩ := a
  obtain ⟨b1, b2⟩ := b
  simp only [shD, deq, deqs, eqV]
  rw [Bool.eq_iff_iff]
  simp
  omega
theorem sh_keep {H H' : Hp} {x : V} {s : Nat × Nat} (h : At K H (shD s) x) (k : TKeep K H H') : At K H' (shD s) x := by
  obtain ⟨a, xs, rfl, q, g⟩ := at_tup' h
  refine at_tup (k _ _ q) ?_
  simp only [AtL, At] at g ⊢
  exact g
theorem shs_keep {H H' : Hp} (k : TKeep K H H') : ∀ {cs : List Tb} {xs : List V}, AtL K H (cs.map fun c => shD (shape c)) xs → AtL K H' (cs.map fun c => shD (shape c)) xs
  | [], xs, h => by rw [List.map_nil] at h ⊢; unfold AtL at h ⊢; exact h
  | c :: cs, xs, h => by
    rw [List.map_cons] at h ⊢
    unfold AtL at h
    obtain ⟨y, ys, rfl, h1, h2⟩ := h
    exact atL_cons (sh_keep h1 k) (shs_keep k h2)
theorem dep_shD (s : Nat × Nat) : dep (shD s) ≤ 1 := by simp [shD, dep, deps]
def Alike (b o p : Ct) : Prop := ∃ tb to tp, b = .tab tb ∧ o = .tab to ∧ p = .tab tp ∧ clash tb to tp = true ∧ shape to = shape tb ∧ shape tp = shape tb
theorem res_mk {H H1 : Hp} {c : Ct × List Str} {x : V} {l r : Addr} {ws : List V} (S : Same H H1) (hc : CtAt K H1 c.1 x) (hl : H1 l = none) (hr : (upd H1 l (.lst ws)) r = none) (e : ws = c.2.map V.str) : Same H (upd (upd H1 l (.lst ws)) r (.tup [x, .ref l])) ∧ ResAt K H (upd (upd H1 l (.lst ws)) r (.tup [x, .ref l])) c r := by
  have S1 := Same.upd (o := .lst ws) hl
  have S2 := Same.upd (o := .tup [x, .ref l]) hr
  refine ⟨(S.trans S1).trans S2, x, l, upd_same, hc.up (S1.trans S2), S2 _ _ (by rw [upd_same, e]), (S.trans S1).free hr, S.free hl⟩
theorem head_ok {H : Hp} {Q : VK} {rest : DS} {wd : Str} {x y z : V} {b o p : Ct} (h3 : three K H x y z b o p) (wb : ∀ c, b = .tab c → 1 ≤ c.length) (wo : ∀ c, o = .tab c → 1 ≤ c.length) (wp : ∀ c, p = .tab c → 1 ≤ c.length) (kd : isTab b = tabS wd)
    (kW : ¬ Alike b o p → ∀ H' r, Same H H' → ResAt K H H' (whole b o p) r → Q (.ref r) H')
    (kR : Alike b o p → ∀ H' D, Same H H' → rest (endsOf Q fun _ _ => False) [some (.str wd), some x, some y, some z, none, some (.ref D), none, none, none, none, none, none] H') :
    (dSeq (dIf (dTst (dBin (rEqD K false) (dVar 2) (dVar 3))) (dSeq (dRet (dTup (dCons (dVar 2) (dCons (dLst dNil) dNil)))) dNext) dNext)
    (dSeq (dIf (dOr (dTst (dBin (rEqD K false) (dVar 2) (dVar 1))) (dTst (dBin (rEqD K false) (dVar 3) (dVar 1)))) (dSeq (dRet (dTup (dCons (dBin (rIxD K) (dLst (dCons (dVar 2) (dCons (dVar 3) dNil))) (dFn (fun vs H Q _ => rInt vs H Q) (dCons (dBin (rEqD K false) (dVar 2) (dVar 1)) dNil))) (dCons (dLst dNil) dNil)))) dNext) dNext)
    (dSeq (dSet 5 (dComp [none, some 0] (iVal K (dLst (dCons (dVar 1) (dCons (dVar 2) (dCons (dVar 3) dNil))))) (gdN 0) (dTst (dBin (rEqD K false) (dVar 1) (dC (.str "table")))) (dTup (dCons (dFn (fun vs H Q _ => (rLen K) vs H Q) (dCons (dVar 0) dNil)) (dCons (dFn (fun vs H Q _ => (rLen K) vs H Q) (dCons (dBin (rIxD K) (dVar 0) (dC (.int 0))) dNil)) dNil)))))
    (dSeq (dIf (dOr (dTst (dBin (rEqD K false) (dVar 5) (dLst dNil))) (dTst (dBin rLtD (dMt (rMt K [⟨"list", "list.count", rCount K⟩]) (dVar 5) (dCons (dBin (rIxD K) (dVar 5) (dC (.int 0))) dNil)) (dC (.int 3))))) (dSeq (dRet (dTup (dCons (dVar 1) (dCons (dLst (dCons (dC (.str "content")) dNil)) dNil)))) dNext) dNext)
    rest)))) (endsOf Q fun _ _ => False) [some (.str wd), some x, some y, some z, none, none, none, none, none, none, none, none] H := by
  obtain ⟨hb, ho, hp, k1, k2⟩ := h3
  refine eq_ct (neg := false) ho hp (by rw [k1, k2]) ?_
  refine ite2 (c := decide (o = p) = true) (fun e => ?_) (fun e1 => ?_)
  · have e := of_decide_eq_true e
    subst e
    refine ⟨by decide, fun l hl => ⟨(show 2 ≤ sizeLine by decide), fun r hr => ?_⟩⟩
    have hc : clash b o o = false := by unfold clash; simp
    have ew : whole b o o = (o, []) := by
      unfold whole settle
      rw [hc, if_neg Bool.false_ne_true]
      by_cases e : o = b
      · rw [if_pos e]; rfl
      · rw [if_neg e]; rfl
    obtain ⟨S, R⟩ := res_mk (H := H) (c := whole b o o) (Same.refl _) (by rw [ew]; exact ho) hl hr (by rw [ew]; rfl)
    refine kW (fun h => ?_) _ _ S R
    obtain ⟨tb, to, tp, rfl, rfl, e, hcl, _⟩ := h
    cases e
    have : clash tb to to = false := by unfold clash; simp
    rw [this] at hcl
    cases hcl
  have e1 : ¬ o = p := fun z => e1 (decide_eq_true z)
  have two : (o = b ∨ p = b) → dSeq (dRet (dTup (dCons (dBin (rIxD K) (dLst (dCons (dVar 2) (dCons (dVar 3) dNil))) (dFn (fun vs H Q _ => rInt vs H Q) (dCons (dBin (rEqD K false) (dVar 2) (dVar 1)) dNil))) (dCons (dLst dNil) dNil)))) dNext (endsOf Q fun _ _ => False) [some (.str wd), some x, some y, some z, none, none, none, none, none, none, none, none] H := fun h2 => by
    refine ⟨(show 2 ≤ sizeLine by decide), fun p1 hp1 => ?_⟩
    have S1 := Same.upd (o := .lst [y, z]) hp1
    have q1 : SqL K (upd H p1 (.lst [y, z])) p1 [y, z] := SqL.of upd_same
    generalize upd H p1 (.lst [y, z]) = H1 at S1 q1 ⊢
    refine eq_ct (neg := false) (ho.up S1) (hb.up S1) k1 ?_
    have hc : clash b o p = false := by
      unfold clash
      rcases h2 with e | e <;> simp [e]
    have na : ¬ Alike b o p := fun h => by
      obtain ⟨tb, to, tp, rfl, rfl, rfl, hcl, _⟩ := h
      have : clash (Ct.tab tb) (.tab to) (.tab tp) = clash tb to tp := by unfold clash; rw [dec_tab, dec_tab, dec_tab]
      rw [this, hcl] at hc
      cases hc
    by_cases e : o = b
    · rw [if_neg Bool.false_ne_true, decide_eq_true e]
      refine ⟨_, z, .inl q1, rfl, ?_⟩
      refine ⟨by decide, fun l hl => ⟨(show 2 ≤ sizeLine by decide), fun r hr => ?_⟩⟩
      have ew : whole b o p = (p, []) := by
        unfold whole settle
        rw [hc, if_neg Bool.false_ne_true, if_pos e]; rfl
      obtain ⟨S, R⟩ := res_mk (H := H) (c := whole b o p) S1 (by rw [ew]; exact hp.up S1) hl hr (by rw [ew]; rfl)
      exact kW na _ _ S R
    · rw [if_neg Bool.false_ne_true, decide_eq_false e]
      refine ⟨_, y, .inl q1, rfl, ?_⟩
      refine ⟨by decide, fun l hl => ⟨(show 2 ≤ sizeLine by decide), fun r hr => ?_⟩⟩
      have ew : whole b o p = (o, []) := by
        unfold whole settle
        rw [hc, if_neg Bool.false_ne_true, if_neg e]; rfl
      obtain ⟨S, R⟩ := res_mk (H := H) (c := whole b o p) S1 (by rw [ew]; exact ho.up S1) hl hr (by rw [ew]; rfl)
      exact kW na _ _ S R
  refine eq_ct (neg := false) ho hb k1 ?_
  refine ite2 (c := decide (o = b) = true) (fun e => iteT (two (.inl (of_decide_eq_true e)))) (fun e2 => ?_)
  refine eq_ct (neg := false) hp hb k2 ?_
  refine ite2 (c := decide (p = b) = true) (fun e => two (.inr (of_decide_eq_true e))) (fun e3 => ?_)
  have e2 : ¬ o = b := fun z => e2 (decide_eq_true z)
  have e3 : ¬ p = b := fun z => e3 (decide_eq_true z)
  have hc : clash b o p = true := by unfold clash; simp [e1, e2, e3]
  have ew : whole b o p = (b, [("content" : Str)]) := by unfold whole settle; rw [if_pos hc, if_pos hc]
  have cont : ∀ H1, Same H H1 → ∀ v5, ¬ Alike b o p → dSeq (dRet (dTup (dCons (dVar 1) (dCons (dLst (dCons (dC (.str "content")) dNil)) dNil)))) dNext (endsOf Q fun _ _ => False) [some (.str wd), some x, some y, some z, none, v5, none, none, none, none, none, none] H1 := fun H1 S1 v5 na => by
    refine ⟨(show 1 ≤ sizeLine by decide), fun l hl => ⟨(show 2 ≤ sizeLine by decide), fun r hr => ?_⟩⟩
    obtain ⟨S, R⟩ := res_mk (H := H) (c := whole b o p) S1 (by rw [ew]; exact hb.up S1) hl hr (by rw [ew]; rfl)
    exact kW na _ _ S R
  refine ⟨(show 3 ≤ sizeLine by decide), fun p1 hp1 => .inl ⟨⟨_, SqL.of upd_same⟩, fun D hD => ?_⟩⟩
  have S1 := Same.upd (o := .lst [x, y, z]) hp1
  have q1 : SqL K (upd H p1 (.lst [x, y, z])) p1 [x, y, z] := SqL.of upd_same
  generalize upd H p1 (.lst [x, y, z]) = H1 at S1 q1 hD ⊢
  cases b with
  | txt b =>
    have et : decide (wd = "table") = false := kd.symm
    refine cmp_by (yl_list [x, y, z]) (fun i σ H' => (∃ v, σ = [v, some (.str wd)]) ∧ Same H1 H' ∧ H' D = some (.lst [])) ⟨⟨_, rfl⟩, Same.upd hD, upd_same⟩ (fun i σ H' _ h => h.2.1.seqL q1) ?_ ?_
    · rintro i v σ H2 hx ⟨⟨v0, rfl⟩, S2, e⟩
      refine iteFe (b := decide (wd = "table")) et ?_
      exact ⟨⟨_, rfl⟩, S2, e⟩
    · rintro σ H2 ⟨_, S2, e⟩
      have S12 := S1.trans S2
      refine ⟨by decide, fun l hl => .inr ⟨.lst [], .lst [], at_lst (SqL.of ((Same.upd hl) _ _ e)) atL_nil, at_lst (SqL.of upd_same) atL_nil, by simp [dep, deps], ?_⟩⟩
      have ed : deq (.lst []) (.lst []) = true := by simp [deq, deqs]
      refine iteTe (b := deq (.lst []) (.lst [])) ed ?_
      refine iteT ?_
      exact cont _ (S12.trans (Same.upd hl)) _ (fun h => by obtain ⟨tb, _, _, e, _⟩ := h; cases e)
  | tab tb =>
    cases o with
    | txt o => cases k1
    | tab to =>
      cases p with
      | txt p => cases k2
      | tab tp =>
        have et : decide (wd = "table") = true := kd.symm
        have hs : ∀ (i : Nat) (v : V), [x, y, z][i]? = some v → ∃ c : Tb, [tb, to, tp][i]? = some c ∧ At K H (tabD c) v ∧ 1 ≤ c.length := fun i v hv => by
          match i, hv with
          | 0, hv => cases hv; exact ⟨tb, rfl, hb, wb _ rfl⟩
          | 1, hv => cases hv; exact ⟨to, rfl, ho, wo _ rfl⟩
          | 2, hv => cases hv; exact ⟨tp, rfl, hp, wp _ rfl⟩
          | n + 3, hv => cases hv
        refine cmp_by (yl_list [x, y, z]) (fun i σ H' => (∃ v, σ = [v, some (.str wd)]) ∧ Same H1 H' ∧ ∃ ts, H' D = some (.lst ts) ∧ ts.length = i ∧ AtL K H' (([tb, to, tp].take i).map fun c => shD (shape c)) ts)
          ⟨⟨_, rfl⟩, Same.upd hD, [], upd_same, rfl, atL_nil⟩ (fun i σ H' _ h => h.2.1.seqL q1) ?_ ?_
        · rintro i v σ H2 hx ⟨⟨v0, rfl⟩, S2, ts, g1, g2, g3⟩
          refine iteTe (b := decide (wd = "table")) et ?_
          obtain ⟨c, hc1, hc2, hc3⟩ := hs i v hx
          obtain ⟨a, xs, rfl, hq, hn, hr⟩ := row_at hc2
          obtain ⟨b0, hb0, hb02⟩ := hr 0 _ (get_of hc3)
          have S12 := S1.trans S2
          refine ⟨xs, .inr (S12.seqT hq), xs, .ref b0, .inr (S12.seqT hq), atI_some (i := 0) hb0, _, .inr (S12.seqT hb02), (show 2 ≤ sizeLine by decide), fun r hr => ?_⟩
          rw [List.length_map, hn]
          have S3 := Same.upd (o := .tup [.int (c.length : Int), .int ((c.getD 0 []).length : Int)]) hr
          have e3 : upd H2 r (.tup [.int (c.length : Int), .int ((c.getD 0 []).length : Int)]) r = some (.tup [.int ((shape c).1 : Int), .int ((shape c).2 : Int)]) := upd_same
          generalize upd H2 r (.tup [.int (c.length : Int), .int ((c.getD 0 []).length : Int)]) = H3 at S3 e3 ⊢
          have hi : i < 3 := (List.getElem?_eq_some_iff.mp hx).1
          refine ⟨_, S3 _ _ g1, by rw [g2]; exact Nat.lt_of_lt_of_le hi (by decide), ⟨_, rfl⟩, (S2.trans S3).set hD, _, upd_same, by rw [List.length_append, g2]; rfl, ?_⟩
          rw [List.take_add_one, hc1, List.map_append]
          have gD := S3 _ _ g1
          exact atL_app (shs_keep (TKeep.lst gD) (atL_up S3 g3)) (atL_cons (sh_keep (at_shD e3) (TKeep.lst gD)) atL_nil)
        · rintro σ H2 ⟨_, S2, ts, g1, g2, g3⟩
          have S12 := S1.trans S2
          have g3 : AtL K H2 [shD (shape tb), shD (shape to), shD (shape tp)] ts := g3
          refine ⟨by decide, fun l hl => .inr ⟨.lst [shD (shape tb), shD (shape to), shD (shape tp)], .lst [], at_lst (SqL.of ((Same.upd hl) _ _ g1)) (atL_up (Same.upd hl) g3), at_lst (SqL.of upd_same) atL_nil, ?_, ?_⟩⟩
          · unfold dep
            exact Nat.le_trans (Nat.succ_le_succ (deps_map (f := fun c => shD (shape c)) (fun c => dep_shD (shape c)) [tb, to, tp])) (by decide)
          · have ed : deq (.lst [shD (shape tb), shD (shape to), shD (shape tp)]) (.lst []) = false := by simp [deq, deqs]
            refine iteFe (b := deq (.lst [shD (shape tb), shD (shape to), shD (shape tp)]) (.lst [])) ed ?_
            have Sl := Same.upd (o := .lst []) hl
            have g1' := Sl _ _ g1
            have g3' := atL_up Sl g3
            have S3 := S12.trans Sl
            generalize upd H2 l (.lst []) = H3 at Sl g1' g3' S3 ⊢
            obtain ⟨t0, ht0, at0⟩ := atL_get g3' (i := 0) (d := shD (shape tb)) rfl
            have dp : deps [shD (shape tb), shD (shape to), shD (shape tp)] ≤ 40 := Nat.le_trans (deps_map (f := fun c => shD (shape c)) (fun c => dep_shD (shape c)) [tb, to, tp]) (by decide)
            refine ⟨.inl ⟨rfl, _, SqL.of g1'⟩, _, t0, .inl (SqL.of g1'), atI_some (i := 0) ht0, D, t0, _, _, _, rfl, rfl, SqL.of g1', g3', at0, dp, ?_⟩
            have ecn : ([shD (shape tb), shD (shape to), shD (shape tp)].countP fun c => deq c (shD (shape tb))) = 1 + (if shape to = shape tb then 1 else 0) + (if shape tp = shape tb then 1 else 0) := by
              simp only [List.countP_cons, List.countP_nil, deq_shD]
              by_cases h1 : shape to = shape tb <;> by_cases h2 : shape tp = shape tb <;> simp [h1, h2]
            rw [ecn]
            by_cases h1 : shape to = shape tb
            · by_cases h2 : shape tp = shape tb
              · rw [if_pos h1, if_pos h2]
                refine kR ⟨tb, to, tp, rfl, rfl, rfl, ?_, h1, h2⟩ _ D S3
                have : clash (Ct.tab tb) (.tab to) (.tab tp) = clash tb to tp := by unfold clash; rw [dec_tab, dec_tab, dec_tab]
                rw [← this]; exact hc
              · rw [if_pos h1, if_neg h2]
                exact cont _ S3 _ (fun h => by obtain ⟨_, _, _, e, e', e'', _, _, h⟩ := h; cases e; cases e'; cases e''; exact h2 h)
            · have na : ¬ Alike (Ct.tab tb) (.tab to) (.tab tp) := fun h => by obtain ⟨_, _, _, e, e', e'', _, h, _⟩ := h; cases e; cases e'; cases e''; exact h1 h
              by_cases h2 : shape tp = shape tb
              · rw [if_neg h1, if_pos h2]
                exact cont _ S3 _ na
              · rw [if_neg h1, if_neg h2]
                exact cont _ S3 _ na
theorem ok_law_joined0 {f : Addr} {fd : FuncData} (Z : Facts K t) (F : FunD K "_law_joined" "_law_joined" s_law_joined0 f fd .none) (T : Tab P w K mg base 0 (gb_0 K t) bl) : FnOk P w K mg base CX0 1 f fd P_law_joined0 (sp_law_joined0 K t) := by
  refine F.okW0 sc_law_joined0 vi_law_joined0 T (rd_law_joined0 K t) (fun vs H Q E h => ?_) (fun vs H Q E h => ?_)
  · obtain ⟨b, o, p, rfl, _⟩ := h; rfl
  · obtain ⟨b, o, p, rfl, k⟩ := h
    exact head_ok (wd := "cell") (b := .txt b) (o := .txt o) (p := .txt p) ⟨rfl, rfl, rfl, rfl, rfl⟩ (fun _ e => by cases e) (fun _ e => by cases e) (fun _ e => by cases e) (show false = tabS "cell" by decide) (fun _ => k) (fun h => by obtain ⟨_, _, _, e, _⟩ := h; cases e)
end
end K22

set_option maxRecDepth 100000
set_option maxHeartbeats 4000000
namespace K22
open PySem L2
section
variable {P : Program} {w : World} {K : PySem.W.Frag} {mg : Str → Option Value} {base : Heap} {t : Adr}
theorem nonempty {c : Ct} (h : c.wf) : ∀ d, c = .tab d → 1 ≤ d.length := fun d e => by subst e; exact h.1
theorem ok_law_joined {f : Addr} {fd : FuncData} (Z : Facts K t) (F : FunD K "_law_joined" "_law_joined" s_law_joined f fd .none) (T : Tab P w K mg base 1 (gb_1 K t) bl) : FnOk P w K mg base CX0 2 f fd P_law_joined (sp_law_joined K t) := by
  refine F.okW0 sc_law_joined vi_law_joined T (rd_law_joined K t) (fun vs H Q E h => ?_) (fun vs H Q E h => ?_)
  · obtain ⟨wd, x, y, z, b, o, p, rfl, _⟩ := h; rfl
  · obtain ⟨wd, x, y, z, b, o, p, rfl, h3, wb, wo, wp, kd, k⟩ := h
    refine head_ok h3 (nonempty wb) (nonempty wo) (nonempty wp) kd (fun na H' r S R => k H' r S ?_) (fun al H0 D S0 => ?_)
    · have e : joinC b o p = whole b o p := by
        obtain ⟨_, _, _, k1, k2⟩ := h3
        cases b with
        | txt b => rfl
        | tab tb =>
          cases o with
          | txt o => cases k1
          | tab to =>
            cases p with
            | txt p => cases k2
            | tab tp =>
              rw [joinC_tab, if_neg (fun h => na ⟨tb, to, tp, rfl, rfl, rfl, h⟩)]
      rw [e]; exact R
    · obtain ⟨b, o, p, rfl, rfl, rfl, hcl, so, sp⟩ := al
      rw [joinC_tab, if_pos ⟨hcl, so, sp⟩] at k
      have wb : wfT b := wb
      have wo : wfT o := wo
      have wp : wfT p := wp
      obtain ⟨hx, hy, hz, _, _⟩ := h3
      obtain ⟨eo, fo⟩ := shape_facts so
      obtain ⟨ep, fp⟩ := shape_facts sp
      have h0 := wb.row (i := 0) wb.1
      have hm : b.length ≤ 6 := wb.2.1
      have hn : (b.getD 0 []).length ≤ 6 := h0.2.2.1
      obtain ⟨a, xs, rfl, hq, hl, hr⟩ := row_at (show At K H (tabD b) x from hx)
      obtain ⟨a2, xs2, rfl, hq2, hl2, hr2⟩ := row_at (show At K H (tabD o) y from hy)
      obtain ⟨a3, xs3, rfl, hq3, hl3, hr3⟩ := row_at (show At K H (tabD p) z from hz)
      obtain ⟨bz, hbz, hcz⟩ := hr 0 _ (get_of wb.1)
      refine ⟨by decide, fun lr hlr => ⟨by decide, fun lw hlw => ?_⟩⟩
      have hlr0 : H lr = none := S0.free hlr
      have hlw0 : H lw = none := (S0.trans (Same.upd hlr)).free hlw
      have nwr : lw ≠ lr := (ne_of_none upd_same hlw).symm
      have I0 : RowsInv K H b o p (b.getD 0 []).length lr lw 0 [] (upd (upd H0 lr (.lst [])) lw (.lst [])) :=
        ⟨(S0.set hlr0).set hlw0, ⟨[], by rw [upd_ne (Ne.symm nwr), upd_same], rfl, atL_nil⟩, upd_same⟩
      generalize upd (upd H0 lr (.lst [])) lw (.lst []) = H1 at I0 ⊢
      refine ⟨xs, .inr (I0.S.seqT hq), ?_⟩
      rw [hl]
      refine ⟨⟨by omega, by omega⟩, ?_⟩
      rw [Int.toNat_natCast]
      refine for_by (yl_range 0 b.length) (fun i σ H' => (∃ c7 c8 c9 c10 c11, σ = [some (.str wd), some (.ref a), some (.ref a2), some (.ref a3), some (.ref lr), some (.ref D), some (.ref lw), c7, c8, c9, c10, c11]) ∧ RowsInv K H b o p (b.getD 0 []).length lr lw i (wordsT b o p i (b.getD 0 []).length) H')
        ⟨⟨_, _, _, _, _, rfl⟩, I0⟩ (fun _ _ _ _ _ => True.intro) ?_ ?_
      · rintro i x σ H2 hxi ⟨⟨c7, c8, c9, c10, c11, rfl⟩, I2⟩
        obtain ⟨hi, rfl⟩ := rng_at hxi
        refine ⟨by decide, fun lc hlc => ?_⟩
        have hlc0 : H lc = none := I2.S.free hlc
        have ncr : lc ≠ lr := by
          obtain ⟨ys, e, _⟩ := I2.rows
          exact (ne_of_none e hlc).symm
        have ncw : lc ≠ lw := (ne_of_none I2.words hlc).symm
        have I3 := I2.same (Same.upd (o := .lst []) hlc)
        have ec : upd H2 lc (.lst []) lc = some (.lst ((rowJ b o p i 0).map V.str)) := upd_same
        generalize upd H2 lc (.lst []) = H3 at I3 ec ⊢
        obtain ⟨ri, ri1, ri2, ri3⟩ := wb.row hi
        obtain ⟨b1, hb1, hc1⟩ := hr i _ (get_of hi)
        obtain ⟨b2, hb2, hc2⟩ := hr2 i _ (get_of (t := o) (by omega))
        obtain ⟨b3, hb3, hc3⟩ := hr3 i _ (get_of (t := p) (by omega))
        refine ⟨_, _, .inr (I3.S.seqT hq), atI_some (i := 0) hbz, _, .inr (I3.S.seqT hcz), ?_⟩
        rw [List.length_map]
        refine ⟨⟨by omega, by omega⟩, ?_⟩
        rw [Int.toNat_natCast]
        refine for_by (yl_range 0 (b.getD 0 []).length) (fun j σ H' => (∃ c9 c10 c11, σ = [some (.str wd), some (.ref a), some (.ref a2), some (.ref a3), some (.ref lr), some (.ref D), some (.ref lw), some (.int (i : Int)), some (.ref lc), c9, c10, c11]) ∧
            RowsInv K H b o p (b.getD 0 []).length lr lw i (wordsT b o p i (b.getD 0 []).length ++ rowW b o p i j) H' ∧ H' lc = some (.lst ((rowJ b o p i j).map V.str)))
          ⟨⟨_, _, _, rfl⟩, by rw [show rowW b o p i 0 = [] from rfl, List.append_nil]; exact I3, ec⟩ (fun _ _ _ _ _ => True.intro) ?_ ?_
        · rintro j xj σ H4 hxj ⟨⟨c9, c10, c11, rfl⟩, I4, ec4⟩
          obtain ⟨hj, rfl⟩ := rng_at hxj
          have g1 : atI ((b.getD i []).map V.str) (j : Int) = some (.str (cell b i j)) := atI_some (getS_of (r := b.getD i []) (j := j) (by rw [ri]; exact hj))
          have g2 : atI ((o.getD i []).map V.str) (j : Int) = some (.str (cell o i j)) := atI_some (getS_of (r := o.getD i []) (j := j) (by rw [(wo.row (i := i) (by omega)).1]; omega))
          have g3 : atI ((p.getD i []).map V.str) (j : Int) = some (.str (cell p i j)) := atI_some (getS_of (r := p.getD i []) (j := j) (by rw [(wp.row (i := i) (by omega)).1]; omega))
          refine ⟨_, _, .inr (I4.S.seqT hq), atI_some hb1, _, _, .inr (I4.S.seqT hc1), g1, _, _, .inr (I4.S.seqT hq2), atI_some hb2, _, _, .inr (I4.S.seqT hc2), g2, _, _, .inr (I4.S.seqT hq3), atI_some hb3, _, _, .inr (I4.S.seqT hc3), g3, ?_⟩
          refine ⟨cell b i j, cell o i j, cell p i j, rfl, fun H5 r5 S5 R5 => ?_⟩
          obtain ⟨u5, l5, r5a, r5b, r5c, r5d, r5e⟩ := R5
          have es : (whole (Ct.txt (cell b i j)) (.txt (cell o i j)) (.txt (cell p i j))).1 = .txt (settle (cell b i j) (cell o i j) (cell p i j)) := by
            unfold whole settle clash
            rw [dec_txt, dec_txt, dec_txt]
            dsimp only
            split
            · rfl
            · by_cases e : cell o i j = cell b i j
              · rw [if_pos e, if_pos (by rw [e])]
              · rw [if_neg e, if_neg (fun z => e (by injection z))]
          have ecl : clash (Ct.txt (cell b i j)) (.txt (cell o i j)) (.txt (cell p i j)) = clash (cell b i j) (cell o i j) (cell p i j) := by
            unfold clash; rw [dec_txt, dec_txt, dec_txt]
          rw [es] at r5b
          cases r5b
          have I5 := I4.same S5
          have ec5 := S5 _ _ ec4
          refine ⟨_, SqT.of r5a, rfl, ?_⟩
          have ncl5 : lc ≠ l5 := ne_of_none ec4 r5e
          refine ⟨.inl ⟨rfl, _, SqL.of ec5⟩, lc, _, _, rfl, rfl, ec5, ?_, ?_⟩
          · rw [List.length_map]; unfold rowJ; rw [List.length_map, List.length_range]; exact Nat.lt_of_lt_of_le (show j < 6 by omega) (by decide)
          have I6 := I5.other (us := (rowJ b o p i j).map V.str ++ [.str (settle (cell b i j) (cell o i j) (cell p i j))]) ec5 hlc0 ncr ncw
          have el6 : upd H5 lc (.lst ((rowJ b o p i j).map V.str ++ [.str (settle (cell b i j) (cell o i j) (cell p i j))])) l5 = some (.lst ((whole (Ct.txt (cell b i j)) (.txt (cell o i j)) (.txt (cell p i j))).2.map V.str)) := by rw [upd_ne (Ne.symm ncl5)]; exact r5c
          have ec6 : upd H5 lc (.lst ((rowJ b o p i j).map V.str ++ [.str (settle (cell b i j) (cell o i j) (cell p i j))])) lc = some (.lst ((rowJ b o p i (j + 1)).map V.str)) := by rw [upd_same, rowJ_succ, List.map_append]; rfl
          generalize upd H5 lc (.lst ((rowJ b o p i j).map V.str ++ [.str (settle (cell b i j) (cell o i j) (cell p i j))])) = H6 at I6 el6 ec6 ⊢
          refine ⟨by decide, fun e7 he7 => .inr ⟨_, .lst [], at_lstS (SqL.of ((Same.upd he7) _ _ el6)), at_lst (SqL.of upd_same) atL_nil, ?_, ?_⟩⟩
          · unfold dep
            exact Nat.le_trans (Nat.succ_le_succ (deps_map dep_strD _)) (by decide)
          have I7 := I6.same (Same.upd (o := .lst []) he7)
          have ec7 := (Same.upd (o := .lst []) he7) _ _ ec6
          generalize upd H6 e7 (.lst []) = H7 at I7 ec7 ⊢
          have ed : (!deq (.lst ((whole (Ct.txt (cell b i j)) (.txt (cell o i j)) (.txt (cell p i j))).2.map strD)) (.lst [])) = clash (cell b i j) (cell o i j) (cell p i j) := by
            unfold whole
            rw [ecl]
            cases clash (cell b i j) (cell o i j) (cell p i j) <;> simp [deq, deqs]
          show if (!deq (.lst ((whole (Ct.txt (cell b i j)) (.txt (cell o i j)) (.txt (cell p i j))).2.map strD)) (.lst [])) = true then _ else _
          rw [ed]
          refine ite2 (c := clash (cell b i j) (cell o i j) (cell p i j) = true) (fun hc => ?_) (fun hc => ?_)
          · have n1 := numS i (by omega)
            have n2 := numS j (by omega)
            have c5 : (Str.ofString "cell ").length = 5 := by decide +kernel
            have c1 : (Str.ofString " ").length = 1 := by decide +kernel
            have big : 1000 ≤ sizeLine := by decide
            refine ⟨.inl ⟨rfl, _, SqL.of I7.words⟩, log2_small (by omega), by omega, by rw [app_len]; omega, log2_small (by omega), by rw [app_len, app_len]; omega, lw, _, _, rfl, rfl, I7.words, ?_, ⟨_, _, _, rfl⟩, ?_, ?_⟩
            · rw [List.length_map, List.length_append]
              have l1 := wordsT_len b o p i (b.getD 0 []).length
              have l2 := rowW_len b o p i j
              have l3 : i * (b.getD 0 []).length ≤ 6 * 6 := Nat.mul_le_mul (by omega) hn
              omega
            · rw [rowW_succ, if_pos hc, ← List.append_assoc]
              exact I7.word hlw0 nwr
            · rw [upd_ne ncw]; exact ec7
          · refine ⟨⟨_, _, _, rfl⟩, ?_, ec7⟩
            rw [rowW_succ, if_neg hc, List.append_nil]
            exact I7
        · rintro σ H4 ⟨⟨c9, c10, c11, rfl⟩, I4, ec4⟩
          rw [rngV_len] at I4 ec4
          obtain ⟨ys, ey, _⟩ := I4.rows
          refine ⟨.inl ⟨rfl, _, SqL.of ey⟩, _, .inl ⟨SqL.of ec4, fun rt hrt => ?_⟩⟩
          have I5 := I4.same (Same.upd (o := .tup ((rowJ b o p i (b.getD 0 []).length).map V.str)) hrt)
          have er : upd H4 rt (.tup ((rowJ b o p i (b.getD 0 []).length).map V.str)) rt = some (.tup ((rowJ b o p i (b.getD 0 []).length).map V.str)) := upd_same
          have ey5 := Same.upd (o := .tup ((rowJ b o p i (b.getD 0 []).length).map V.str)) hrt _ _ ey
          generalize upd H4 rt (.tup ((rowJ b o p i (b.getD 0 []).length).map V.str)) = H5 at I5 er ey5 ⊢
          refine ⟨lr, _, _, rfl, rfl, ey5, ?_, ⟨_, _, _, _, _, rfl⟩, ?_⟩
          · rw [I5.len ey5]; exact Nat.lt_of_lt_of_le (show i < 6 by omega) (by decide)
          · rw [wordsT_succ]
            exact I5.row ey5 er hlr0 nwr
      · rintro σ H2 ⟨⟨c7, c8, c9, c10, c11, rfl⟩, I2⟩
        rw [rngV_len] at I2
        obtain ⟨ys, ey, ly, ay⟩ := I2.rows
        refine ⟨_, .inl ⟨SqL.of ey, fun rt hrt => ?_⟩⟩
        refine ⟨(show 2 ≤ sizeLine by decide), fun r hr => ?_⟩
        have St := Same.upd (o := .tup ys) hrt
        have Sr := Same.upd (o := .tup [.ref rt, .ref lw]) hr
        have S2 := (I2.S.trans St).trans Sr
        refine k _ r S2 ⟨.ref rt, lw, upd_same, ?_, (Sr _ _ (St _ _ I2.words)), (I2.S.trans St).free hr, hlw0⟩
        show At K _ (tabD (joinT b o p b.length (b.getD 0 []).length)) (.ref rt)
        exact at_tup (SqT.of (Sr _ _ upd_same)) (atL_up (St.trans Sr) ay)
end
end K22

set_option maxRecDepth 100000
set_option maxHeartbeats 4000000
namespace K22
open PySem L2
section
variable {P : Program} {w : World} {K : PySem.W.Frag} {mg : Str → Option Value} {base : Heap} {t : Adr}
theorem cls_chapter : clsOf t "chapter" = t.c_Chapter := by unfold clsOf; rw [if_pos rfl]
theorem cls_para : clsOf t "para" = t.c_Para := by unfold clsOf; rw [if_neg kw0, if_pos rfl]
theorem cls_table : clsOf t "table" = t.c_Table := by unfold clsOf; rw [if_neg kw1, if_neg kw2]
theorem joined_own {H : Hp} {ka dx : Addr} {wd : Str} {x y z : V} {b o p : Ct} {Q : VK} {E : EK} (hw : kindS wd) (hk : H ka = some (.ins (clsOf t wd) dx [])) (h3 : three K H x y z b o p) (wb : b.wf) (wo : o.wf) (wp : p.wf) (kd : isTab b = tabS wd)
    (k : ∀ H' r, Same H H' → ResAt K H H' (joinC b o p) r → Q (.ref r) H') :
    ∃ a dx fs mi, V.ref ka = .ref a ∧ mi ∈ mt_joined K t ∧ H a = some (.ins mi.C dx fs) ∧ fs.lookup (Str.ofString "joined") = none ∧ (3 + 1 ≤ mi.i.ps.length ∧ mi.i.ps.length ≤ 3 + 1 + mi.i.dfs.length) ∧ spE mi.i.sp (mi.i.dfs.drop (3 + 1 + mi.i.dfs.length - mi.i.ps.length)) [.ref a, x, y, z] H Q E := by
  obtain ⟨hb, ho, hp, k1, k2⟩ := h3
  rcases hw with rfl | rfl | rfl
  · rw [cls_chapter] at hk
    cases b with
    | tab b => exact absurd (show true = tabS "chapter" from kd) (by decide)
    | txt b =>
      cases o with
      | tab o => cases k1
      | txt o =>
        cases p with
        | tab p => cases k2
        | txt p =>
          cases hb; cases ho; cases hp
          exact ⟨ka, dx, [], ⟨t.c_Chapter, i_Kind_joined K t⟩, rfl, .head _, hk, rfl, ⟨Nat.le_refl 4, Nat.le_refl 4⟩, .ref ka, b, o, p, b, o, p, rfl, rfl, k⟩
  · rw [cls_para] at hk
    cases b with
    | tab b => exact absurd (show true = tabS "para" from kd) (by decide)
    | txt b =>
      cases o with
      | tab o => cases k1
      | txt o =>
        cases p with
        | tab p => cases k2
        | txt p =>
          cases hb; cases ho; cases hp
          exact ⟨ka, dx, [], ⟨t.c_Para, i_Kind_joined K t⟩, rfl, .tail _ (.head _), hk, rfl, ⟨Nat.le_refl 4, Nat.le_refl 4⟩, .ref ka, b, o, p, b, o, p, rfl, rfl, k⟩
  · rw [cls_table] at hk
    cases b with
    | txt b => exact absurd (show false = tabS "table" from kd) (by decide)
    | tab b =>
      cases o with
      | txt o => cases k1
      | tab o =>
        cases p with
        | txt p => cases k2
        | tab p => exact ⟨ka, dx, [], ⟨t.c_Table, i_Table_joined K t⟩, rfl, .tail _ (.tail _ (.head _)), hk, rfl, ⟨Nat.le_refl 4, Nat.le_refl 4⟩, .ref ka, x, y, z, b, o, p, rfl, hb, ho, hp, wb, wo, wp, k⟩
theorem fits_own {H : Hp} {ka dx : Addr} {wd : Str} {x : V} {b : Ct} {Q : VK} {E : EK} (hw : kindS wd) (hk : H ka = some (.ins (clsOf t wd) dx [])) (hb : CtAt K H b x) (wb : b.wf) (kd : isTab b = tabS wd)
    (k : ∀ H', Same H H' → Q (.bl true) H') :
    ∃ a dx fs mi, V.ref ka = .ref a ∧ mi ∈ mt_fits K t ∧ H a = some (.ins mi.C dx fs) ∧ fs.lookup (Str.ofString "fits") = none ∧ (1 + 1 ≤ mi.i.ps.length ∧ mi.i.ps.length ≤ 1 + 1 + mi.i.dfs.length) ∧ spE mi.i.sp (mi.i.dfs.drop (1 + 1 + mi.i.dfs.length - mi.i.ps.length)) [.ref a, x] H Q E := by
  rcases hw with rfl | rfl | rfl
  · rw [cls_chapter] at hk
    match b, hb, wb, kd with
    | .txt b, hb, wb, _ => cases hb; exact ⟨ka, dx, [], ⟨t.c_Chapter, i_Kind_fits K t⟩, rfl, .head _, hk, rfl, ⟨Nat.le_refl 2, Nat.le_refl 2⟩, .ref ka, b, rfl, wb, k⟩
    | .tab b, _, _, kd => exact absurd (show true = tabS "chapter" from kd) (by decide)
  · rw [cls_para] at hk
    match b, hb, wb, kd with
    | .txt b, hb, wb, _ => cases hb; exact ⟨ka, dx, [], ⟨t.c_Para, i_Kind_fits K t⟩, rfl, .tail _ (.head _), hk, rfl, ⟨Nat.le_refl 2, Nat.le_refl 2⟩, .ref ka, b, rfl, wb, k⟩
    | .tab b, _, _, kd => exact absurd (show true = tabS "para" from kd) (by decide)
  · rw [cls_table] at hk
    match b, hb, wb, kd with
    | .tab b, hb, wb, _ => exact ⟨ka, dx, [], ⟨t.c_Table, i_Table_fits K t⟩, rfl, .tail _ (.tail _ (.head _)), hk, rfl, ⟨Nat.le_refl 2, Nat.le_refl 2⟩, .ref ka, x, b, rfl, hb, wb, k⟩
    | .txt b, _, _, kd => exact absurd (show false = tabS "table" from kd) (by decide)
theorem fits_own2 {H : Hp} {ka dx r : Addr} {wd : Str} {x l : V} {b : Ct} {Q : VK} {E : EK} (hw : kindS wd) (hk : H ka = some (.ins (clsOf t wd) dx [])) (hb : CtAt K H b x) (wb : b.wf) (kd : isTab b = tabS wd) (hr : H r = some (.tup [x, l]))
    (k : ∀ H', Same H H' → Q (.bl true) H') :
    ∃ a dx fs mi, V.ref ka = .ref a ∧ mi ∈ mt_fits K t ∧ H a = some (.ins mi.C dx fs) ∧ fs.lookup (Str.ofString "fits") = none ∧ (1 + 1 ≤ mi.i.ps.length ∧ mi.i.ps.length ≤ 1 + 1 + mi.i.dfs.length) ∧ rIxD K (.ref r) (.int 0) H fun y H2 => spE mi.i.sp (mi.i.dfs.drop (1 + 1 + mi.i.dfs.length - mi.i.ps.length)) [.ref a, y] H2 Q E := by
  obtain ⟨a, dx, fs, mi, e1, e2, e3, e4, e5, e6⟩ := fits_own (E := E) hw hk hb wb kd k
  exact ⟨a, dx, fs, mi, e1, e2, e3, e4, e5, _, _, .inr (SqT.of hr), rfl, e6⟩
theorem joinC_len {b o p : Ct} (hb : b.wf) : (joinC b o p).2.length < 1000 := by
  have w : (whole b o p).2.length < 1000 := by
    unfold whole
    dsimp only
    split <;> decide
  cases b with
  | txt b => exact w
  | tab b =>
    cases o with
    | txt o => exact w
    | tab o =>
      cases p with
      | txt p => exact w
      | tab p =>
        rw [joinC_tab]
        split
        · have h : wfT b := hb
          have h0 := (h.row (i := 0) h.1).2.2.1
          have l1 := wordsT_len b o p (shape b).1 (shape b).2
          have l2 : (shape b).1 * (shape b).2 ≤ 6 * 6 := Nat.mul_le_mul h.2.1 h0
          show (wordsT b o p (shape b).1 (shape b).2).length < 1000
          omega
        · exact w
def four : List V := [.str "chapter", .str "para", .str "table", .str "table"]
theorem four_at {i : Nat} {x y : V} (h : (enumV 0 four)[i]? = some (x, y)) : ∃ wd, x = .int (i : Int) ∧ y = .str wd ∧ kindS wd := by
  match i, h with
  | 0, h => cases h; exact ⟨_, rfl, rfl, .inl rfl⟩
  | 1, h => cases h; exact ⟨_, rfl, rfl, .inr (.inl rfl)⟩
  | 2, h => cases h; exact ⟨_, rfl, rfl, .inr (.inr rfl)⟩
  | 3, h => cases h; exact ⟨_, rfl, rfl, .inr (.inr rfl)⟩
  | n + 4, h => cases h
theorem yes_same {c : Ct} {ws : List Str} : (decide (c = c) && decide (ws = ws)) = true := by simp
end
end K22

set_option maxRecDepth 100000
set_option maxHeartbeats 4000000
namespace K22
open PySem L2
section
variable {P : Program} {w : World} {K : PySem.W.Frag} {mg : Str → Option Value} {base : Heap} {t : Adr}
theorem ok_law {f : Addr} {fd : FuncData} (Z : Facts K t) (F : FunD K "law" "law" s_law f fd .none) (T : Tab P w K mg base 5 (gb_5 K t) bl) : FnOk P w K mg base CX0 6 f fd P_law (sp_law K t) := by
  refine F.okW0 sc_law vi_law T (rd_law K t) (fun vs H Q E h => ?_) (fun vs H Q E h => ?_)
  · obtain ⟨a, ns, rfl, _⟩ := h; rfl
  · obtain ⟨a, ns, rfl, hS, hn, k⟩ := h
    refine ⟨(show 4 ≤ sizeLine by decide), fun p0 hp0 => ⟨⟨_, SqL.of upd_same⟩, ?_⟩⟩
    have S0 := Same.upd (o := .lst four) hp0
    have e0 : upd H p0 (.lst four) p0 = some (.lst four) := upd_same
    show ForW (Ite K p0) _ _ _ _ (upd H p0 (.lst four))
    generalize upd H p0 (.lst four) = H0 at S0 e0 ⊢
    refine for_by2 (yl_enum four) (fun i σ H' => (∃ v1 v2 v3 v4 v5 v6 v7 v8, σ = [some (.ref a), v1, v2, v3, v4, v5, v6, v7, v8]) ∧ Same H0 H') ⟨⟨_, _, _, _, _, _, _, _, rfl⟩, Same.refl _⟩ (fun i σ H' _ q => q.2.seqL (SqL.of e0)) ?_ (fun σ H' _ => k _)
    rintro i x y T σ H1 hxy hT ⟨⟨v1, v2, v3, v4, v5, v6, v7, v8, rfl⟩, S1⟩
    obtain ⟨wd, rfl, rfl, hw⟩ := four_at hxy
    refine ⟨_, SqT.of upd_same, rfl, ?_⟩
    have S2 := S1.trans (Same.upd (o := .tup [.int (i : Int), .str wd]) hT)
    generalize upd H1 T (.tup [.int (i : Int), .str wd]) = H2 at S2 ⊢
    have q : ∀ H', Same H0 H' → SqL K H' a (ns.map V.int) := fun H' S => (S0.trans S).seqL hS
    have e3 : ∀ m : Nat, [V.ref a, .int (3 * (i : Int))] = [.ref a, .int ((3 * i : Nat) : Int)] := fun _ => by congr 3
    have e31 : [V.ref a, .int (3 * (i : Int) + 1)] = [.ref a, .int ((3 * i + 1 : Nat) : Int)] := by congr 3
    have e32 : [V.ref a, .int (3 * (i : Int) + 2)] = [.ref a, .int ((3 * i + 2 : Nat) : Int)] := by congr 3
    refine ⟨wd, rfl, hw, fun H3 ka dx S3 hk => ?_⟩
    have S03 := S2.trans S3
    refine ⟨.inl ⟨by decide, by decide⟩, a, ns, 3 * i, e3 0, q _ S03, fun c1 => ⟨wd, c1, rfl, fun b H4 xb S4 wb kb hb => ?_⟩⟩
    have S04 := S03.trans S4
    refine ⟨.inl ⟨by decide, by decide⟩, a, ns, 3 * i + 1, e31, q _ S04, fun c2 => ⟨wd, xb, b, c2, rfl, hb, wb, kb, fun o H5 xo S5 wo ko ho => ?_⟩⟩
    have S05 := S04.trans S5
    refine ⟨.inl ⟨by decide, by decide⟩, a, ns, 3 * i + 2, e32, q _ S05, fun c3 => ⟨wd, xb, b, c3, rfl, hb.up S5, wb, kb, fun p H6 xp S6 wp kp hp => ?_⟩⟩
    have S06 := S05.trans S6
    have hb6 := hb.up (S5.trans S6)
    have ho6 := ho.up S6
    have k1 : isTab o = isTab b := by rw [ko, kb]
    have k2 : isTab p = isTab b := by rw [kp, kb]
    have hk6 := (S4.trans (S5.trans S6)) _ _ hk
    refine ⟨wd, xb, xo, xp, b, o, p, rfl, ⟨hb6, ho6, hp, k1, k2⟩, wb, wo, wp, kb, fun H7 r7 S7 R7 => ?_⟩
    have S07 := S06.trans S7
    have three7 : ∀ H', Same H7 H' → CtAt K H' b xb ∧ CtAt K H' o xo ∧ CtAt K H' p xp ∧ H' ka = some (.ins (clsOf t wd) dx []) := fun H' S => ⟨hb6.up (S7.trans S), ho6.up (S7.trans S), hp.up (S7.trans S), (S7.trans S) _ _ hk6⟩
    obtain ⟨x7, l7, d7, g7, w7, _, _⟩ := R7
    obtain ⟨wj, kj⟩ := joinC_wf wb wo wp k1 k2
    obtain ⟨a1, a2, a3, a4⟩ := three7 H7 (Same.refl _)
    refine joined_own hw a4 ⟨a1, a2, a3, k1, k2⟩ wb wo wp kb fun H8 r8 S8 R8 => ?_
    obtain ⟨x8, l8, d8, g8, w8, f8, fl8⟩ := R8
    refine ⟨r8, r7, x8, x7, l8, l7, (joinC b o p).1, (joinC b o p).1, (joinC b o p).2, (joinC b o p).2, rfl, d8, S8 _ _ d7, g8, g7.up S8, rfl, w8, S8 _ _ w7, ?_⟩
    rw [yes_same]
    refine fits_own2 hw (three7 H8 S8).2.2.2 g8 wj (by rw [kj, kb]) d8 fun H9 S9 => ?_
    have d9 := S9 _ _ d8
    have w9 := S9 _ _ w8
    have lw : (joinC b o p).2.length < 1000 := joinC_len wb
    refine ⟨_, _, .inr (SqT.of d9), rfl, .inl ⟨rfl, _, SqL.of w9⟩, l8, _, _, rfl, rfl, w9, (by rw [List.length_map]; exact Nat.lt_of_lt_of_le lw (by decide)), ?_⟩
    have S7a : Same H7 (upd H9 l8 (.lst ((joinC b o p).2.map V.str ++ [.str "more"]))) := (S8.trans S9).set fl8
    generalize upd H9 l8 (.lst ((joinC b o p).2.map V.str ++ [.str "more"])) = Ha at S7a ⊢
    obtain ⟨a1, a2, a3, a4⟩ := three7 Ha S7a
    refine joined_own hw a4 ⟨a1, a3, a2, k2, k1⟩ wb wp wo kb fun Hb rb Sb Rb => ?_
    rw [joinC_comm] at Rb
    obtain ⟨xb', lb, db, gb, wb', fb, flb⟩ := Rb
    have S7b := S7a.trans Sb
    refine ⟨rb, r7, xb', x7, lb, l7, (joinC b o p).1, (joinC b o p).1, (joinC b o p).2, (joinC b o p).2, rfl, db, S7b _ _ d7, gb, g7.up S7b, rfl, wb', S7b _ _ w7, ?_⟩
    rw [yes_same]
    obtain ⟨a1, a2, a3, a4⟩ := three7 Hb S7b
    refine joined_own hw a4 ⟨a1, a2, a3, k1, k2⟩ wb wo wp kb fun Hc rc Sc Rc => ?_
    obtain ⟨xc, lc, dc, gc, wc, fc, flc⟩ := Rc
    have S7c := S7b.trans Sc
    refine ⟨rc, r7, xc, x7, lc, l7, (joinC b o p).1, (joinC b o p).1, (joinC b o p).2, (joinC b o p).2, rfl, dc, S7c _ _ d7, gc, g7.up S7c, rfl, wc, S7c _ _ w7, ?_⟩
    rw [yes_same]
    obtain ⟨a1, a2, a3, a4⟩ := three7 Hc S7c
    refine joined_own hw a4 ⟨a1, a1, a2, rfl, k1⟩ wb wb wo kb fun Hd rd Sd Rd => ?_
    rw [joinC_base] at Rd
    obtain ⟨xd, ld, dd, gd, wd', fd', fld⟩ := Rd
    refine ⟨by decide, fun le hle => ⟨(show 2 ≤ sizeLine by decide), fun re hre => ?_⟩⟩
    have Se := (Same.upd (o := .lst []) hle).trans (Same.upd (o := .tup [xo, .ref le]) hre)
    have S7d := S7c.trans Sd
    refine ⟨rd, re, xd, xo, ld, le, o, o, [], [], rfl, Se _ _ dd, upd_same, gd.up Se, (three7 _ (S7d.trans Se)).2.1, rfl, Se _ _ wd', (Same.upd hre) _ _ upd_same, ?_⟩
    rw [yes_same]
    exact ⟨⟨_, _, _, _, _, _, _, _, rfl⟩, S07.trans (S7d.trans Se)⟩
end
end K22

set_option maxRecDepth 100000
set_option maxHeartbeats 4000000
namespace K22
open PySem L2
structure AdrOk (K : PySem.W.Frag) (mg : Str → Option Value) (t : Adr) : Prop where
  F_has_length : FunD K "has_length" "has_length" s_has_length t.f_has_length t.d_has_length .none
  b_has_length : ∀ j, j ≤ 0 → Binds K t.d_has_length P_has_length (([] : List Value).drop j)
  w_has_length : Vals [] ([] : List Value)
  m_has_length : mg "has_length" = some (.ref t.f_has_length)
  F_is_text_sign : FunD K "is_text_sign" "is_text_sign" s_is_text_sign t.f_is_text_sign t.d_is_text_sign .none
  b_is_text_sign : ∀ j, j ≤ 0 → Binds K t.d_is_text_sign P_is_text_sign (([] : List Value).drop j)
  w_is_text_sign : Vals [] ([] : List Value)
  m_is_text_sign : mg "is_text_sign" = some (.ref t.f_is_text_sign)
  F_is_text : FunD K "is_text" "is_text" s_is_text t.f_is_text t.d_is_text .none
  b_is_text : ∀ j, j ≤ 0 → Binds K t.d_is_text P_is_text (([] : List Value).drop j)
  w_is_text : Vals [] ([] : List Value)
  m_is_text : mg "is_text" = some (.ref t.f_is_text)
  F_Kind_fits : FunD K "fits" "Kind.fits" s_Kind_fits t.f_Kind_fits t.d_Kind_fits .none
  b_Kind_fits : ∀ j, j ≤ 0 → Binds K t.d_Kind_fits P_Kind_fits (([] : List Value).drop j)
  w_Kind_fits : Vals [] ([] : List Value)
  if_Kind_fits : PySem.W.isFn K (.ref t.f_Kind_fits) = true
  F_is_clash : FunD K "is_clash" "is_clash" s_is_clash t.f_is_clash t.d_is_clash .none
  b_is_clash : ∀ j, j ≤ 0 → Binds K t.d_is_clash P_is_clash (([] : List Value).drop j)
  w_is_clash : Vals [] ([] : List Value)
  m_is_clash : mg "is_clash" = some (.ref t.f_is_clash)
  F_settled : FunD K "settled" "settled" s_settled t.f_settled t.d_settled .none
  b_settled : ∀ j, j ≤ 0 → Binds K t.d_settled P_settled (([] : List Value).drop j)
  w_settled : Vals [] ([] : List Value)
  m_settled : mg "settled" = some (.ref t.f_settled)
  F_joined_whole : FunD K "joined_whole" "joined_whole" s_joined_whole t.f_joined_whole t.d_joined_whole .none
  b_joined_whole : ∀ j, j ≤ 0 → Binds K t.d_joined_whole P_joined_whole (([] : List Value).drop j)
  w_joined_whole : Vals [] ([] : List Value)
  m_joined_whole : mg "joined_whole" = some (.ref t.f_joined_whole)
  F_Kind_joined : FunD K "joined" "Kind.joined" s_Kind_joined t.f_Kind_joined t.d_Kind_joined .none
  b_Kind_joined : ∀ j, j ≤ 0 → Binds K t.d_Kind_joined P_Kind_joined (([] : List Value).drop j)
  w_Kind_joined : Vals [] ([] : List Value)
  if_Kind_joined : PySem.W.isFn K (.ref t.f_Kind_joined) = true
  F_is_tuple_of : FunD K "is_tuple_of" "is_tuple_of" s_is_tuple_of t.f_is_tuple_of t.d_is_tuple_of .none
  b_is_tuple_of : ∀ j, j ≤ 0 → Binds K t.d_is_tuple_of P_is_tuple_of (([] : List Value).drop j)
  w_is_tuple_of : Vals [] ([] : List Value)
  m_is_tuple_of : mg "is_tuple_of" = some (.ref t.f_is_tuple_of)
  F_is_row : FunD K "is_row" "is_row" s_is_row t.f_is_row t.d_is_row .none
  b_is_row : ∀ j, j ≤ 0 → Binds K t.d_is_row P_is_row (([] : List Value).drop j)
  w_is_row : Vals [] ([] : List Value)
  m_is_row : mg "is_row" = some (.ref t.f_is_row)
  F_Table_fits : FunD K "fits" "Table.fits" s_Table_fits t.f_Table_fits t.d_Table_fits .none
  b_Table_fits : ∀ j, j ≤ 0 → Binds K t.d_Table_fits P_Table_fits (([] : List Value).drop j)
  w_Table_fits : Vals [] ([] : List Value)
  if_Table_fits : PySem.W.isFn K (.ref t.f_Table_fits) = true
  F_shape_of : FunD K "shape_of" "shape_of" s_shape_of t.f_shape_of t.d_shape_of .none
  b_shape_of : ∀ j, j ≤ 0 → Binds K t.d_shape_of P_shape_of (([] : List Value).drop j)
  w_shape_of : Vals [] ([] : List Value)
  m_shape_of : mg "shape_of" = some (.ref t.f_shape_of)
  F_joined_cells : FunD K "joined_cells" "joined_cells" s_joined_cells t.f_joined_cells t.d_joined_cells .none
  b_joined_cells : ∀ j, j ≤ 0 → Binds K t.d_joined_cells P_joined_cells (([] : List Value).drop j)
  w_joined_cells : Vals [] ([] : List Value)
  m_joined_cells : mg "joined_cells" = some (.ref t.f_joined_cells)
  F_Table_joined : FunD K "joined" "Table.joined" s_Table_joined t.f_Table_joined t.d_Table_joined .none
  b_Table_joined : ∀ j, j ≤ 0 → Binds K t.d_Table_joined P_Table_joined (([] : List Value).drop j)
  w_Table_joined : Vals [] ([] : List Value)
  if_Table_joined : PySem.W.isFn K (.ref t.f_Table_joined) = true
  F_Chapter_word : FunD K "word" "Chapter.word" s_Chapter_word t.f_Chapter_word t.d_Chapter_word .none
  b_Chapter_word : ∀ j, j ≤ 0 → Binds K t.d_Chapter_word P_Chapter_word (([] : List Value).drop j)
  w_Chapter_word : Vals [] ([] : List Value)
  if_Chapter_word : PySem.W.isFn K (.ref t.f_Chapter_word) = true
  F_Para_word : FunD K "word" "Para.word" s_Para_word t.f_Para_word t.d_Para_word .none
  b_Para_word : ∀ j, j ≤ 0 → Binds K t.d_Para_word P_Para_word (([] : List Value).drop j)
  w_Para_word : Vals [] ([] : List Value)
  if_Para_word : PySem.W.isFn K (.ref t.f_Para_word) = true
  F_Table_word : FunD K "word" "Table.word" s_Table_word t.f_Table_word t.d_Table_word .none
  b_Table_word : ∀ j, j ≤ 0 → Binds K t.d_Table_word P_Table_word (([] : List Value).drop j)
  w_Table_word : Vals [] ([] : List Value)
  if_Table_word : PySem.W.isFn K (.ref t.f_Table_word) = true
  F_kind_of_word : FunD K "kind_of_word" "kind_of_word" s_kind_of_word t.f_kind_of_word t.d_kind_of_word .none
  b_kind_of_word : ∀ j, j ≤ 0 → Binds K t.d_kind_of_word P_kind_of_word (([] : List Value).drop j)
  w_kind_of_word : Vals [] ([] : List Value)
  m_kind_of_word : mg "kind_of_word" = some (.ref t.f_kind_of_word)
  F_law_cell : FunD K "_law_cell" "_law_cell" s_law_cell t.f_law_cell t.d_law_cell .none
  b_law_cell : ∀ j, j ≤ 0 → Binds K t.d_law_cell P_law_cell (([] : List Value).drop j)
  w_law_cell : Vals [] ([] : List Value)
  m_law_cell : mg "_law_cell" = some (.ref t.f_law_cell)
  F_law_stream : FunD K "_law_stream" "_law_stream" s_law_stream t.f_law_stream t.d_law_stream .none
  b_law_stream : ∀ j, j ≤ 0 → Binds K t.d_law_stream P_law_stream (([] : List Value).drop j)
  w_law_stream : Vals [] ([] : List Value)
  m_law_stream : mg "_law_stream" = some (.ref t.f_law_stream)
  F_law_text : FunD K "_law_text" "_law_text" s_law_text t.f_law_text t.d_law_text .none
  b_law_text : ∀ j, j ≤ 0 → Binds K t.d_law_text P_law_text (([] : List Value).drop j)
  w_law_text : Vals [] ([] : List Value)
  m_law_text : mg "_law_text" = some (.ref t.f_law_text)
  F_law_table : FunD K "_law_table" "_law_table" s_law_table t.f_law_table t.d_law_table .none
  b_law_table : ∀ j, j ≤ 0 → Binds K t.d_law_table P_law_table (([] : List Value).drop j)
  w_law_table : Vals [] ([] : List Value)
  m_law_table : mg "_law_table" = some (.ref t.f_law_table)
  F_law_content : FunD K "_law_content" "_law_content" s_law_content t.f_law_content t.d_law_content .none
  b_law_content : ∀ j, j ≤ 0 → Binds K t.d_law_content P_law_content (([] : List Value).drop j)
  w_law_content : Vals [] ([] : List Value)
  m_law_content : mg "_law_content" = some (.ref t.f_law_content)
  F_law_cells_changed : FunD K "_law_cells_changed" "_law_cells_changed" s_law_cells_changed t.f_law_cells_changed t.d_law_cells_changed .none
  b_law_cells_changed : ∀ j, j ≤ 0 → Binds K t.d_law_cells_changed P_law_cells_changed (([] : List Value).drop j)
  w_law_cells_changed : Vals [] ([] : List Value)
  m_law_cells_changed : mg "_law_cells_changed" = some (.ref t.f_law_cells_changed)
  F_law_made : FunD K "_law_made" "_law_made" s_law_made t.f_law_made t.d_law_made .none
  b_law_made : ∀ j, j ≤ 0 → Binds K t.d_law_made P_law_made (([] : List Value).drop j)
  w_law_made : Vals [] ([] : List Value)
  m_law_made : mg "_law_made" = some (.ref t.f_law_made)
  F_law_joined : FunD K "_law_joined" "_law_joined" s_law_joined t.f_law_joined t.d_law_joined .none
  b_law_joined : ∀ j, j ≤ 0 → Binds K t.d_law_joined P_law_joined (([] : List Value).drop j)
  w_law_joined : Vals [] ([] : List Value)
  m_law_joined : mg "_law_joined" = some (.ref t.f_law_joined)
  F_law_same : FunD K "_law_same" "_law_same" s_law_same t.f_law_same t.d_law_same .none
  b_law_same : ∀ j, j ≤ 0 → Binds K t.d_law_same P_law_same (([] : List Value).drop j)
  w_law_same : Vals [] ([] : List Value)
  m_law_same : mg "_law_same" = some (.ref t.f_law_same)
  F_law : FunD K "law" "law" s_law t.f_law t.d_law .none
  b_law : ∀ j, j ≤ 0 → Binds K t.d_law P_law (([] : List Value).drop j)
  w_law : Vals [] ([] : List Value)
  m_law : mg "law" = some (.ref t.f_law)
  at_Chapter : mg "Chapter" = some (.ref t.c_Chapter)
  kp_Chapter : PySem.W.keepIn K (.ref t.c_Chapter) = true
  mk_Chapter : PySem.W.makesIn K t.c_Chapter = true
  in_Chapter : PySem.W.findIn K (.ref t.c_Chapter) "__init__" = some (some (.builtin "object.__init__"))
  cl_Chapter : Cls K t.c_Chapter
  at_Para : mg "Para" = some (.ref t.c_Para)
  kp_Para : PySem.W.keepIn K (.ref t.c_Para) = true
  mk_Para : PySem.W.makesIn K t.c_Para = true
  in_Para : PySem.W.findIn K (.ref t.c_Para) "__init__" = some (some (.builtin "object.__init__"))
  cl_Para : Cls K t.c_Para
  at_Table : mg "Table" = some (.ref t.c_Table)
  kp_Table : PySem.W.keepIn K (.ref t.c_Table) = true
  mk_Table : PySem.W.makesIn K t.c_Table = true
  in_Table : PySem.W.findIn K (.ref t.c_Table) "__init__" = some (some (.builtin "object.__init__"))
  cl_Table : Cls K t.c_Table
  mt_Chapter_fits : Meth K t.c_Chapter "fits" t.f_Kind_fits
  mt_Para_fits : Meth K t.c_Para "fits" t.f_Kind_fits
  mt_Table_fits : Meth K t.c_Table "fits" t.f_Table_fits
  mt_Chapter_joined : Meth K t.c_Chapter "joined" t.f_Kind_joined
  mt_Para_joined : Meth K t.c_Para "joined" t.f_Kind_joined
  mt_Table_joined : Meth K t.c_Table "joined" t.f_Table_joined
  mt_Chapter_word : Meth K t.c_Chapter "word" t.f_Chapter_word
  mt_Para_word : Meth K t.c_Para "word" t.f_Para_word
  mt_Table_word : Meth K t.c_Table "word" t.f_Table_word
  v_LONGEST_TEXT : mg "LONGEST_TEXT" = some t.u_LONGEST_TEXT
  r_LONGEST_TEXT : RelV (.int 60) t.u_LONGEST_TEXT
  v_PERCENT_SIGN : mg "PERCENT_SIGN" = some t.u_PERCENT_SIGN
  r_PERCENT_SIGN : RelV (.int 37) t.u_PERCENT_SIGN
  v_MOST_ROWS : mg "MOST_ROWS" = some t.u_MOST_ROWS
  r_MOST_ROWS : RelV (.int 6) t.u_MOST_ROWS
  v_MOST_CELLS : mg "MOST_CELLS" = some t.u_MOST_CELLS
  r_MOST_CELLS : RelV (.int 6) t.u_MOST_CELLS
  z_all : mg "all" = none
  z_enumerate : mg "enumerate" = none
  z_int : mg "int" = none
  z_isinstance : mg "isinstance" = none
  z_len : mg "len" = none
  z_list : mg "list" = none
  z_ord : mg "ord" = none
  z_range : mg "range" = none
  z_str : mg "str" = none
  z_tuple : mg "tuple" = none
  Z : Facts K t
theorem law_ok {P : Program} {w : World} {K : PySem.W.Frag} {mg : Str → Option Value} {base : Heap} {t : Adr} (A : AdrOk K mg t) : FnOk P w K mg base CX0 6 t.f_law t.d_law P_law (sp_law K t) := by
  have T0 : Tab P w K mg base 0 (gb_0 K t) bl := (((((((Tab.nil (fun x hx => by
    simp only [bl, List.mem_cons, List.not_mem_nil, or_false] at hx
    rcases hx with rfl | rfl | rfl | rfl | rfl | rfl | rfl | rfl | rfl | rfl
    · exact A.z_all
    · exact A.z_enumerate
    · exact A.z_int
    · exact A.z_isinstance
    · exact A.z_len
    · exact A.z_list
    · exact A.z_ord
    · exact A.z_range
    · exact A.z_str
    · exact A.z_tuple)).consV A.v_MOST_CELLS A.r_MOST_CELLS).consV A.v_MOST_ROWS A.r_MOST_ROWS).consV A.v_PERCENT_SIGN A.r_PERCENT_SIGN).consV A.v_LONGEST_TEXT A.r_LONGEST_TEXT).consC (oi := none) ⟨A.at_Table, A.kp_Table, A.mk_Table, A.in_Table⟩).consC (oi := none) ⟨A.at_Para, A.kp_Para, A.mk_Para, A.in_Para⟩).consC (oi := none) ⟨A.at_Chapter, A.kp_Chapter, A.mk_Chapter, A.in_Chapter⟩
  have T1 : Tab P w K mg base 1 (gb_1 K t) bl := ((((((((((T0.mono (show 0 ≤ 1 by decide)).cons (i := i_law_same K t) ⟨A.m_law_same, A.F_law_same.kp, ⟨CX0, fun X' _ _ => pass_CX0 X', ok_law_same (t := t) A.Z A.F_law_same T0⟩, Nat.le_refl 1, A.b_law_same, A.w_law_same⟩).cons (i := i_law_joined0 K t) ⟨A.m_law_joined, A.F_law_joined.kp, ⟨CX0, fun X' _ _ => pass_CX0 X', ok_law_joined0 (t := t) A.Z A.F_law_joined T0⟩, Nat.le_refl 1, A.b_law_joined, A.w_law_joined⟩).cons (i := i_law_stream K t) ⟨A.m_law_stream, A.F_law_stream.kp, ⟨CX0, fun X' _ _ => pass_CX0 X', ok_law_stream (t := t) A.Z A.F_law_stream T0⟩, Nat.le_refl 1, A.b_law_stream, A.w_law_stream⟩).cons (i := i_law_cell K t) ⟨A.m_law_cell, A.F_law_cell.kp, ⟨CX0, fun X' _ _ => pass_CX0 X', ok_law_cell (t := t) A.Z A.F_law_cell T0⟩, Nat.le_refl 1, A.b_law_cell, A.w_law_cell⟩).cons (i := i_shape_of K t) ⟨A.m_shape_of, A.F_shape_of.kp, ⟨CX0, fun X' _ _ => pass_CX0 X', ok_shape_of (t := t) A.Z A.F_shape_of T0⟩, Nat.le_refl 1, A.b_shape_of, A.w_shape_of⟩).cons (i := i_is_tuple_of K t) ⟨A.m_is_tuple_of, A.F_is_tuple_of.kp, ⟨CX0, fun X' _ _ => pass_CX0 X', ok_is_tuple_of (t := t) A.Z A.F_is_tuple_of T0⟩, Nat.le_refl 1, A.b_is_tuple_of, A.w_is_tuple_of⟩).cons (i := i_is_clash K t) ⟨A.m_is_clash, A.F_is_clash.kp, ⟨CX0, fun X' _ _ => pass_CX0 X', ok_is_clash (t := t) A.Z A.F_is_clash T0⟩, Nat.le_refl 1, A.b_is_clash, A.w_is_clash⟩).cons (i := i_is_text_sign K t) ⟨A.m_is_text_sign, A.F_is_text_sign.kp, ⟨CX0, fun X' _ _ => pass_CX0 X', ok_is_text_sign (t := t) A.Z A.F_is_text_sign T0⟩, Nat.le_refl 1, A.b_is_text_sign, A.w_is_text_sign⟩).cons (i := i_has_length K t) ⟨A.m_has_length, A.F_has_length.kp, ⟨CX0, fun X' _ _ => pass_CX0 X', ok_has_length (t := t) A.Z A.F_has_length T0⟩, Nat.le_refl 1, A.b_has_length, A.w_has_length⟩).consM (m := "word") (l := mt_word K t) (fun mi hm => by
    simp only [mt_word, List.mem_cons, List.not_mem_nil, or_false] at hm
    rcases hm with rfl | rfl | rfl
    · exact ⟨A.cl_Chapter, A.mt_Chapter_word, ⟨A.F_Chapter_word.kp, ⟨CX0, fun X' _ _ => pass_CX0 X', ok_Chapter_word (t := t) A.Z A.F_Chapter_word T0⟩, (show 1 ≤ 1 by decide), A.b_Chapter_word, A.w_Chapter_word⟩⟩
    · exact ⟨A.cl_Para, A.mt_Para_word, ⟨A.F_Para_word.kp, ⟨CX0, fun X' _ _ => pass_CX0 X', ok_Para_word (t := t) A.Z A.F_Para_word T0⟩, (show 1 ≤ 1 by decide), A.b_Para_word, A.w_Para_word⟩⟩
    · exact ⟨A.cl_Table, A.mt_Table_word, ⟨A.F_Table_word.kp, ⟨CX0, fun X' _ _ => pass_CX0 X', ok_Table_word (t := t) A.Z A.F_Table_word T0⟩, (show 1 ≤ 1 by decide), A.b_Table_word, A.w_Table_word⟩⟩)
  have T2 : Tab P w K mg base 2 (gb_2 K t) bl := ((((((T1.mono (show 1 ≤ 2 by decide)).cons (i := i_law_joined K t) ⟨A.m_law_joined, A.F_law_joined.kp, ⟨CX0, fun X' _ _ => pass_CX0 X', ok_law_joined (t := t) A.Z A.F_law_joined T1⟩, Nat.le_refl 2, A.b_law_joined, A.w_law_joined⟩).cons (i := i_law_cells_changed K t) ⟨A.m_law_cells_changed, A.F_law_cells_changed.kp, ⟨CX0, fun X' _ _ => pass_CX0 X', ok_law_cells_changed (t := t) A.Z A.F_law_cells_changed T1⟩, Nat.le_refl 2, A.b_law_cells_changed, A.w_law_cells_changed⟩).cons (i := i_law_text K t) ⟨A.m_law_text, A.F_law_text.kp, ⟨CX0, fun X' _ _ => pass_CX0 X', ok_law_text (t := t) A.Z A.F_law_text T1⟩, Nat.le_refl 2, A.b_law_text, A.w_law_text⟩).cons (i := i_kind_of_word K t) ⟨A.m_kind_of_word, A.F_kind_of_word.kp, ⟨CX0, fun X' _ _ => pass_CX0 X', ok_kind_of_word (t := t) A.Z A.F_kind_of_word T1⟩, Nat.le_refl 2, A.b_kind_of_word, A.w_kind_of_word⟩).cons (i := i_settled K t) ⟨A.m_settled, A.F_settled.kp, ⟨CX0, fun X' _ _ => pass_CX0 X', ok_settled (t := t) A.Z A.F_settled T1⟩, Nat.le_refl 2, A.b_settled, A.w_settled⟩).cons (i := i_is_text K t) ⟨A.m_is_text, A.F_is_text.kp, ⟨CX0, fun X' _ _ => pass_CX0 X', ok_is_text (t := t) A.Z A.F_is_text T1⟩, Nat.le_refl 2, A.b_is_text, A.w_is_text⟩
  have T3 : Tab P w K mg base 3 (gb_3 K t) bl := ((((T2.mono (show 2 ≤ 3 by decide)).cons (i := i_law_table K t) ⟨A.m_law_table, A.F_law_table.kp, ⟨CX0, fun X' _ _ => pass_CX0 X', ok_law_table (t := t) A.Z A.F_law_table T2⟩, Nat.le_refl 3, A.b_law_table, A.w_law_table⟩).cons (i := i_joined_cells K t) ⟨A.m_joined_cells, A.F_joined_cells.kp, ⟨CX0, fun X' _ _ => pass_CX0 X', ok_joined_cells (t := t) A.Z A.F_joined_cells T2⟩, Nat.le_refl 3, A.b_joined_cells, A.w_joined_cells⟩).cons (i := i_is_row K t) ⟨A.m_is_row, A.F_is_row.kp, ⟨CX0, fun X' _ _ => pass_CX0 X', ok_is_row (t := t) A.Z A.F_is_row T2⟩, Nat.le_refl 3, A.b_is_row, A.w_is_row⟩).cons (i := i_joined_whole K t) ⟨A.m_joined_whole, A.F_joined_whole.kp, ⟨CX0, fun X' _ _ => pass_CX0 X', ok_joined_whole (t := t) A.Z A.F_joined_whole T2⟩, Nat.le_refl 3, A.b_joined_whole, A.w_joined_whole⟩
  have T4 : Tab P w K mg base 4 (gb_4 K t) bl := (((T3.mono (show 3 ≤ 4 by decide)).cons (i := i_law_content K t) ⟨A.m_law_content, A.F_law_content.kp, ⟨CX0, fun X' _ _ => pass_CX0 X', ok_law_content (t := t) A.Z A.F_law_content T3⟩, Nat.le_refl 4, A.b_law_content, A.w_law_content⟩).consM (m := "joined") (l := mt_joined K t) (fun mi hm => by
    simp only [mt_joined, List.mem_cons, List.not_mem_nil, or_false] at hm
    rcases hm with rfl | rfl | rfl
    · exact ⟨A.cl_Chapter, A.mt_Chapter_joined, ⟨A.F_Kind_joined.kp, ⟨CX0, fun X' _ _ => pass_CX0 X', ok_Kind_joined (t := t) A.Z A.F_Kind_joined T3⟩, (show 4 ≤ 4 by decide), A.b_Kind_joined, A.w_Kind_joined⟩⟩
    · exact ⟨A.cl_Para, A.mt_Para_joined, ⟨A.F_Kind_joined.kp, ⟨CX0, fun X' _ _ => pass_CX0 X', ok_Kind_joined (t := t) A.Z A.F_Kind_joined T3⟩, (show 4 ≤ 4 by decide), A.b_Kind_joined, A.w_Kind_joined⟩⟩
    · exact ⟨A.cl_Table, A.mt_Table_joined, ⟨A.F_Table_joined.kp, ⟨CX0, fun X' _ _ => pass_CX0 X', ok_Table_joined (t := t) A.Z A.F_Table_joined T3⟩, (show 4 ≤ 4 by decide), A.b_Table_joined, A.w_Table_joined⟩⟩)).consM (m := "fits") (l := mt_fits K t) (fun mi hm => by
    simp only [mt_fits, List.mem_cons, List.not_mem_nil, or_false] at hm
    rcases hm with rfl | rfl | rfl
    · exact ⟨A.cl_Chapter, A.mt_Chapter_fits, ⟨A.F_Kind_fits.kp, ⟨CX0, fun X' _ _ => pass_CX0 X', ok_Kind_fits (t := t) A.Z A.F_Kind_fits T2⟩, (show 3 ≤ 4 by decide), A.b_Kind_fits, A.w_Kind_fits⟩⟩
    · exact ⟨A.cl_Para, A.mt_Para_fits, ⟨A.F_Kind_fits.kp, ⟨CX0, fun X' _ _ => pass_CX0 X', ok_Kind_fits (t := t) A.Z A.F_Kind_fits T2⟩, (show 3 ≤ 4 by decide), A.b_Kind_fits, A.w_Kind_fits⟩⟩
    · exact ⟨A.cl_Table, A.mt_Table_fits, ⟨A.F_Table_fits.kp, ⟨CX0, fun X' _ _ => pass_CX0 X', ok_Table_fits (t := t) A.Z A.F_Table_fits T3⟩, (show 4 ≤ 4 by decide), A.b_Table_fits, A.w_Table_fits⟩⟩)
  have T5 : Tab P w K mg base 5 (gb_5 K t) bl := (T4.mono (show 4 ≤ 5 by decide)).cons (i := i_law_made K t) ⟨A.m_law_made, A.F_law_made.kp, ⟨CX0, fun X' _ _ => pass_CX0 X', ok_law_made (t := t) A.Z A.F_law_made T4⟩, Nat.le_refl 5, A.b_law_made, A.w_law_made⟩
  exact ok_law (t := t) A.Z A.F_law T5
theorem all_mk {l : PySem.W.OpenLaw} {w : World} {K : PySem.W.Frag} {h : Heap} {mg : Str → Option Value} {fa f_has_length f_is_text_sign f_is_text f_Kind_fits f_is_clash f_settled f_joined_whole f_Kind_joined f_is_tuple_of f_is_row f_Table_fits f_shape_of f_joined_cells f_Table_joined f_Chapter_word f_Para_word f_Table_word f_kind_of_word f_law_cell f_law_stream f_law_text f_law_table f_law_content f_law_cells_changed f_law_made f_law_joined f_law_same f_law c_Chapter c_Para c_Table : Addr} (X : K.In h) (G : h.Ns mainGlobals mg) (hfa : mg "law" = some (.ref fa))
    {od_has_length an_has_length od_is_text_sign an_is_text_sign od_is_text an_is_text od_Kind_fits an_Kind_fits od_is_clash an_is_clash od_settled an_settled od_joined_whole an_joined_whole od_Kind_joined an_Kind_joined od_is_tuple_of an_is_tuple_of od_is_row an_is_row od_Table_fits an_Table_fits od_shape_of an_shape_of od_joined_cells an_joined_cells od_Table_joined an_Table_joined od_Chapter_word an_Chapter_word od_Para_word an_Para_word od_Table_word an_Table_word od_kind_of_word an_kind_of_word od_law_cell an_law_cell od_law_stream an_law_stream od_law_text an_law_text od_law_table an_law_table od_law_content an_law_content od_law_cells_changed an_law_cells_changed od_law_made an_law_made od_law_joined an_law_joined od_law_same an_law_same od_law an_law : Option Addr} {sl_has_length sl_is_text_sign sl_is_text sl_Kind_fits sl_is_clash sl_settled sl_joined_whole sl_Kind_joined sl_is_tuple_of sl_is_row sl_Table_fits sl_shape_of sl_joined_cells sl_Table_joined sl_Chapter_word sl_Para_word sl_Table_word sl_kind_of_word sl_law_cell sl_law_stream sl_law_text sl_law_table sl_law_content sl_law_cells_changed sl_law_made sl_law_joined sl_law_same sl_law : Array (Option Value)}
    {oc_has_length kV_has_length dc_has_length pm_has_length cd_has_length ct_has_length oc_is_text_sign kV_is_text_sign dc_is_text_sign pm_is_text_sign cd_is_text_sign ct_is_text_sign oc_is_text kV_is_text dc_is_text pm_is_text cd_is_text ct_is_text oc_Kind_fits kV_Kind_fits dc_Kind_fits pm_Kind_fits cd_Kind_fits ct_Kind_fits oc_is_clash kV_is_clash dc_is_clash pm_is_clash cd_is_clash ct_is_clash oc_settled kV_settled dc_settled pm_settled cd_settled ct_settled oc_joined_whole kV_joined_whole dc_joined_whole pm_joined_whole cd_joined_whole ct_joined_whole oc_Kind_joined kV_Kind_joined dc_Kind_joined pm_Kind_joined cd_Kind_joined ct_Kind_joined oc_is_tuple_of kV_is_tuple_of dc_is_tuple_of pm_is_tuple_of cd_is_tuple_of ct_is_tuple_of oc_is_row kV_is_row dc_is_row pm_is_row cd_is_row ct_is_row oc_Table_fits kV_Table_fits dc_Table_fits pm_Table_fits cd_Table_fits ct_Table_fits oc_shape_of kV_shape_of dc_shape_of pm_shape_of cd_shape_of ct_shape_of oc_joined_cells kV_joined_cells dc_joined_cells pm_joined_cells cd_joined_cells ct_joined_cells oc_Table_joined kV_Table_joined dc_Table_joined pm_Table_joined cd_Table_joined ct_Table_joined oc_Chapter_word kV_Chapter_word dc_Chapter_word pm_Chapter_word cd_Chapter_word ct_Chapter_word oc_Para_word kV_Para_word dc_Para_word pm_Para_word cd_Para_word ct_Para_word oc_Table_word kV_Table_word dc_Table_word pm_Table_word cd_Table_word ct_Table_word oc_kind_of_word kV_kind_of_word dc_kind_of_word pm_kind_of_word cd_kind_of_word ct_kind_of_word oc_law_cell kV_law_cell dc_law_cell pm_law_cell cd_law_cell ct_law_cell oc_law_stream kV_law_stream dc_law_stream pm_law_stream cd_law_stream ct_law_stream oc_law_text kV_law_text dc_law_text pm_law_text cd_law_text ct_law_text oc_law_table kV_law_table dc_law_table pm_law_table cd_law_table ct_law_table oc_law_content kV_law_content dc_law_content pm_law_content cd_law_content ct_law_content oc_law_cells_changed kV_law_cells_changed dc_law_cells_changed pm_law_cells_changed cd_law_cells_changed ct_law_cells_changed oc_law_made kV_law_made dc_law_made pm_law_made cd_law_made ct_law_made oc_law_joined kV_law_joined dc_law_joined pm_law_joined cd_law_joined ct_law_joined oc_law_same kV_law_same dc_law_same pm_law_same cd_law_same ct_law_same oc_law kV_law dc_law pm_law cd_law ct_law : Value}
    {u_LONGEST_TEXT u_PERCENT_SIGN u_MOST_ROWS u_MOST_CELLS : Value}
    (a_Chapter : PySem.W.nsIn K mainGlobals "Chapter" = some (some (.ref c_Chapter)))
    (a_Para : PySem.W.nsIn K mainGlobals "Para" = some (some (.ref c_Para)))
    (a_Table : PySem.W.nsIn K mainGlobals "Table" = some (some (.ref c_Table)))
    (in_Chapter : PySem.W.findIn K (.ref c_Chapter) "__init__" = some (some (.builtin "object.__init__")))
    (kp_Chapter : PySem.W.keepIn K (.ref c_Chapter) = true)
    (mk_Chapter : PySem.W.makesIn K c_Chapter = true)
    (pg_Chapter : PySem.W.plainGet K c_Chapter Str.empty = true)
    (hd_Chapter : PySem.W.hasDictIn K c_Chapter = true)
    (po_Chapter : PySem.W.plainOver K c_Chapter = true)
    (sa_Chapter : PySem.W.findIn K (.ref c_Chapter) "__setattr__" = some (some (.builtin "object.__setattr__")))
    (in_Para : PySem.W.findIn K (.ref c_Para) "__init__" = some (some (.builtin "object.__init__")))
    (kp_Para : PySem.W.keepIn K (.ref c_Para) = true)
    (mk_Para : PySem.W.makesIn K c_Para = true)
    (pg_Para : PySem.W.plainGet K c_Para Str.empty = true)
    (hd_Para : PySem.W.hasDictIn K c_Para = true)
    (po_Para : PySem.W.plainOver K c_Para = true)
    (sa_Para : PySem.W.findIn K (.ref c_Para) "__setattr__" = some (some (.builtin "object.__setattr__")))
    (in_Table : PySem.W.findIn K (.ref c_Table) "__init__" = some (some (.builtin "object.__init__")))
    (kp_Table : PySem.W.keepIn K (.ref c_Table) = true)
    (mk_Table : PySem.W.makesIn K c_Table = true)
    (pg_Table : PySem.W.plainGet K c_Table Str.empty = true)
    (hd_Table : PySem.W.hasDictIn K c_Table = true)
    (po_Table : PySem.W.plainOver K c_Table = true)
    (sa_Table : PySem.W.findIn K (.ref c_Table) "__setattr__" = some (some (.builtin "object.__setattr__")))
    (mt_Chapter_fits : PySem.W.findIn K (.ref c_Chapter) "fits" = some (some (.ref f_Kind_fits)))
    (mt_Para_fits : PySem.W.findIn K (.ref c_Para) "fits" = some (some (.ref f_Kind_fits)))
    (mt_Table_fits : PySem.W.findIn K (.ref c_Table) "fits" = some (some (.ref f_Table_fits)))
    (mt_Chapter_joined : PySem.W.findIn K (.ref c_Chapter) "joined" = some (some (.ref f_Kind_joined)))
    (mt_Para_joined : PySem.W.findIn K (.ref c_Para) "joined" = some (some (.ref f_Kind_joined)))
    (mt_Table_joined : PySem.W.findIn K (.ref c_Table) "joined" = some (some (.ref f_Table_joined)))
    (mt_Chapter_word : PySem.W.findIn K (.ref c_Chapter) "word" = some (some (.ref f_Chapter_word)))
    (mt_Para_word : PySem.W.findIn K (.ref c_Para) "word" = some (some (.ref f_Para_word)))
    (mt_Table_word : PySem.W.findIn K (.ref c_Table) "word" = some (some (.ref f_Table_word)))
    (a_has_length : PySem.W.nsIn K mainGlobals "has_length" = some (some (.ref f_has_length)))
    (l_has_length : K.lookup f_has_length = some ⟨oc_has_length, od_has_length, .func (PySem.W.fnOf "has_length" "has_length" (defArgs s_has_length) (defBody s_has_length) (defScope s_has_length) .none kV_has_length dc_has_length pm_has_length an_has_length cd_has_length ct_has_length), sl_has_length⟩)
    (c_has_length : PySem.W.codeIn K cd_has_length "has_length" = true)
    (k_has_length : PySem.W.keepIn K (.ref f_has_length) = true)
    (a_is_text_sign : PySem.W.nsIn K mainGlobals "is_text_sign" = some (some (.ref f_is_text_sign)))
    (l_is_text_sign : K.lookup f_is_text_sign = some ⟨oc_is_text_sign, od_is_text_sign, .func (PySem.W.fnOf "is_text_sign" "is_text_sign" (defArgs s_is_text_sign) (defBody s_is_text_sign) (defScope s_is_text_sign) .none kV_is_text_sign dc_is_text_sign pm_is_text_sign an_is_text_sign cd_is_text_sign ct_is_text_sign), sl_is_text_sign⟩)
    (c_is_text_sign : PySem.W.codeIn K cd_is_text_sign "is_text_sign" = true)
    (k_is_text_sign : PySem.W.keepIn K (.ref f_is_text_sign) = true)
    (a_is_text : PySem.W.nsIn K mainGlobals "is_text" = some (some (.ref f_is_text)))
    (l_is_text : K.lookup f_is_text = some ⟨oc_is_text, od_is_text, .func (PySem.W.fnOf "is_text" "is_text" (defArgs s_is_text) (defBody s_is_text) (defScope s_is_text) .none kV_is_text dc_is_text pm_is_text an_is_text cd_is_text ct_is_text), sl_is_text⟩)
    (c_is_text : PySem.W.codeIn K cd_is_text "is_text" = true)
    (k_is_text : PySem.W.keepIn K (.ref f_is_text) = true)
    (l_Kind_fits : K.lookup f_Kind_fits = some ⟨oc_Kind_fits, od_Kind_fits, .func (PySem.W.fnOf "fits" "Kind.fits" (defArgs s_Kind_fits) (defBody s_Kind_fits) (defScope s_Kind_fits) .none kV_Kind_fits dc_Kind_fits pm_Kind_fits an_Kind_fits cd_Kind_fits ct_Kind_fits), sl_Kind_fits⟩)
    (c_Kind_fits : PySem.W.codeIn K cd_Kind_fits "Kind.fits" = true)
    (k_Kind_fits : PySem.W.keepIn K (.ref f_Kind_fits) = true)
    (if_Kind_fits : PySem.W.isFn K (.ref f_Kind_fits) = true)
    (a_is_clash : PySem.W.nsIn K mainGlobals "is_clash" = some (some (.ref f_is_clash)))
    (l_is_clash : K.lookup f_is_clash = some ⟨oc_is_clash, od_is_clash, .func (PySem.W.fnOf "is_clash" "is_clash" (defArgs s_is_clash) (defBody s_is_clash) (defScope s_is_clash) .none kV_is_clash dc_is_clash pm_is_clash an_is_clash cd_is_clash ct_is_clash), sl_is_clash⟩)
    (c_is_clash : PySem.W.codeIn K cd_is_clash "is_clash" = true)
    (k_is_clash : PySem.W.keepIn K (.ref f_is_clash) = true)
    (a_settled : PySem.W.nsIn K mainGlobals "settled" = some (some (.ref f_settled)))
    (l_settled : K.lookup f_settled = some ⟨oc_settled, od_settled, .func (PySem.W.fnOf "settled" "settled" (defArgs s_settled) (defBody s_settled) (defScope s_settled) .none kV_settled dc_settled pm_settled an_settled cd_settled ct_settled), sl_settled⟩)
    (c_settled : PySem.W.codeIn K cd_settled "settled" = true)
    (k_settled : PySem.W.keepIn K (.ref f_settled) = true)
    (a_joined_whole : PySem.W.nsIn K mainGlobals "joined_whole" = some (some (.ref f_joined_whole)))
    (l_joined_whole : K.lookup f_joined_whole = some ⟨oc_joined_whole, od_joined_whole, .func (PySem.W.fnOf "joined_whole" "joined_whole" (defArgs s_joined_whole) (defBody s_joined_whole) (defScope s_joined_whole) .none kV_joined_whole dc_joined_whole pm_joined_whole an_joined_whole cd_joined_whole ct_joined_whole), sl_joined_whole⟩)
    (c_joined_whole : PySem.W.codeIn K cd_joined_whole "joined_whole" = true)
    (k_joined_whole : PySem.W.keepIn K (.ref f_joined_whole) = true)
    (l_Kind_joined : K.lookup f_Kind_joined = some ⟨oc_Kind_joined, od_Kind_joined, .func (PySem.W.fnOf "joined" "Kind.joined" (defArgs s_Kind_joined) (defBody s_Kind_joined) (defScope s_Kind_joined) .none kV_Kind_joined dc_Kind_joined pm_Kind_joined an_Kind_joined cd_Kind_joined ct_Kind_joined), sl_Kind_joined⟩)
    (c_Kind_joined : PySem.W.codeIn K cd_Kind_joined "Kind.joined" = true)
    (k_Kind_joined : PySem.W.keepIn K (.ref f_Kind_joined) = true)
    (if_Kind_joined : PySem.W.isFn K (.ref f_Kind_joined) = true)
    (a_is_tuple_of : PySem.W.nsIn K mainGlobals "is_tuple_of" = some (some (.ref f_is_tuple_of)))
    (l_is_tuple_of : K.lookup f_is_tuple_of = some ⟨oc_is_tuple_of, od_is_tuple_of, .func (PySem.W.fnOf "is_tuple_of" "is_tuple_of" (defArgs s_is_tuple_of) (defBody s_is_tuple_of) (defScope s_is_tuple_of) .none kV_is_tuple_of dc_is_tuple_of pm_is_tuple_of an_is_tuple_of cd_is_tuple_of ct_is_tuple_of), sl_is_tuple_of⟩)
    (c_is_tuple_of : PySem.W.codeIn K cd_is_tuple_of "is_tuple_of" = true)
    (k_is_tuple_of : PySem.W.keepIn K (.ref f_is_tuple_of) = true)
    (a_is_row : PySem.W.nsIn K mainGlobals "is_row" = some (some (.ref f_is_row)))
    (l_is_row : K.lookup f_is_row = some ⟨oc_is_row, od_is_row, .func (PySem.W.fnOf "is_row" "is_row" (defArgs s_is_row) (defBody s_is_row) (defScope s_is_row) .none kV_is_row dc_is_row pm_is_row an_is_row cd_is_row ct_is_row), sl_is_row⟩)
    (c_is_row : PySem.W.codeIn K cd_is_row "is_row" = true)
    (k_is_row : PySem.W.keepIn K (.ref f_is_row) = true)
    (l_Table_fits : K.lookup f_Table_fits = some ⟨oc_Table_fits, od_Table_fits, .func (PySem.W.fnOf "fits" "Table.fits" (defArgs s_Table_fits) (defBody s_Table_fits) (defScope s_Table_fits) .none kV_Table_fits dc_Table_fits pm_Table_fits an_Table_fits cd_Table_fits ct_Table_fits), sl_Table_fits⟩)
    (c_Table_fits : PySem.W.codeIn K cd_Table_fits "Table.fits" = true)
    (k_Table_fits : PySem.W.keepIn K (.ref f_Table_fits) = true)
    (if_Table_fits : PySem.W.isFn K (.ref f_Table_fits) = true)
    (a_shape_of : PySem.W.nsIn K mainGlobals "shape_of" = some (some (.ref f_shape_of)))
    (l_shape_of : K.lookup f_shape_of = some ⟨oc_shape_of, od_shape_of, .func (PySem.W.fnOf "shape_of" "shape_of" (defArgs s_shape_of) (defBody s_shape_of) (defScope s_shape_of) .none kV_shape_of dc_shape_of pm_shape_of an_shape_of cd_shape_of ct_shape_of), sl_shape_of⟩)
    (c_shape_of : PySem.W.codeIn K cd_shape_of "shape_of" = true)
    (k_shape_of : PySem.W.keepIn K (.ref f_shape_of) = true)
    (a_joined_cells : PySem.W.nsIn K mainGlobals "joined_cells" = some (some (.ref f_joined_cells)))
    (l_joined_cells : K.lookup f_joined_cells = some ⟨oc_joined_cells, od_joined_cells, .func (PySem.W.fnOf "joined_cells" "joined_cells" (defArgs s_joined_cells) (defBody s_joined_cells) (defScope s_joined_cells) .none kV_joined_cells dc_joined_cells pm_joined_cells an_joined_cells cd_joined_cells ct_joined_cells), sl_joined_cells⟩)
    (c_joined_cells : PySem.W.codeIn K cd_joined_cells "joined_cells" = true)
    (k_joined_cells : PySem.W.keepIn K (.ref f_joined_cells) = true)
    (l_Table_joined : K.lookup f_Table_joined = some ⟨oc_Table_joined, od_Table_joined, .func (PySem.W.fnOf "joined" "Table.joined" (defArgs s_Table_joined) (defBody s_Table_joined) (defScope s_Table_joined) .none kV_Table_joined dc_Table_joined pm_Table_joined an_Table_joined cd_Table_joined ct_Table_joined), sl_Table_joined⟩)
    (c_Table_joined : PySem.W.codeIn K cd_Table_joined "Table.joined" = true)
    (k_Table_joined : PySem.W.keepIn K (.ref f_Table_joined) = true)
    (if_Table_joined : PySem.W.isFn K (.ref f_Table_joined) = true)
    (l_Chapter_word : K.lookup f_Chapter_word = some ⟨oc_Chapter_word, od_Chapter_word, .func (PySem.W.fnOf "word" "Chapter.word" (defArgs s_Chapter_word) (defBody s_Chapter_word) (defScope s_Chapter_word) .none kV_Chapter_word dc_Chapter_word pm_Chapter_word an_Chapter_word cd_Chapter_word ct_Chapter_word), sl_Chapter_word⟩)
    (c_Chapter_word : PySem.W.codeIn K cd_Chapter_word "Chapter.word" = true)
    (k_Chapter_word : PySem.W.keepIn K (.ref f_Chapter_word) = true)
    (if_Chapter_word : PySem.W.isFn K (.ref f_Chapter_word) = true)
    (l_Para_word : K.lookup f_Para_word = some ⟨oc_Para_word, od_Para_word, .func (PySem.W.fnOf "word" "Para.word" (defArgs s_Para_word) (defBody s_Para_word) (defScope s_Para_word) .none kV_Para_word dc_Para_word pm_Para_word an_Para_word cd_Para_word ct_Para_word), sl_Para_word⟩)
    (c_Para_word : PySem.W.codeIn K cd_Para_word "Para.word" = true)
    (k_Para_word : PySem.W.keepIn K (.ref f_Para_word) = true)
    (if_Para_word : PySem.W.isFn K (.ref f_Para_word) = true)
    (l_Table_word : K.lookup f_Table_word = some ⟨oc_Table_word, od_Table_word, .func (PySem.W.fnOf "word" "Table.word" (defArgs s_Table_word) (defBody s_Table_word) (defScope s_Table_word) .none kV_Table_word dc_Table_word pm_Table_word an_Table_word cd_Table_word ct_Table_word), sl_Table_word⟩)
    (c_Table_word : PySem.W.codeIn K cd_Table_word "Table.word" = true)
    (k_Table_word : PySem.W.keepIn K (.ref f_Table_word) = true)
    (if_Table_word : PySem.W.isFn K (.ref f_Table_word) = true)
    (a_kind_of_word : PySem.W.nsIn K mainGlobals "kind_of_word" = some (some (.ref f_kind_of_word)))
    (l_kind_of_word : K.lookup f_kind_of_word = some ⟨oc_kind_of_word, od_kind_of_word, .func (PySem.W.fnOf "kind_of_word" "kind_of_word" (defArgs s_kind_of_word) (defBody s_kind_of_word) (defScope s_kind_of_word) .none kV_kind_of_word dc_kind_of_word pm_kind_of_word an_kind_of_word cd_kind_of_word ct_kind_of_word), sl_kind_of_word⟩)
    (c_kind_of_word : PySem.W.codeIn K cd_kind_of_word "kind_of_word" = true)
    (k_kind_of_word : PySem.W.keepIn K (.ref f_kind_of_word) = true)
    (a_law_cell : PySem.W.nsIn K mainGlobals "_law_cell" = some (some (.ref f_law_cell)))
    (l_law_cell : K.lookup f_law_cell = some ⟨oc_law_cell, od_law_cell, .func (PySem.W.fnOf "_law_cell" "_law_cell" (defArgs s_law_cell) (defBody s_law_cell) (defScope s_law_cell) .none kV_law_cell dc_law_cell pm_law_cell an_law_cell cd_law_cell ct_law_cell), sl_law_cell⟩)
    (c_law_cell : PySem.W.codeIn K cd_law_cell "_law_cell" = true)
    (k_law_cell : PySem.W.keepIn K (.ref f_law_cell) = true)
    (a_law_stream : PySem.W.nsIn K mainGlobals "_law_stream" = some (some (.ref f_law_stream)))
    (l_law_stream : K.lookup f_law_stream = some ⟨oc_law_stream, od_law_stream, .func (PySem.W.fnOf "_law_stream" "_law_stream" (defArgs s_law_stream) (defBody s_law_stream) (defScope s_law_stream) .none kV_law_stream dc_law_stream pm_law_stream an_law_stream cd_law_stream ct_law_stream), sl_law_stream⟩)
    (c_law_stream : PySem.W.codeIn K cd_law_stream "_law_stream" = true)
    (k_law_stream : PySem.W.keepIn K (.ref f_law_stream) = true)
    (a_law_text : PySem.W.nsIn K mainGlobals "_law_text" = some (some (.ref f_law_text)))
    (l_law_text : K.lookup f_law_text = some ⟨oc_law_text, od_law_text, .func (PySem.W.fnOf "_law_text" "_law_text" (defArgs s_law_text) (defBody s_law_text) (defScope s_law_text) .none kV_law_text dc_law_text pm_law_text an_law_text cd_law_text ct_law_text), sl_law_text⟩)
    (c_law_text : PySem.W.codeIn K cd_law_text "_law_text" = true)
    (k_law_text : PySem.W.keepIn K (.ref f_law_text) = true)
    (a_law_table : PySem.W.nsIn K mainGlobals "_law_table" = some (some (.ref f_law_table)))
    (l_law_table : K.lookup f_law_table = some ⟨oc_law_table, od_law_table, .func (PySem.W.fnOf "_law_table" "_law_table" (defArgs s_law_table) (defBody s_law_table) (defScope s_law_table) .none kV_law_table dc_law_table pm_law_table an_law_table cd_law_table ct_law_table), sl_law_table⟩)
    (c_law_table : PySem.W.codeIn K cd_law_table "_law_table" = true)
    (k_law_table : PySem.W.keepIn K (.ref f_law_table) = true)
    (a_law_content : PySem.W.nsIn K mainGlobals "_law_content" = some (some (.ref f_law_content)))
    (l_law_content : K.lookup f_law_content = some ⟨oc_law_content, od_law_content, .func (PySem.W.fnOf "_law_content" "_law_content" (defArgs s_law_content) (defBody s_law_content) (defScope s_law_content) .none kV_law_content dc_law_content pm_law_content an_law_content cd_law_content ct_law_content), sl_law_content⟩)
    (c_law_content : PySem.W.codeIn K cd_law_content "_law_content" = true)
    (k_law_content : PySem.W.keepIn K (.ref f_law_content) = true)
    (a_law_cells_changed : PySem.W.nsIn K mainGlobals "_law_cells_changed" = some (some (.ref f_law_cells_changed)))
    (l_law_cells_changed : K.lookup f_law_cells_changed = some ⟨oc_law_cells_changed, od_law_cells_changed, .func (PySem.W.fnOf "_law_cells_changed" "_law_cells_changed" (defArgs s_law_cells_changed) (defBody s_law_cells_changed) (defScope s_law_cells_changed) .none kV_law_cells_changed dc_law_cells_changed pm_law_cells_changed an_law_cells_changed cd_law_cells_changed ct_law_cells_changed), sl_law_cells_changed⟩)
    (c_law_cells_changed : PySem.W.codeIn K cd_law_cells_changed "_law_cells_changed" = true)
    (k_law_cells_changed : PySem.W.keepIn K (.ref f_law_cells_changed) = true)
    (a_law_made : PySem.W.nsIn K mainGlobals "_law_made" = some (some (.ref f_law_made)))
    (l_law_made : K.lookup f_law_made = some ⟨oc_law_made, od_law_made, .func (PySem.W.fnOf "_law_made" "_law_made" (defArgs s_law_made) (defBody s_law_made) (defScope s_law_made) .none kV_law_made dc_law_made pm_law_made an_law_made cd_law_made ct_law_made), sl_law_made⟩)
    (c_law_made : PySem.W.codeIn K cd_law_made "_law_made" = true)
    (k_law_made : PySem.W.keepIn K (.ref f_law_made) = true)
    (a_law_joined : PySem.W.nsIn K mainGlobals "_law_joined" = some (some (.ref f_law_joined)))
    (l_law_joined : K.lookup f_law_joined = some ⟨oc_law_joined, od_law_joined, .func (PySem.W.fnOf "_law_joined" "_law_joined" (defArgs s_law_joined) (defBody s_law_joined) (defScope s_law_joined) .none kV_law_joined dc_law_joined pm_law_joined an_law_joined cd_law_joined ct_law_joined), sl_law_joined⟩)
    (c_law_joined : PySem.W.codeIn K cd_law_joined "_law_joined" = true)
    (k_law_joined : PySem.W.keepIn K (.ref f_law_joined) = true)
    (a_law_same : PySem.W.nsIn K mainGlobals "_law_same" = some (some (.ref f_law_same)))
    (l_law_same : K.lookup f_law_same = some ⟨oc_law_same, od_law_same, .func (PySem.W.fnOf "_law_same" "_law_same" (defArgs s_law_same) (defBody s_law_same) (defScope s_law_same) .none kV_law_same dc_law_same pm_law_same an_law_same cd_law_same ct_law_same), sl_law_same⟩)
    (c_law_same : PySem.W.codeIn K cd_law_same "_law_same" = true)
    (k_law_same : PySem.W.keepIn K (.ref f_law_same) = true)
    (a_law : PySem.W.nsIn K mainGlobals "law" = some (some (.ref f_law)))
    (l_law : K.lookup f_law = some ⟨oc_law, od_law, .func (PySem.W.fnOf "law" "law" (defArgs s_law) (defBody s_law) (defScope s_law) .none kV_law dc_law pm_law an_law cd_law ct_law), sl_law⟩)
    (c_law : PySem.W.codeIn K cd_law "law" = true)
    (k_law : PySem.W.keepIn K (.ref f_law) = true)
    (v_LONGEST_TEXT : PySem.W.nsIn K mainGlobals "LONGEST_TEXT" = some (some u_LONGEST_TEXT))
    (r_LONGEST_TEXT : RelV (.int 60) u_LONGEST_TEXT)
    (v_PERCENT_SIGN : PySem.W.nsIn K mainGlobals "PERCENT_SIGN" = some (some u_PERCENT_SIGN))
    (r_PERCENT_SIGN : RelV (.int 37) u_PERCENT_SIGN)
    (v_MOST_ROWS : PySem.W.nsIn K mainGlobals "MOST_ROWS" = some (some u_MOST_ROWS))
    (r_MOST_ROWS : RelV (.int 6) u_MOST_ROWS)
    (v_MOST_CELLS : PySem.W.nsIn K mainGlobals "MOST_CELLS" = some (some u_MOST_CELLS))
    (r_MOST_CELLS : RelV (.int 6) u_MOST_CELLS)
    (z_all : PySem.W.nsIn K mainGlobals "all" = some none)
    (z_enumerate : PySem.W.nsIn K mainGlobals "enumerate" = some none)
    (z_int : PySem.W.nsIn K mainGlobals "int" = some none)
    (z_isinstance : PySem.W.nsIn K mainGlobals "isinstance" = some none)
    (z_len : PySem.W.nsIn K mainGlobals "len" = some none)
    (z_list : PySem.W.nsIn K mainGlobals "list" = some none)
    (z_ord : PySem.W.nsIn K mainGlobals "ord" = some none)
    (z_range : PySem.W.nsIn K mainGlobals "range" = some none)
    (z_str : PySem.W.nsIn K mainGlobals "str" = some none)
    (z_tuple : PySem.W.nsIn K mainGlobals "tuple" = some none)
    : ∃ (t : Adr) (fd : FuncData), (∀ (s : Shared) (v : Value), BindsTo s fd ⟨[v], []⟩ [("_law_script", v)]) ∧ ∀ base : Heap, K.In base → base.Ns mainGlobals mg → FnOk l.prog w K mg base CX0 6 fa fd ["_law_script"] (sp_law K t) := by
  have F_has_length := fun_mk (st := s_has_length) l_has_length c_has_length k_has_length
  have b_has_length := F_has_length.binds (ps := P_has_length) fun _ _ _ _ _ _ us hl => match us, hl with | [_, _, _], _ => rfl
  have F_is_text_sign := fun_mk (st := s_is_text_sign) l_is_text_sign c_is_text_sign k_is_text_sign
  have b_is_text_sign := F_is_text_sign.binds (ps := P_is_text_sign) fun _ _ _ _ _ _ us hl => match us, hl with | [_], _ => rfl
  have F_is_text := fun_mk (st := s_is_text) l_is_text c_is_text k_is_text
  have b_is_text := F_is_text.binds (ps := P_is_text) fun _ _ _ _ _ _ us hl => match us, hl with | [_], _ => rfl
  have F_Kind_fits := fun_mk (st := s_Kind_fits) l_Kind_fits c_Kind_fits k_Kind_fits
  have b_Kind_fits := F_Kind_fits.binds (ps := P_Kind_fits) fun _ _ _ _ _ _ us hl => match us, hl with | [_, _], _ => rfl
  have F_is_clash := fun_mk (st := s_is_clash) l_is_clash c_is_clash k_is_clash
  have b_is_clash := F_is_clash.binds (ps := P_is_clash) fun _ _ _ _ _ _ us hl => match us, hl with | [_, _, _], _ => rfl
  have F_settled := fun_mk (st := s_settled) l_settled c_settled k_settled
  have b_settled := F_settled.binds (ps := P_settled) fun _ _ _ _ _ _ us hl => match us, hl with | [_, _, _], _ => rfl
  have F_joined_whole := fun_mk (st := s_joined_whole) l_joined_whole c_joined_whole k_joined_whole
  have b_joined_whole := F_joined_whole.binds (ps := P_joined_whole) fun _ _ _ _ _ _ us hl => match us, hl with | [_, _, _], _ => rfl
  have F_Kind_joined := fun_mk (st := s_Kind_joined) l_Kind_joined c_Kind_joined k_Kind_joined
  have b_Kind_joined := F_Kind_joined.binds (ps := P_Kind_joined) fun _ _ _ _ _ _ us hl => match us, hl with | [_, _, _, _], _ => rfl
  have F_is_tuple_of := fun_mk (st := s_is_tuple_of) l_is_tuple_of c_is_tuple_of k_is_tuple_of
  have b_is_tuple_of := F_is_tuple_of.binds (ps := P_is_tuple_of) fun _ _ _ _ _ _ us hl => match us, hl with | [_, _], _ => rfl
  have F_is_row := fun_mk (st := s_is_row) l_is_row c_is_row k_is_row
  have b_is_row := F_is_row.binds (ps := P_is_row) fun _ _ _ _ _ _ us hl => match us, hl with | [_], _ => rfl
  have F_Table_fits := fun_mk (st := s_Table_fits) l_Table_fits c_Table_fits k_Table_fits
  have b_Table_fits := F_Table_fits.binds (ps := P_Table_fits) fun _ _ _ _ _ _ us hl => match us, hl with | [_, _], _ => rfl
  have F_shape_of := fun_mk (st := s_shape_of) l_shape_of c_shape_of k_shape_of
  have b_shape_of := F_shape_of.binds (ps := P_shape_of) fun _ _ _ _ _ _ us hl => match us, hl with | [_], _ => rfl
  have F_joined_cells := fun_mk (st := s_joined_cells) l_joined_cells c_joined_cells k_joined_cells
  have b_joined_cells := F_joined_cells.binds (ps := P_joined_cells) fun _ _ _ _ _ _ us hl => match us, hl with | [_, _, _], _ => rfl
  have F_Table_joined := fun_mk (st := s_Table_joined) l_Table_joined c_Table_joined k_Table_joined
  have b_Table_joined := F_Table_joined.binds (ps := P_Table_joined) fun _ _ _ _ _ _ us hl => match us, hl with | [_, _, _, _], _ => rfl
  have F_Chapter_word := fun_mk (st := s_Chapter_word) l_Chapter_word c_Chapter_word k_Chapter_word
  have b_Chapter_word := F_Chapter_word.binds (ps := P_Chapter_word) fun _ _ _ _ _ _ us hl => match us, hl with | [_], _ => rfl
  have F_Para_word := fun_mk (st := s_Para_word) l_Para_word c_Para_word k_Para_word
  have b_Para_word := F_Para_word.binds (ps := P_Para_word) fun _ _ _ _ _ _ us hl => match us, hl with | [_], _ => rfl
  have F_Table_word := fun_mk (st := s_Table_word) l_Table_word c_Table_word k_Table_word
  have b_Table_word := F_Table_word.binds (ps := P_Table_word) fun _ _ _ _ _ _ us hl => match us, hl with | [_], _ => rfl
  have F_kind_of_word := fun_mk (st := s_kind_of_word) l_kind_of_word c_kind_of_word k_kind_of_word
  have b_kind_of_word := F_kind_of_word.binds (ps := P_kind_of_word) fun _ _ _ _ _ _ us hl => match us, hl with | [_], _ => rfl
  have F_law_cell := fun_mk (st := s_law_cell) l_law_cell c_law_cell k_law_cell
  have b_law_cell := F_law_cell.binds (ps := P_law_cell) fun _ _ _ _ _ _ us hl => match us, hl with | [_, _], _ => rfl
  have F_law_stream := fun_mk (st := s_law_stream) l_law_stream c_law_stream k_law_stream
  have b_law_stream := F_law_stream.binds (ps := P_law_stream) fun _ _ _ _ _ _ us hl => match us, hl with | [_, _], _ => rfl
  have F_law_text := fun_mk (st := s_law_text) l_law_text c_law_text k_law_text
  have b_law_text := F_law_text.binds (ps := P_law_text) fun _ _ _ _ _ _ us hl => match us, hl with | [_], _ => rfl
  have F_law_table := fun_mk (st := s_law_table) l_law_table c_law_table k_law_table
  have b_law_table := F_law_table.binds (ps := P_law_table) fun _ _ _ _ _ _ us hl => match us, hl with | [_], _ => rfl
  have F_law_content := fun_mk (st := s_law_content) l_law_content c_law_content k_law_content
  have b_law_content := F_law_content.binds (ps := P_law_content) fun _ _ _ _ _ _ us hl => match us, hl with | [_, _], _ => rfl
  have F_law_cells_changed := fun_mk (st := s_law_cells_changed) l_law_cells_changed c_law_cells_changed k_law_cells_changed
  have b_law_cells_changed := F_law_cells_changed.binds (ps := P_law_cells_changed) fun _ _ _ _ _ _ us hl => match us, hl with | [_, _], _ => rfl
  have F_law_made := fun_mk (st := s_law_made) l_law_made c_law_made k_law_made
  have b_law_made := F_law_made.binds (ps := P_law_made) fun _ _ _ _ _ _ us hl => match us, hl with | [_, _, _], _ => rfl
  have F_law_joined := fun_mk (st := s_law_joined) l_law_joined c_law_joined k_law_joined
  have b_law_joined := F_law_joined.binds (ps := P_law_joined) fun _ _ _ _ _ _ us hl => match us, hl with | [_, _, _, _], _ => rfl
  have F_law_same := fun_mk (st := s_law_same) l_law_same c_law_same k_law_same
  have b_law_same := F_law_same.binds (ps := P_law_same) fun _ _ _ _ _ _ us hl => match us, hl with | [_, _], _ => rfl
  have F_law := fun_mk (st := s_law) l_law c_law k_law
  have b_law := F_law.binds (ps := P_law) fun _ _ _ _ _ _ us hl => match us, hl with | [_], _ => rfl
  have m := PySem.W.mg_of X G a_law
  have e : fa = f_law := by
    rw [hfa] at m
    injection m with m
    injection m
  subst e
  have tl_1 : ∀ {a : Addr}, excTail (.ref a :: valTail) = true := fun {a} => by show excTail valTail = true; decide +kernel
  have tl_2 : ∀ {a b : Addr}, excTail (.ref a :: .ref b :: valTail) = true := fun {a b} => by show excTail valTail = true; decide +kernel
  have AO : AdrOk K mg ⟨f_has_length, PySem.W.fnOf "has_length" "has_length" (defArgs s_has_length) (defBody s_has_length) (defScope s_has_length) .none kV_has_length dc_has_length pm_has_length an_has_length cd_has_length ct_has_length, f_is_text_sign, PySem.W.fnOf "is_text_sign" "is_text_sign" (defArgs s_is_text_sign) (defBody s_is_text_sign) (defScope s_is_text_sign) .none kV_is_text_sign dc_is_text_sign pm_is_text_sign an_is_text_sign cd_is_text_sign ct_is_text_sign, f_is_text, PySem.W.fnOf "is_text" "is_text" (defArgs s_is_text) (defBody s_is_text) (defScope s_is_text) .none kV_is_text dc_is_text pm_is_text an_is_text cd_is_text ct_is_text, f_Kind_fits, PySem.W.fnOf "fits" "Kind.fits" (defArgs s_Kind_fits) (defBody s_Kind_fits) (defScope s_Kind_fits) .none kV_Kind_fits dc_Kind_fits pm_Kind_fits an_Kind_fits cd_Kind_fits ct_Kind_fits, f_is_clash, PySem.W.fnOf "is_clash" "is_clash" (defArgs s_is_clash) (defBody s_is_clash) (defScope s_is_clash) .none kV_is_clash dc_is_clash pm_is_clash an_is_clash cd_is_clash ct_is_clash, f_settled, PySem.W.fnOf "settled" "settled" (defArgs s_settled) (defBody s_settled) (defScope s_settled) .none kV_settled dc_settled pm_settled an_settled cd_settled ct_settled, f_joined_whole, PySem.W.fnOf "joined_whole" "joined_whole" (defArgs s_joined_whole) (defBody s_joined_whole) (defScope s_joined_whole) .none kV_joined_whole dc_joined_whole pm_joined_whole an_joined_whole cd_joined_whole ct_joined_whole, f_Kind_joined, PySem.W.fnOf "joined" "Kind.joined" (defArgs s_Kind_joined) (defBody s_Kind_joined) (defScope s_Kind_joined) .none kV_Kind_joined dc_Kind_joined pm_Kind_joined an_Kind_joined cd_Kind_joined ct_Kind_joined, f_is_tuple_of, PySem.W.fnOf "is_tuple_of" "is_tuple_of" (defArgs s_is_tuple_of) (defBody s_is_tuple_of) (defScope s_is_tuple_of) .none kV_is_tuple_of dc_is_tuple_of pm_is_tuple_of an_is_tuple_of cd_is_tuple_of ct_is_tuple_of, f_is_row, PySem.W.fnOf "is_row" "is_row" (defArgs s_is_row) (defBody s_is_row) (defScope s_is_row) .none kV_is_row dc_is_row pm_is_row an_is_row cd_is_row ct_is_row, f_Table_fits, PySem.W.fnOf "fits" "Table.fits" (defArgs s_Table_fits) (defBody s_Table_fits) (defScope s_Table_fits) .none kV_Table_fits dc_Table_fits pm_Table_fits an_Table_fits cd_Table_fits ct_Table_fits, f_shape_of, PySem.W.fnOf "shape_of" "shape_of" (defArgs s_shape_of) (defBody s_shape_of) (defScope s_shape_of) .none kV_shape_of dc_shape_of pm_shape_of an_shape_of cd_shape_of ct_shape_of, f_joined_cells, PySem.W.fnOf "joined_cells" "joined_cells" (defArgs s_joined_cells) (defBody s_joined_cells) (defScope s_joined_cells) .none kV_joined_cells dc_joined_cells pm_joined_cells an_joined_cells cd_joined_cells ct_joined_cells, f_Table_joined, PySem.W.fnOf "joined" "Table.joined" (defArgs s_Table_joined) (defBody s_Table_joined) (defScope s_Table_joined) .none kV_Table_joined dc_Table_joined pm_Table_joined an_Table_joined cd_Table_joined ct_Table_joined, f_Chapter_word, PySem.W.fnOf "word" "Chapter.word" (defArgs s_Chapter_word) (defBody s_Chapter_word) (defScope s_Chapter_word) .none kV_Chapter_word dc_Chapter_word pm_Chapter_word an_Chapter_word cd_Chapter_word ct_Chapter_word, f_Para_word, PySem.W.fnOf "word" "Para.word" (defArgs s_Para_word) (defBody s_Para_word) (defScope s_Para_word) .none kV_Para_word dc_Para_word pm_Para_word an_Para_word cd_Para_word ct_Para_word, f_Table_word, PySem.W.fnOf "word" "Table.word" (defArgs s_Table_word) (defBody s_Table_word) (defScope s_Table_word) .none kV_Table_word dc_Table_word pm_Table_word an_Table_word cd_Table_word ct_Table_word, f_kind_of_word, PySem.W.fnOf "kind_of_word" "kind_of_word" (defArgs s_kind_of_word) (defBody s_kind_of_word) (defScope s_kind_of_word) .none kV_kind_of_word dc_kind_of_word pm_kind_of_word an_kind_of_word cd_kind_of_word ct_kind_of_word, f_law_cell, PySem.W.fnOf "_law_cell" "_law_cell" (defArgs s_law_cell) (defBody s_law_cell) (defScope s_law_cell) .none kV_law_cell dc_law_cell pm_law_cell an_law_cell cd_law_cell ct_law_cell, f_law_stream, PySem.W.fnOf "_law_stream" "_law_stream" (defArgs s_law_stream) (defBody s_law_stream) (defScope s_law_stream) .none kV_law_stream dc_law_stream pm_law_stream an_law_stream cd_law_stream ct_law_stream, f_law_text, PySem.W.fnOf "_law_text" "_law_text" (defArgs s_law_text) (defBody s_law_text) (defScope s_law_text) .none kV_law_text dc_law_text pm_law_text an_law_text cd_law_text ct_law_text, f_law_table, PySem.W.fnOf "_law_table" "_law_table" (defArgs s_law_table) (defBody s_law_table) (defScope s_law_table) .none kV_law_table dc_law_table pm_law_table an_law_table cd_law_table ct_law_table, f_law_content, PySem.W.fnOf "_law_content" "_law_content" (defArgs s_law_content) (defBody s_law_content) (defScope s_law_content) .none kV_law_content dc_law_content pm_law_content an_law_content cd_law_content ct_law_content, f_law_cells_changed, PySem.W.fnOf "_law_cells_changed" "_law_cells_changed" (defArgs s_law_cells_changed) (defBody s_law_cells_changed) (defScope s_law_cells_changed) .none kV_law_cells_changed dc_law_cells_changed pm_law_cells_changed an_law_cells_changed cd_law_cells_changed ct_law_cells_changed, f_law_made, PySem.W.fnOf "_law_made" "_law_made" (defArgs s_law_made) (defBody s_law_made) (defScope s_law_made) .none kV_law_made dc_law_made pm_law_made an_law_made cd_law_made ct_law_made, f_law_joined, PySem.W.fnOf "_law_joined" "_law_joined" (defArgs s_law_joined) (defBody s_law_joined) (defScope s_law_joined) .none kV_law_joined dc_law_joined pm_law_joined an_law_joined cd_law_joined ct_law_joined, f_law_same, PySem.W.fnOf "_law_same" "_law_same" (defArgs s_law_same) (defBody s_law_same) (defScope s_law_same) .none kV_law_same dc_law_same pm_law_same an_law_same cd_law_same ct_law_same, fa, PySem.W.fnOf "law" "law" (defArgs s_law) (defBody s_law) (defScope s_law) .none kV_law dc_law pm_law an_law cd_law ct_law, c_Chapter, c_Para, c_Table, u_LONGEST_TEXT, u_PERCENT_SIGN, u_MOST_ROWS, u_MOST_CELLS⟩ := ⟨F_has_length.toD,
    (fun j _ => by rw [List.drop_nil]; exact b_has_length),
    .nil,
    PySem.W.mg_of X G a_has_length,
    F_is_text_sign.toD,
    (fun j _ => by rw [List.drop_nil]; exact b_is_text_sign),
    .nil,
    PySem.W.mg_of X G a_is_text_sign,
    F_is_text.toD,
    (fun j _ => by rw [List.drop_nil]; exact b_is_text),
    .nil,
    PySem.W.mg_of X G a_is_text,
    F_Kind_fits.toD,
    (fun j _ => by rw [List.drop_nil]; exact b_Kind_fits),
    .nil,
    if_Kind_fits,
    F_is_clash.toD,
    (fun j _ => by rw [List.drop_nil]; exact b_is_clash),
    .nil,
    PySem.W.mg_of X G a_is_clash,
    F_settled.toD,
    (fun j _ => by rw [List.drop_nil]; exact b_settled),
    .nil,
    PySem.W.mg_of X G a_settled,
    F_joined_whole.toD,
    (fun j _ => by rw [List.drop_nil]; exact b_joined_whole),
    .nil,
    PySem.W.mg_of X G a_joined_whole,
    F_Kind_joined.toD,
    (fun j _ => by rw [List.drop_nil]; exact b_Kind_joined),
    .nil,
    if_Kind_joined,
    F_is_tuple_of.toD,
    (fun j _ => by rw [List.drop_nil]; exact b_is_tuple_of),
    .nil,
    PySem.W.mg_of X G a_is_tuple_of,
    F_is_row.toD,
    (fun j _ => by rw [List.drop_nil]; exact b_is_row),
    .nil,
    PySem.W.mg_of X G a_is_row,
    F_Table_fits.toD,
    (fun j _ => by rw [List.drop_nil]; exact b_Table_fits),
    .nil,
    if_Table_fits,
    F_shape_of.toD,
    (fun j _ => by rw [List.drop_nil]; exact b_shape_of),
    .nil,
    PySem.W.mg_of X G a_shape_of,
    F_joined_cells.toD,
    (fun j _ => by rw [List.drop_nil]; exact b_joined_cells),
    .nil,
    PySem.W.mg_of X G a_joined_cells,
    F_Table_joined.toD,
    (fun j _ => by rw [List.drop_nil]; exact b_Table_joined),
    .nil,
    if_Table_joined,
    F_Chapter_word.toD,
    (fun j _ => by rw [List.drop_nil]; exact b_Chapter_word),
    .nil,
    if_Chapter_word,
    F_Para_word.toD,
    (fun j _ => by rw [List.drop_nil]; exact b_Para_word),
    .nil,
    if_Para_word,
    F_Table_word.toD,
    (fun j _ => by rw [List.drop_nil]; exact b_Table_word),
    .nil,
    if_Table_word,
    F_kind_of_word.toD,
    (fun j _ => by rw [List.drop_nil]; exact b_kind_of_word),
    .nil,
    PySem.W.mg_of X G a_kind_of_word,
    F_law_cell.toD,
    (fun j _ => by rw [List.drop_nil]; exact b_law_cell),
    .nil,
    PySem.W.mg_of X G a_law_cell,
    F_law_stream.toD,
    (fun j _ => by rw [List.drop_nil]; exact b_law_stream),
    .nil,
    PySem.W.mg_of X G a_law_stream,
    F_law_text.toD,
    (fun j _ => by rw [List.drop_nil]; exact b_law_text),
    .nil,
    PySem.W.mg_of X G a_law_text,
    F_law_table.toD,
    (fun j _ => by rw [List.drop_nil]; exact b_law_table),
    .nil,
    PySem.W.mg_of X G a_law_table,
    F_law_content.toD,
    (fun j _ => by rw [List.drop_nil]; exact b_law_content),
    .nil,
    PySem.W.mg_of X G a_law_content,
    F_law_cells_changed.toD,
    (fun j _ => by rw [List.drop_nil]; exact b_law_cells_changed),
    .nil,
    PySem.W.mg_of X G a_law_cells_changed,
    F_law_made.toD,
    (fun j _ => by rw [List.drop_nil]; exact b_law_made),
    .nil,
    PySem.W.mg_of X G a_law_made,
    F_law_joined.toD,
    (fun j _ => by rw [List.drop_nil]; exact b_law_joined),
    .nil,
    PySem.W.mg_of X G a_law_joined,
    F_law_same.toD,
    (fun j _ => by rw [List.drop_nil]; exact b_law_same),
    .nil,
    PySem.W.mg_of X G a_law_same,
    F_law.toD,
    (fun j _ => by rw [List.drop_nil]; exact b_law),
    .nil,
    PySem.W.mg_of X G a_law,
    PySem.W.mg_of X G a_Chapter,
    kp_Chapter,
    mk_Chapter,
    in_Chapter,
    ⟨pg_Chapter, hd_Chapter, po_Chapter, sa_Chapter⟩,
    PySem.W.mg_of X G a_Para,
    kp_Para,
    mk_Para,
    in_Para,
    ⟨pg_Para, hd_Para, po_Para, sa_Para⟩,
    PySem.W.mg_of X G a_Table,
    kp_Table,
    mk_Table,
    in_Table,
    ⟨pg_Table, hd_Table, po_Table, sa_Table⟩,
    ⟨mt_Chapter_fits, if_Kind_fits, k_Kind_fits⟩,
    ⟨mt_Para_fits, if_Kind_fits, k_Kind_fits⟩,
    ⟨mt_Table_fits, if_Table_fits, k_Table_fits⟩,
    ⟨mt_Chapter_joined, if_Kind_joined, k_Kind_joined⟩,
    ⟨mt_Para_joined, if_Kind_joined, k_Kind_joined⟩,
    ⟨mt_Table_joined, if_Table_joined, k_Table_joined⟩,
    ⟨mt_Chapter_word, if_Chapter_word, k_Chapter_word⟩,
    ⟨mt_Para_word, if_Para_word, k_Para_word⟩,
    ⟨mt_Table_word, if_Table_word, k_Table_word⟩,
    PySem.W.mg_of X G v_LONGEST_TEXT,
    r_LONGEST_TEXT,
    PySem.W.mg_of X G v_PERCENT_SIGN,
    r_PERCENT_SIGN,
    PySem.W.mg_of X G v_MOST_ROWS,
    r_MOST_ROWS,
    PySem.W.mg_of X G v_MOST_CELLS,
    r_MOST_CELLS,
    PySem.W.mg_none_of X G z_all,
    PySem.W.mg_none_of X G z_enumerate,
    PySem.W.mg_none_of X G z_int,
    PySem.W.mg_none_of X G z_isinstance,
    PySem.W.mg_none_of X G z_len,
    PySem.W.mg_none_of X G z_list,
    PySem.W.mg_none_of X G z_ord,
    PySem.W.mg_none_of X G z_range,
    PySem.W.mg_none_of X G z_str,
    PySem.W.mg_none_of X G z_tuple,
    ⟨trivial⟩⟩
  exact ⟨_, PySem.W.fnOf "law" "law" (defArgs s_law) (defBody s_law) (defScope s_law) .none kV_law dc_law pm_law an_law cd_law ct_law, fun s v => .of_eq rfl, fun base _ _ => law_ok AO⟩
def sp0 (K : PySem.W.Frag) : Sp := fun vs H Q _ => ∃ (a : Addr) (ns : List Int), vs = [.ref a] ∧ SqL K H a (ns.map V.int) ∧ ns.length ≤ 63 ∧ ∀ H', Q (.bl true) H'
theorem walk {l : PySem.W.OpenLaw} {q : Program} {loose : List Str} {XP : (Str → Option Value) → Heap → Prop} {YP : World → Heap → Prop} {d : DefRec} {K : Params → PySem.W.Frag} (hn : l.most = some 63) (hdf : d.params.defaults = [])
    (hY : ∀ (w : World) (h : Heap), YP w h → (K w.params).In h)
    (F : ∀ (w : World) (mg : Str → Option Value) (fa : Addr) (h : Heap), (K w.params).In h → h.Ns mainGlobals mg → mg d.name = some (.ref fa) →
      ∃ (t : Adr) (fd : FuncData), (∀ (s : Shared) (u : Value), BindsTo s fd ⟨[u], []⟩ [("_law_script", u)]) ∧ ∀ base : Heap, (K w.params).In base → base.Ns mainGlobals mg → FnOk l.prog w (K w.params) mg base CX0 6 fa fd ["_law_script"] (sp_law (K w.params) t)) :
    PySem.W.WalkO q loose XP YP l.row.toRowW d [] (fun f vs => PySem.call f vs) :=
  L2.walk_of (n := 63) (k := 6) (x := "_law_script") (CX := fun _ => CX0) (sp := fun w => sp0 (K w.params)) hn (by decide) hdf ⟨rfl, by decide, by decide⟩ hY (fun w mg fa h a b c => let ⟨t, fd, h1, h2⟩ := F w mg fa h a b c; ⟨fd, h1, fun base x y => (h2 base x y).imp fun vs H Q E z => z⟩) (fun _ _ a ns hl _ hS => ⟨a, ns, rfl, hS, hl, fun _ => rfl⟩) fun _ _ _ _ _ z => z
end K22
open PySem PySem.W PyProof.Rows
set_option maxRecDepth 100000 in
set_option maxHeartbeats 0 in
theorem PySem.Challenge.cw_manyleaf_k22_contents_joined_holds : PySem.Challenge.rw_manyleaf_k22_contents_joined.Holds := by
  refine head_k22 ?_
  k_fill
  refine K22.walk (l := PySem.Challenge.rw_manyleaf_k22_contents_joined) rfl rfl (fun w h Y => PySem.W.kIn_of Y) ?F
  case F =>
    intro w mg fa h KX G hmg
    refine' K22.all_mk KX G hmg ?a_Chapter ?a_Para ?a_Table ?in_Chapter ?kp_Chapter ?mk_Chapter ?pg_Chapter ?hd_Chapter ?po_Chapter ?sa_Chapter ?in_Para ?kp_Para ?mk_Para ?pg_Para ?hd_Para ?po_Para ?sa_Para ?in_Table ?kp_Table ?mk_Table ?pg_Table ?hd_Table ?po_Table ?sa_Table ?mt_Chapter_fits ?mt_Para_fits ?mt_Table_fits ?mt_Chapter_joined ?mt_Para_joined ?mt_Table_joined ?mt_Chapter_word ?mt_Para_word ?mt_Table_word ?a_has_length ?l_has_length ?c_has_length ?k_has_length ?a_is_text_sign ?l_is_text_sign ?c_is_text_sign ?k_is_text_sign ?a_is_text ?l_is_text ?c_is_text ?k_is_text ?l_Kind_fits ?c_Kind_fits ?k_Kind_fits ?if_Kind_fits ?a_is_clash ?l_is_clash ?c_is_clash ?k_is_clash ?a_settled ?l_settled ?c_settled ?k_settled ?a_joined_whole ?l_joined_whole ?c_joined_whole ?k_joined_whole ?l_Kind_joined ?c_Kind_joined ?k_Kind_joined ?if_Kind_joined ?a_is_tuple_of ?l_is_tuple_of ?c_is_tuple_of ?k_is_tuple_of ?a_is_row ?l_is_row ?c_is_row ?k_is_row ?l_Table_fits ?c_Table_fits ?k_Table_fits ?if_Table_fits ?a_shape_of ?l_shape_of ?c_shape_of ?k_shape_of ?a_joined_cells ?l_joined_cells ?c_joined_cells ?k_joined_cells ?l_Table_joined ?c_Table_joined ?k_Table_joined ?if_Table_joined ?l_Chapter_word ?c_Chapter_word ?k_Chapter_word ?if_Chapter_word ?l_Para_word ?c_Para_word ?k_Para_word ?if_Para_word ?l_Table_word ?c_Table_word ?k_Table_word ?if_Table_word ?a_kind_of_word ?l_kind_of_word ?c_kind_of_word ?k_kind_of_word ?a_law_cell ?l_law_cell ?c_law_cell ?k_law_cell ?a_law_stream ?l_law_stream ?c_law_stream ?k_law_stream ?a_law_text ?l_law_text ?c_law_text ?k_law_text ?a_law_table ?l_law_table ?c_law_table ?k_law_table ?a_law_content ?l_law_content ?c_law_content ?k_law_content ?a_law_cells_changed ?l_law_cells_changed ?c_law_cells_changed ?k_law_cells_changed ?a_law_made ?l_law_made ?c_law_made ?k_law_made ?a_law_joined ?l_law_joined ?c_law_joined ?k_law_joined ?a_law_same ?l_law_same ?c_law_same ?k_law_same ?a_law ?l_law ?c_law ?k_law ?v_LONGEST_TEXT ?r_LONGEST_TEXT ?v_PERCENT_SIGN ?r_PERCENT_SIGN ?v_MOST_ROWS ?r_MOST_ROWS ?v_MOST_CELLS ?r_MOST_CELLS ?z_all ?z_enumerate ?z_int ?z_isinstance ?z_len ?z_list ?z_ord ?z_range ?z_str ?z_tuple
    (case a_Chapter => k_is)
    (case a_Para => k_is)
    (case a_Table => k_is)
    (case in_Chapter => k_is)
    (case kp_Chapter => k_is)
    (case mk_Chapter => k_is)
    (case pg_Chapter => k_is)
    (case hd_Chapter => k_is)
    (case po_Chapter => k_is)
    (case sa_Chapter => k_is)
    (case in_Para => k_is)
    (case kp_Para => k_is)
    (case mk_Para => k_is)
    (case pg_Para => k_is)
    (case hd_Para => k_is)
    (case po_Para => k_is)
    (case sa_Para => k_is)
    (case in_Table => k_is)
    (case kp_Table => k_is)
    (case mk_Table => k_is)
    (case pg_Table => k_is)
    (case hd_Table => k_is)
    (case po_Table => k_is)
    (case sa_Table => k_is)
    (case mt_Chapter_fits => k_is)
    (case mt_Para_fits => k_is)
    (case mt_Table_fits => k_is)
    (case mt_Chapter_joined => k_is)
    (case mt_Para_joined => k_is)
    (case mt_Table_joined => k_is)
    (case mt_Chapter_word => k_is)
    (case mt_Para_word => k_is)
    (case mt_Table_word => k_is)
    (case a_has_length => k_is)
    (case l_has_length => k_is)
    (case c_has_length => k_is)
    (case k_has_length => k_is)
    (case a_is_text_sign => k_is)
    (case l_is_text_sign => k_is)
    (case c_is_text_sign => k_is)
    (case k_is_text_sign => k_is)
    (case a_is_text => k_is)
    (case l_is_text => k_is)
    (case c_is_text => k_is)
    (case k_is_text => k_is)
    (case l_Kind_fits => k_is)
    (case c_Kind_fits => k_is)
    (case k_Kind_fits => k_is)
    (case if_Kind_fits => k_is)
    (case a_is_clash => k_is)
    (case l_is_clash => k_is)
    (case c_is_clash => k_is)
    (case k_is_clash => k_is)
    (case a_settled => k_is)
    (case l_settled => k_is)
    (case c_settled => k_is)
    (case k_settled => k_is)
    (case a_joined_whole => k_is)
    (case l_joined_whole => k_is)
    (case c_joined_whole => k_is)
    (case k_joined_whole => k_is)
    (case l_Kind_joined => k_is)
    (case c_Kind_joined => k_is)
    (case k_Kind_joined => k_is)
    (case if_Kind_joined => k_is)
    (case a_is_tuple_of => k_is)
    (case l_is_tuple_of => k_is)
    (case c_is_tuple_of => k_is)
    (case k_is_tuple_of => k_is)
    (case a_is_row => k_is)
    (case l_is_row => k_is)
    (case c_is_row => k_is)
    (case k_is_row => k_is)
    (case l_Table_fits => k_is)
    (case c_Table_fits => k_is)
    (case k_Table_fits => k_is)
    (case if_Table_fits => k_is)
    (case a_shape_of => k_is)
    (case l_shape_of => k_is)
    (case c_shape_of => k_is)
    (case k_shape_of => k_is)
    (case a_joined_cells => k_is)
    (case l_joined_cells => k_is)
    (case c_joined_cells => k_is)
    (case k_joined_cells => k_is)
    (case l_Table_joined => k_is)
    (case c_Table_joined => k_is)
    (case k_Table_joined => k_is)
    (case if_Table_joined => k_is)
    (case l_Chapter_word => k_is)
    (case c_Chapter_word => k_is)
    (case k_Chapter_word => k_is)
    (case if_Chapter_word => k_is)
    (case l_Para_word => k_is)
    (case c_Para_word => k_is)
    (case k_Para_word => k_is)
    (case if_Para_word => k_is)
    (case l_Table_word => k_is)
    (case c_Table_word => k_is)
    (case k_Table_word => k_is)
    (case if_Table_word => k_is)
    (case a_kind_of_word => k_is)
    (case l_kind_of_word => k_is)
    (case c_kind_of_word => k_is)
    (case k_kind_of_word => k_is)
    (case a_law_cell => k_is)
    (case l_law_cell => k_is)
    (case c_law_cell => k_is)
    (case k_law_cell => k_is)
    (case a_law_stream => k_is)
    (case l_law_stream => k_is)
    (case c_law_stream => k_is)
    (case k_law_stream => k_is)
    (case a_law_text => k_is)
    (case l_law_text => k_is)
    (case c_law_text => k_is)
    (case k_law_text => k_is)
    (case a_law_table => k_is)
    (case l_law_table => k_is)
    (case c_law_table => k_is)
    (case k_law_table => k_is)
    (case a_law_content => k_is)
    (case l_law_content => k_is)
    (case c_law_content => k_is)
    (case k_law_content => k_is)
    (case a_law_cells_changed => k_is)
    (case l_law_cells_changed => k_is)
    (case c_law_cells_changed => k_is)
    (case k_law_cells_changed => k_is)
    (case a_law_made => k_is)
    (case l_law_made => k_is)
    (case c_law_made => k_is)
    (case k_law_made => k_is)
    (case a_law_joined => k_is)
    (case l_law_joined => k_is)
    (case c_law_joined => k_is)
    (case k_law_joined => k_is)
    (case a_law_same => k_is)
    (case l_law_same => k_is)
    (case c_law_same => k_is)
    (case k_law_same => k_is)
    (case a_law => k_is)
    (case l_law => k_is)
    (case c_law => k_is)
    (case k_law => k_is)
    (case v_LONGEST_TEXT => k_is)
    (case r_LONGEST_TEXT => exact ⟨_, rfl⟩)
    (case v_PERCENT_SIGN => k_is)
    (case r_PERCENT_SIGN => exact ⟨_, rfl⟩)
    (case v_MOST_ROWS => k_is)
    (case r_MOST_ROWS => exact ⟨_, rfl⟩)
    (case v_MOST_CELLS => k_is)
    (case r_MOST_CELLS => exact ⟨_, rfl⟩)
    (case z_all => k_is)
    (case z_enumerate => k_is)
    (case z_int => k_is)
    (case z_isinstance => k_is)
    (case z_len => k_is)
    (case z_list => k_is)
    (case z_ord => k_is)
    (case z_range => k_is)
    (case z_str => k_is)
    (case z_tuple => k_is)
#print axioms PySem.Challenge.cw_manyleaf_k22_contents_joined_holds
