import PyProof.Rows.All
import Wide.All
import OpenK.AllK
import Wide.FinOn
import Lean
import PyProof.EqAt
import PyProof.EqKinds
import PyProof.TupleCall
import PyProof.NeKinds
import PyProof.ZipIter
import PyProof.StrWalks
import PyProof.ConsumeWalk
import PyProof.ExcArgs
import PyProof.ExcBaseAll.ValueError
import KE.KIsAll
import PyProof.EnumFor
import PyProof.EnumMake
import PyProof.EnumStmt
import PyProof.Rows.EnumRows
import PyProof.RulesRaise
import PyProof.RulesTry
import PySem.Challenge.RW_manyleaf_k06_refusals_made
set_option Elab.async false
set_option linter.all false
set_option maxRecDepth 100000
namespace L2
open PySem PySem.Spec PyProof.Rows

/-- a key: an int or a str -/
abbrev Key := Sum Int Str
def keyIs : Key → Value → Bool
  | .inl k, v => Value.isInt k v
  | .inr x, v => Value.isStrOf x v
def keyH (w : World) : Key → Int
  | .inl k => hashInt k
  | .inr x => hashStr w x
theorem keyIs_shape : ∀ {k : Key} {v : Value}, keyIs k v = true → (∃ i t, k = Sum.inl i ∧ v = Value.int i t) ∨ (∃ x t, k = Sum.inr x ∧ v = Value.str x t)
  | .inl i, v, h => by
    obtain ⟨t, e⟩ := Value.isInt_shape (k := i) (v := v) h
    exact .inl ⟨i, t, rfl, e⟩
  | .inr x, v, h => by
    obtain ⟨t, e⟩ := Value.isStrOf_shape (x := x) (v := v) h
    exact .inr ⟨x, t, rfl, e⟩
theorem key_ll (a b : Int) : decide ((Sum.inl a : Key) = Sum.inl b) = (a == b) := by
  by_cases e : a = b
  · subst e; simp
  · have h : ¬ (Sum.inl a : Key) = Sum.inl b := fun q => e (Sum.inl.inj q)
    rw [decide_eq_false h]
    exact (beq_eq_false_iff_ne.mpr e).symm
theorem key_rr (a b : Str) : decide ((Sum.inr a : Key) = Sum.inr b) = decide (a = b) := by
  by_cases e : a = b
  · subst e; simp
  · have h : ¬ (Sum.inr a : Key) = Sum.inr b := fun q => e (Sum.inr.inj q)
    rw [decide_eq_false h, decide_eq_false e]
theorem key_lr (a : Int) (b : Str) : decide ((Sum.inl a : Key) = Sum.inr b) = false := decide_eq_false (fun q => nomatch q)
theorem key_rl (a : Str) (b : Int) : decide ((Sum.inr a : Key) = Sum.inl b) = false := decide_eq_false (fun q => nomatch q)

def mixKind (prog : Program) (w : World) : PySem.KeyKind prog w Key where
  is := keyIs
  hash := keyH w
  inj := fun v a b ha hb => by
    rcases keyIs_shape ha with ⟨i, t, rfl, rfl⟩ | ⟨x, t, rfl, rfl⟩
    · rcases keyIs_shape hb with ⟨j, u, rfl, e⟩ | ⟨y, u, rfl, e⟩
      · injection e with e1 _; rw [e1]
      · exact nomatch e
    · rcases keyIs_shape hb with ⟨j, u, rfl, e⟩ | ⟨y, u, rfl, e⟩
      · exact nomatch e
      · injection e with e1 _; rw [e1]
  byValue := fun k v h => by
    rcases keyIs_shape h with ⟨i, t, rfl, rfl⟩ | ⟨x, t, rfl, rfl⟩ <;> rfl
  pyHash := fun hv h => by
    rcases keyIs_shape hv with ⟨i, t, rfl, rfl⟩ | ⟨x, t, rfl, rfl⟩
    · exact wpAny_pyHash_int h
    · exact wpAny_pyHash_str h
  eqBool := fun hu hv h => by
    rcases keyIs_shape hu with ⟨i, t, rfl, rfl⟩ | ⟨x, t, rfl, rfl⟩
    · rcases keyIs_shape hv with ⟨j, u, rfl, rfl⟩ | ⟨y, u, rfl, rfl⟩
      · rw [key_ll] at h; exact wpAny_eqBool_int h
      · rw [key_lr] at h; exact SeqAt.EqAt.int_str i t y u _ _ _ _ h
    · rcases keyIs_shape hv with ⟨j, u, rfl, rfl⟩ | ⟨y, u, rfl, rfl⟩
      · rw [key_rl] at h; exact SeqAt.EqAt.str_int x t j u _ _ _ _ h
      · rw [key_rr] at h; exact wpAny_eqBool_str h
  «strs» := fun k x t v h => by
    rcases keyIs_shape h with ⟨i, u, rfl, e⟩ | ⟨y, u, rfl, e⟩
    · exact nomatch e
    · injection e with e1 _
      subst e1
      cases v <;> rfl

end L2

namespace L2
open PySem PySem.Spec PyProof.Rows

/-- a value, without the heap -/
inductive V where
  | non | bl (b : Bool) | int (i : Int) | str (x : Str) | byt (b : Array UInt8) | flt (b : UInt64) | ref (a : Addr) | ty (n : String)
  deriving DecidableEq

def RelV : V → Value → Prop
  | .non, u => u = Value.none
  | .bl b, u => u = Value.bool b
  | .int i, u => ∃ t, u = Value.int i t
  | .str x, u => ∃ t, u = Value.str x t
  | .byt b, u => ∃ t, u = Value.bytes b t
  | .flt b, u => ∃ t, u = Value.float b t
  | .ref a, u => u = Value.ref a
  | .ty n, u => u = Value.type n

abbrev Vals : List V → List Value → Prop := Paired RelV
theorem Vals.length {xs : List V} {us : List Value} (r : Vals xs us) : xs.length = us.length := Paired.length r
theorem Vals.get : ∀ {xs : List V} {us : List Value} {i : Nat} {x : V}, Vals xs us → xs[i]? = some x → ∃ u, us[i]? = some u ∧ RelV x u
  | _, _, _, _, .nil, e => by simp at e
  | _, _, 0, _, .cons r _, e => by simp at e; subst e; exact ⟨_, rfl, r⟩
  | _, _, i + 1, x, .cons _ t, e => by
    obtain ⟨u, h1, h2⟩ := Vals.get (i := i) (x := x) t (by simpa using e)
    exact ⟨u, by simpa using h1, h2⟩
theorem Vals.append : ∀ {xs ys : List V} {us ws : List Value}, Vals xs us → Vals ys ws → Vals (xs ++ ys) (us ++ ws)
  | _, _, _, _, .nil, s => s
  | _, _, _, _, .cons r t, s => .cons r (Vals.append t s)
theorem Vals.take : ∀ {xs : List V} {us : List Value} (n : Nat), Vals xs us → Vals (xs.take n) (us.take n)
  | _, _, 0, _ => .nil
  | _, _, _ + 1, .nil => .nil
  | _, _, n + 1, .cons r t => .cons r (Vals.take n t)
theorem Vals.drop : ∀ {xs : List V} {us : List Value} (n : Nat), Vals xs us → Vals (xs.drop n) (us.drop n)
  | _, _, 0, r => r
  | _, _, _ + 1, .nil => .nil
  | _, _, n + 1, .cons _ t => Vals.drop n t

def RelO : Option V → Option Value → Prop
  | some v, some u => RelV v u
  | none, none => True
  | _, _ => False
def KV {κ : Type} : List (κ × V) → List (κ × Value) → Prop := Paired fun (p : κ × V) (q : κ × Value) => p.1 = q.1 ∧ RelV p.2 q.2

/-- a key of a dict (00_mix): an int or a text -/
def kV : Key → V
  | .inl i => .int i
  | .inr x => .str x

/-- what stands at a tracked address -/
inductive HO where
  /-- a list -/
  | lst (xs : List V)
  /-- a tuple (never changes) -/
  | tup (xs : List V)
  /-- a dict whose keys are ints and texts; one whose keys are tuples of ints and texts (the empty one is both) -/
  | dK (kvs : List (Key × V)) | dT (kvs : List (List Key × V))
  /-- a set of ints: its members, its size -/
  | set (S : Int → Bool) (n : Nat)
  /-- an instance of the class at C, its dict at dx, its attributes -/
  | ins (C dx : Addr) (fs : List (Str × V))
  /-- the dict of the instance at x -/
  | own (x : Addr)
  /-- the dict of an exception -/
  | xd (fs : List (Str × V))
  /-- a bound method, f of x -/
  | met (f x : Addr)
  /-- a range object lo, lo + 1, .. below hi -/
  | rng (lo hi : Int)
  /-- a thing that is known to the object (the script; a dict while a loop walks it): read, never written while it is so -/
  | frz (o : Obj) (u : HO)
  /-- a code object's table -/
  | tbl (ps : Array Value)
  /-- any other thing, by what is true of its one object (a def of one's own: SetO a S n := HO.ext fun h => ..) -/
  | ext (φ : Heap → Prop)

abbrev Hp := Addr → Option HO
def upd (H : Hp) (a : Addr) (o : HO) : Hp := fun b => if b = a then some o else H b
theorem upd_same {H : Hp} {a : Addr} {o : HO} : upd H a o a = some o := by unfold upd; rw [if_pos rfl]
theorem upd_ne {H : Hp} {a b : Addr} {o : HO} (h : b ≠ a) : upd H a o b = H b := by unfold upd; rw [if_neg h]
theorem ne_of_none {H : Hp} {a b : Addr} {o : HO} (h : H a = some o) (h' : H b = none) : a ≠ b := by
  intro e; subst e; rw [h] at h'; cases h'

section
variable (P : Program) (w : World)
def ObjOk (H : Hp) (h : Heap) (a : Addr) : HO → Prop
  | .lst xs => xs.length ≤ sizeLine ∧ ∃ (its : List Value) (n : Nat), Vals xs its ∧ h.get? a = some { cls := .type "list", data := .seq its.toArray n }
  | .tup xs => xs.length ≤ sizeLine ∧ ∃ its : List Value, Vals xs its ∧ IsTup h a its.toArray
  | .dK kvs => kvs.length ≤ sizeLine ∧ (a == sysModules) = false ∧ ∃ vs, KV kvs vs ∧ h.DictOf (mixKind P w) a vs
  | .dT kvs => kvs.length ≤ sizeLine ∧ (a == sysModules) = false ∧ ∃ xs : List (List Key × Addr × Value),
      Paired (fun (p : List Key × V) (q : List Key × Addr × Value) => p.1 = q.1 ∧ H q.2.1 = some (.tup (p.1.map kV)) ∧ RelV p.2 q.2.2) kvs xs ∧
      ∃ o es ep, h.get? a = some o ∧ o.ExactDict ∧ o.data = .dict es ep ∧ es.toList = xs.map (entryOfKey (tupleKind (mixKind P w))) ∧ (xs.map (·.1)).Nodup
  | .set S n => h.SetOf (intKind P w) a S n
  | .ins C dx fs => H dx = some (.own a) ∧ fs.length ≤ 1000 ∧ dx ≠ a ∧ h.get? a = some (PySem.W.instObj C dx) ∧
      ∃ mA, h.Ns1 dx mA ∧ (∀ f, RelO (fs.lookup f) (mA f)) ∧ PySem.Within mA (fs.map (·.1))
  | .own _ => ∃ o, h.get? a = some o
  | .xd fs => ∃ mA, h.Ns1 a mA ∧ ∀ f, RelO (fs.lookup f) (mA f)
  | .rng lo hi => ∃ t u v, h.get? a = some { cls := .type "range", data := .fields #[.int lo t, .int hi u, .int 1 v] }
  | .frz o u => h.get? a = some o ∧ ObjOk H h a u
  | .tbl ps => h.get? a = some { cls := .none, data := .fields ps }
  | .met f x => h.get? a = some (PySem.W.methodObj (.ref f) (.ref x))
  | .ext φ => φ h ∧ (∃ o, h.get? a = some o) ∧ ∀ h1 h2 : Heap, φ h1 → (∀ o, h1.get? a = some o → h2.get? a = some o) → φ h2
/-- the abstract heap is held -/
def HOk (H : Hp) (h : Heap) : Prop := ∀ a o, H a = some o → ObjOk P w H h a o
end

section
variable {P : Program} {w : World} {H H' : Hp} {h h' : Heap} {a : Addr} {o : HO}
theorem ObjOk.lt (x : ObjOk P w H h a o) : a < h.objs.size := by
  cases o with
  | lst xs => obtain ⟨_, _, _, _, e⟩ := x; exact Heap.lt_size e
  | tup xs => obtain ⟨_, _, _, p⟩ := x; exact p.lt
  | dK kvs => obtain ⟨_, _, _, _, o, _, _, e, _⟩ := x; exact Heap.lt_size e
  | dT kvs => obtain ⟨_, _, _, _, o, _, _, e, _⟩ := x; exact Heap.lt_size e
  | set S n => obtain ⟨o, _, _, _, e, _⟩ := x; exact Heap.lt_size e
  | ins C dx fs => obtain ⟨_, _, _, e, _⟩ := x; exact Heap.lt_size e
  | own y => obtain ⟨_, e⟩ := x; exact Heap.lt_size e
  | xd fs => obtain ⟨_, ⟨_, _, _, e, _⟩, _⟩ := x; exact Heap.lt_size e
  | rng lo hi => obtain ⟨_, _, _, e⟩ := x; exact Heap.lt_size e
  | frz ob u => obtain ⟨e, _⟩ := x; exact Heap.lt_size e
  | tbl ps => exact Heap.lt_size (show h.get? a = some _ from x)
  | met f y => exact Heap.lt_size (show h.get? a = some _ from x)
  | ext φ => obtain ⟨_, ⟨_, e⟩, _⟩ := x; exact Heap.lt_size e
theorem Paired.mapP {α β : Type} {F G : α → β → Prop} : ∀ {l₁ : List α} {l₂ : List β}, Paired F l₁ l₂ → (∀ a b, F a b → G a b) → Paired G l₁ l₂
  | _, _, .nil, _ => .nil
  | _, _, .cons r t, f => .cons (f _ _ r) (Paired.mapP t f)
/-- what an object's description leans on: its own object, its own dict, the tuples -/
theorem ObjOk.stay (x : ObjOk P w H h a o) (k : ∀ b u, (b = a ∨ H b = some (.own a)) → h.get? b = some u → h'.get? b = some u)
    (ho : ∀ b, H b = some (.own a) → H' b = some (.own a)) (ht : ∀ b xs, H b = some (.tup xs) → H' b = some (.tup xs)) : ObjOk P w H' h' a o := by
  induction o with
  | lst xs => obtain ⟨z, its, n, r, e⟩ := x; exact ⟨z, its, n, r, k _ _ (.inl rfl) e⟩
  | tup xs => obtain ⟨z, its, r, ob, e, c⟩ := x; exact ⟨z, its, r, ob, k _ _ (.inl rfl) e, c⟩
  | dK kvs => obtain ⟨z, y, vs, r, ob, es, ep, e, c⟩ := x; exact ⟨z, y, vs, r, ob, es, ep, k _ _ (.inl rfl) e, c⟩
  | dT kvs =>
    obtain ⟨z, y, xs, r, ob, es, ep, e, c⟩ := x
    exact ⟨z, y, xs, Paired.mapP r fun p q z => ⟨z.1, ht _ _ z.2.1, z.2.2⟩, ob, es, ep, k _ _ (.inl rfl) e, c⟩
  | set S n => obtain ⟨ob, es, ep, t, e, c⟩ := x; exact ⟨ob, es, ep, t, k _ _ (.inl rfl) e, c⟩
  | ins C dx fs =>
    obtain ⟨d, z, ne, e, mA, ⟨od, es, ep, e2, c⟩, r⟩ := x
    exact ⟨ho _ d, z, ne, k _ _ (.inl rfl) e, mA, ⟨od, es, ep, k _ _ (.inr d) e2, c⟩, r⟩
  | own y => obtain ⟨ob, e⟩ := x; exact ⟨ob, k _ _ (.inl rfl) e⟩
  | xd fs => obtain ⟨mA, ⟨od, es, ep, e, c⟩, r⟩ := x; exact ⟨mA, ⟨od, es, ep, k _ _ (.inl rfl) e, c⟩, r⟩
  | rng lo hi => obtain ⟨t, u, v, e⟩ := x; exact ⟨t, u, v, k _ _ (.inl rfl) e⟩
  | frz ob u ih => obtain ⟨e, q⟩ := x; exact ⟨k _ _ (.inl rfl) e, ih q⟩
  | tbl ps =>
    have e : h.get? a = some { cls := .none, data := .fields ps } := x
    show h'.get? a = some { cls := .none, data := .fields ps }
    exact k a _ (.inl rfl) e
  | met f y =>
    have e : h.get? a = some (PySem.W.methodObj (.ref f) (.ref y)) := x
    show h'.get? a = some (PySem.W.methodObj (.ref f) (.ref y))
    exact k a _ (.inl rfl) e
  | ext φ => obtain ⟨p, ⟨o, e⟩, st⟩ := x; exact ⟨st _ _ p fun o q => k _ _ (.inl rfl) q, ⟨o, k _ _ (.inl rfl) e⟩, st⟩
theorem HOk.lt (x : HOk P w H h) (e : H a = some o) : a < h.objs.size := (x a o e).lt
theorem HOk.fresh (x : HOk P w H h) (e : h.objs.size ≤ a) : H a = none := by
  cases q : H a with
  | none => rfl
  | some u => exact absurd (Nat.lt_of_lt_of_le (x.lt q) e) (Nat.lt_irrefl _)
/-- every object of the heap is kept -/
theorem HOk.kept (x : HOk P w H h) (k : ∀ b u, h.get? b = some u → h'.get? b = some u) : HOk P w H h' := fun a o e =>
  (x a o e).stay (fun b u _ q => k b u q) (fun _ q => q) fun _ _ q => q
/-- a new object is laid and tracked -/
theorem HOk.laid (x : HOk P w H h) (k : ∀ b u, h.get? b = some u → h'.get? b = some u) (hp : h.objs.size ≤ a) (new : ObjOk P w (upd H a o) h' a o) : HOk P w (upd H a o) h' := fun b u e => by
  have hn := x.fresh hp
  by_cases hb : b = a
  · subst hb; rw [upd_same] at e; cases e; exact new
  · rw [upd_ne hb] at e
    exact (x b u e).stay (fun c v _ q => k c v q) (fun c q => by rw [upd_ne (ne_of_none q hn)]; exact q) fun c xs q => by rw [upd_ne (ne_of_none q hn)]; exact q
end

/-- what may be read as u: it is u, or a known u -/
def Rd (H : Hp) (a : Addr) (u : HO) : Prop := H a = some u ∨ ∃ o, H a = some (.frz o u)
theorem Rd.ok {P : Program} {w : World} {H : Hp} {h : Heap} {a : Addr} {u : HO} (r : Rd H a u) (x : HOk P w H h) : ObjOk P w H h a u := by
  rcases r with r | ⟨o, r⟩
  · exact x a u r
  · obtain ⟨_, q⟩ := x a _ r
    exact q
/-- what may be written -/
def Mut : Option HO → Prop
  | some (.lst _) => True
  | some (.dK _) => True
  | some (.dT _) => True
  | some (.set _ _) => True
  | some (.ins _ _ _) => True
  | some (.ext _) => True
  | _ => False
section
variable {P : Program} {w : World} {H : Hp} {h h' : Heap} {x e : Addr} {o' : HO}
/-- the object at e is changed: x itself, or the dict of the instance x -/
theorem HOk.write (ok : HOk P w H h) (mu : Mut (H x)) (he : e = x ∨ H e = some (.own x)) (k : ∀ b u, b ≠ e → h.get? b = some u → h'.get? b = some u) (heo : ∃ u, h'.get? e = some u)
    (new : ObjOk P w (upd H x o') h' x o') : HOk P w (upd H x o') h' := fun b u q => by
  have nown : ∀ c y, H c = some (.own y) → c ≠ x := fun c y r z => by subst z; rw [r] at mu; exact mu
  have ntup : ∀ c xs, H c = some (.tup xs) → c ≠ x := fun c xs r z => by subst z; rw [r] at mu; exact mu
  by_cases hb : b = x
  · subst hb; rw [upd_same] at q; cases q; exact new
  · rw [upd_ne hb] at q
    by_cases hbe : b = e
    · have q' : H b = some (.own x) := by
        rcases he with z | z
        · exact absurd (hbe.trans z) hb
        · rw [hbe]; exact z
      rw [q] at q'; cases q'
      obtain ⟨v, hv⟩ := heo
      exact ⟨v, by rw [hbe]; exact hv⟩
    · refine (ok b u q).stay (fun c v hc r => k c v ?_ r) (fun c r => by rw [upd_ne (nown c b r)]; exact r) fun c xs r => by rw [upd_ne (ntup c xs r)]; exact r
      rcases hc with rfl | hc
      · exact hbe
      · rintro rfl
        rcases he with z | z
        · exact nown c b hc z
        · rw [hc] at z; cases z; exact hb rfl
end

structure Un (fs ex : List Addr) (H H' : Hp) (h h' : Heap) : Prop where
  keep : ∀ b o, h.get? b = some o → H b = none → b ∉ fs → b ∉ ex → h'.get? b = some o
  slot : ∀ b o, h.get? b = some o → H b = none → b ∈ fs → b ∉ ex → ∃ sl, h'.get? b = some { o with slots := sl }
  free : ∀ b o, h.get? b = some o → H b = none → b ∉ ex → H' b = none
  there : ∀ b o, h.get? b = some o → b ∉ ex → ∃ o', h'.get? b = some o'
  tups : ∀ b xs, H b = some (.tup xs) → H' b = some (.tup xs)
  frzs : ∀ b o u, H b = some (.frz o u) → H' b = some (.frz o u)
  tbls : ∀ b ps, H b = some (.tbl ps) → ∃ more, H' b = some (.tbl (ps ++ more))
section
variable {fs fs' ex ex' : List Addr} {H H1 H2 : Hp} {h h1 h2 h' : Heap} {a x e : Addr} {o : HO}
theorem Un.any (u : Un fs ex H H1 h h1) {b : Addr} {ob : Obj} (q : h.get? b = some ob) (n : H b = none) (hx : b ∉ ex) : ∃ sl, h1.get? b = some { ob with slots := sl } := by
  by_cases hb : b ∈ fs
  · exact u.slot b ob q n hb hx
  · exact ⟨ob.slots, u.keep b ob q n hb hx⟩
theorem Un.kept (k : ∀ b u, h.get? b = some u → h'.get? b = some u) : Un fs ex H H h h' :=
  ⟨fun b ob q _ _ _ => k b ob q, fun b ob q _ _ _ => ⟨ob.slots, k b ob q⟩, fun _ _ _ n _ => n, fun b ob q _ => ⟨ob, k b ob q⟩, fun _ _ q => q, fun _ _ _ q => q, fun _ ps q => ⟨#[], by rw [q]; simp⟩⟩
theorem Un.refl : Un fs ex H H h h := Un.kept fun _ _ q => q
theorem Un.laid (k : ∀ b u, h.get? b = some u → h'.get? b = some u) (hp : h.objs.size ≤ a) (hn : H a = none) : Un fs ex H (upd H a o) h h' where
  keep := fun b u q _ _ _ => k b u q
  slot := fun b u q _ _ _ => ⟨u.slots, k b u q⟩
  free := fun b u q n _ => by rw [upd_ne (Nat.ne_of_lt (Nat.lt_of_lt_of_le (Heap.lt_size q) hp))]; exact n
  there := fun b u q _ => ⟨u, k b u q⟩
  tups := fun b xs q => by rw [upd_ne (ne_of_none q hn)]; exact q
  frzs := fun b u xs q => by rw [upd_ne (ne_of_none q hn)]; exact q
  tbls := fun b ps q => ⟨#[], by rw [upd_ne (ne_of_none q hn), q]; simp⟩
theorem Un.write (mu : Mut (H x)) (he : e = x ∨ H e = some (.own x)) (k : ∀ b u, b ≠ e → h.get? b = some u → h'.get? b = some u) (heo : ∃ u, h'.get? e = some u) : Un fs ex H (upd H x o) h h' := by
  have hx : ∀ b, H b = none → b ≠ x := fun b n z => by subst z; rw [n] at mu; exact mu
  have hb : ∀ b, H b = none → b ≠ e := fun b n z => by
    subst z
    rcases he with r | r
    · exact hx b n r
    · rw [n] at r; cases r
  have hm : ∀ b u, H b = some u → ¬ Mut (some u) → b ≠ x := fun b u q nm z => by subst z; rw [q] at mu; exact nm mu
  refine ⟨fun b u q n _ _ => k b u (hb b n) q, fun b u q n _ _ => ⟨u.slots, k b u (hb b n) q⟩, fun b u q n _ => by rw [upd_ne (hx b n)]; exact n, fun b u q _ => ?_,
    fun b xs q => by rw [upd_ne (hm b _ q fun z => z)]; exact q, fun b u xs q => by rw [upd_ne (hm b _ q fun z => z)]; exact q, fun b ps q => ⟨#[], by rw [upd_ne (hm b _ q fun z => z), q]; simp⟩⟩
  by_cases hbe : b = e
  · subst hbe; exact heo
  · exact ⟨u, k b u hbe q⟩
end

def trk (h : Heap) (H : Hp) : List Addr := (List.range h.objs.size).filter fun a => (H a).isSome
def hidT (h : Heap) (H : Hp) : Heap := PySem.W.hideAll h (trk h H)
theorem hidT_size (h : Heap) (H : Hp) : (hidT h H).objs.size = h.objs.size := PySem.W.hideAll_size _ _
theorem hidT_get {h : Heap} {H : Hp} {b : Addr} {o : Obj} (e : h.get? b = some o) (n : H b = none) : (hidT h H).get? b = some o :=
  PySem.W.hideAll_get _ e fun hm => by
    have q : (H b).isSome = true := (List.mem_filter.mp hm).2
    rw [n] at q; simp at q
theorem of_hidT {h : Heap} {H : Hp} {b : Addr} {o : Obj} (e : (hidT h H).get? b = some o) : h.get? b = some o ∧ H b = none := by
  have e' : h.get? b = some o := PySem.W.of_hideAll (trk h H) e
  refine ⟨e', ?_⟩
  cases q : H b with
  | none => rfl
  | some x =>
    have hm : b ∈ trk h H := List.mem_filter.mpr ⟨List.mem_range.mpr (Heap.lt_size e'), by simp [q]⟩
    have z : (hidT h H).get? b = none := PySem.W.hideAll_none (trk h H) hm
    rw [z] at e; cases e

end L2

namespace L2
open PySem PySem.Spec PyProof.Rows

/-- the module's facts, over the base: the heap at the law's entry without what is tracked there -/
structure Mod (K : PySem.W.Frag) (mg : Str → Option Value) (base : Heap) : Prop where
  kin : K.In base
  glob : base.Ns mainGlobals mg
  blt : ∃ mb, base.Ns builtinsNs mb ∧ ∀ x : Str, x ≠ "__name__" → mb x = bootBuiltins x
  nolimit : base.NoLimit

/-- the context: a def's body (or a comprehension's block) running. base: fixed through the whole law; s₀, H₀: the entry; outer: the frames whose slots others may change (a def's callers); stack: all frames that run;
   ex: iterators that were made ahead of the entry and are walked here (a comprehension's); fn: the names whose cells were made at the entry (a def: all; a comprehension's block: its own); calm: not within an except suite; pn: pins that every state bears; xe: what is wanted of an exception that leaves the code -/
structure Cx where
  prog : Program
  w : World
  K : PySem.W.Frag
  mg : Str → Option Value
  base : Heap
  A : Around
  N : List Str
  s₀ : Shared
  H₀ : Hp
  env : Env
  outer : List Env
  stack : List Env
  ex : List Addr
  fn : Str → Bool
  calm : Bool
  pn : List (Addr × Obj)
  xe : Value → Shared → Prop
/-- the callers' frames -/
def frs (l : List Env) : List Addr := l.filterMap (·.frame)
abbrev Cx.fs (X : Cx) : List Addr := frs X.outer

def Vis (sc : Scope) (x : Str) : Prop := sc.names.lookup x = some .local ∨ sc.names.lookup x = some .cell ∨ sc.names.lookup x = some .free
def Loc (sc : Scope) (x : Str) : Prop := sc.names.lookup x = some .local ∨ sc.names.lookup x = some .cell
def Look (env : Env) (h : Heap) (m : Str → Option Value) (x : Str) (u : Value) : Prop :=
  (env.kindOf x = some .local ∧ m x = some u) ∨ ((env.kindOf x = some .cell ∨ env.kindOf x = some .free) ∧ ∃ c, env.cells.lookup x = some c ∧ h.IsCell c (some u))

structure Cx.Ok (X : Cx) : Prop where
  mod : Mod X.K X.mg X.base
  kind : X.env.scope.kind = .function
  glob : X.env.globals = mainGlobals
  blt : X.env.builtins = builtinsNs
  above : X.s₀.heap.objs.size ≤ X.env.locals
  inj : ∀ x y c, X.env.cells.lookup x = some c → X.env.cells.lookup y = some c → x = y
  has : ∀ x, (X.env.kindOf x = some .cell ∨ X.env.kindOf x = some .free) → ∃ c, X.env.cells.lookup x = some c
  cab : ∀ x c, X.fn x = true → X.env.cells.lookup x = some c → X.s₀.heap.objs.size ≤ c
  hd : X.calm = true → X.A.handled = none
  frames : X.A.frames = some X.stack
  stk : X.stack = X.outer ∨ (X.stack = X.env :: X.outer ∧ X.env.frame = some X.env.locals)
  exf : ∀ b ∈ X.ex, b ≠ X.env.locals ∧ ∀ x c, X.env.cells.lookup x = some c → c ≠ b
  bs : ∀ b o, X.base.get? b = some o → X.s₀.heap.get? b = some o ∧ X.H₀ b = none
  bsz : X.base.objs.size ≤ X.s₀.heap.objs.size
  noex : ∀ b o, X.base.get? b = some o → b ∉ X.ex
  exfs : ∀ b ∈ X.ex, b ∉ X.fs
  funs : X.s₀.heap.FunFrames X.base X.outer
  frf : ∀ b ∈ X.fs, X.H₀ b = none

structure Inv (X : Cx) (pins : List (Addr × Obj)) (σ : List (Option V)) (H : Hp) (s : Shared) : Prop where
  ok : X.Ok
  os : s.os = X.s₀.os
  bare : AllBare s.gens
  base : Un X.fs X.ex X.H₀ H X.s₀.heap s.heap
  loc : ∃ m, s.heap.Ns X.env.locals m ∧ ∀ (i : Nat) (x : Str) (v : V), X.N[i]? = some x → σ[i]? = some (some v) → Vis X.env.scope x → ∃ u, RelV v u ∧ Look X.env s.heap m x u
  cell : ∀ x c, X.env.cells.lookup x = some c → ∃ v, s.heap.IsCell c v
  free : H X.env.locals = none
  freeC : ∀ x c, X.env.cells.lookup x = some c → H c = none
  pin : ∀ p ∈ X.pn ++ pins, s.heap.get? p.1 = some p.2 ∧ H p.1 = none ∧ p.1 ≠ X.env.locals ∧ p.1 ∉ X.fs ∧ ∀ v, p.2.data ≠ .cell v
  hok : HOk X.prog X.w H s.heap
  len : σ.length = X.N.length

section
variable {X : Cx} {pins : List (Addr × Obj)} {σ : List (Option V)} {H H' : Hp} {s : Shared} {h' : Heap}

theorem Cx.Ok.nofr (ok : X.Ok) {b : Addr} {o : Obj} (e : X.base.get? b = some o) : b ∉ X.fs := fun hb => by
  have := (ok.funs.mem hb).1
  rw [e] at this; cases this
theorem Inv.bs (I : Inv X pins σ H s) : ∀ b o, X.base.get? b = some o → s.heap.get? b = some o ∧ H b = none := fun b o e =>
  ⟨I.base.keep b o (I.ok.bs b o e).1 (I.ok.bs b o e).2 (I.ok.nofr e) (I.ok.noex b o e), I.base.free b o (I.ok.bs b o e).1 (I.ok.bs b o e).2 (I.ok.noex b o e)⟩
theorem Inv.bk (I : Inv X pins σ H s) : ∀ b o, X.base.get? b = some o → s.heap.get? b = some o := fun b o e => (I.bs b o e).1
theorem Inv.mod (I : Inv X pins σ H s) : Mod X.K X.mg X.base := I.ok.mod
theorem Inv.kIn (I : Inv X pins σ H s) : X.K.In s.heap := I.ok.mod.kin.keeps I.bk
theorem Inv.lt (I : Inv X pins σ H s) : X.env.locals < s.heap.objs.size := let ⟨_, hn, _⟩ := I.loc; hn.lt
theorem Inv.sz (I : Inv X pins σ H s) : X.s₀.heap.objs.size ≤ s.heap.objs.size := Nat.le_trans I.ok.above (Nat.le_of_lt I.lt)
theorem Inv.nofs (I : Inv X pins σ H s) {a : Addr} (h : s.heap.objs.size ≤ a) : a ∉ X.fs := fun hb => by
  obtain ⟨_, o, ho, _⟩ := I.ok.funs.mem hb
  exact absurd (Nat.lt_of_lt_of_le (Heap.lt_size ho) (Nat.le_trans I.sz h)) (Nat.lt_irrefl _)
theorem Inv.cne (I : Inv X pins σ H s) : ∀ x c, X.env.cells.lookup x = some c → c ≠ X.env.locals := fun x c e z => by
  obtain ⟨v, o, ho, hd⟩ := I.cell x c e
  obtain ⟨m, ⟨o', es, ep, ho', hd', _⟩, _⟩ := I.loc
  rw [z, ho'] at ho; cases ho; rw [hd'] at hd; cases hd
theorem Inv.funs (I : Inv X pins σ H s) : s.heap.FunFrames X.base X.outer := by
  have all : ∀ (l : List Env), (∀ b ∈ frs l, b ∈ X.fs) → X.s₀.heap.FunFrames X.base l → s.heap.FunFrames X.base l := by
    intro l
    induction l with
    | nil => intro _ _; trivial
    | cons env r ih =>
      intro hs hl
      obtain ⟨hk, ⟨L, o, hf, hn, ho, hd⟩, hr⟩ := hl
      have hL : L ∈ X.fs := hs L (by unfold frs; rw [List.filterMap_cons, hf]; exact List.mem_cons_self)
      obtain ⟨sl, e⟩ := I.base.slot L o ho (I.ok.frf L hL) hL fun z => I.ok.exfs L z hL
      exact ⟨hk, ⟨L, _, hf, hn, e, hd⟩, ih (fun b hb => hs b (by unfold frs; rw [List.filterMap_cons, hf]; exact List.mem_cons_of_mem _ hb)) hr⟩
  exact all X.outer (fun _ hb => hb) I.ok.funs

/-- the frames that run, for a call -/
theorem Inv.stack (I : Inv X pins σ H s) : s.heap.FunFrames X.base X.stack := by
  rcases I.ok.stk with e | ⟨e, hf⟩
  · rw [e]; exact I.funs
  · rw [e]
    obtain ⟨m, hn, _⟩ := I.loc
    refine .cons (by rw [I.ok.kind]; decide) hf hn ?_ I.funs
    exact Heap.get?_none_of_le (Nat.le_trans I.ok.bsz I.ok.above)
theorem Inv.stkSub (I : Inv X pins σ H s) : ∀ b ∈ frs X.stack, b ∈ X.env.locals :: X.fs := fun b hb => by
  rcases I.ok.stk with e | ⟨e, hf⟩
  · rw [e] at hb; exact List.mem_cons_of_mem _ hb
  · rw [e] at hb
    unfold frs at hb
    rw [List.filterMap_cons, hf] at hb
    exact hb
theorem Inv.stkFree (I : Inv X pins σ H s) : ∀ b ∈ frs X.stack, H b = none := fun b hb => by
  rcases List.mem_cons.mp (I.stkSub b hb) with e | hb
  · rw [e]; exact I.free
  · obtain ⟨_, o, ho, _⟩ := I.ok.funs.mem hb
    exact I.base.free b o ho (I.ok.frf b hb) fun z => I.ok.exfs b z hb

/-- THE STEP: the untracked objects but the frame and the records at ch are kept (the callers' frames up to slots), the frame's map is kept, the new abstract heap is held -/
theorem Inv.step {g' : Array GenState} {t' : Nat} {d' : Drawn} {ch : List Addr} (I : Inv X pins σ H s)
    (hch : ∀ b ∈ ch, (b ∈ X.ex ∨ X.s₀.heap.objs.size ≤ b) ∧ b ≠ X.env.locals ∧ (∀ x c, X.env.cells.lookup x = some c → c ≠ b) ∧ ∀ p ∈ X.pn ++ pins, p.1 ≠ b)
    (keep : ∀ b o, b ≠ X.env.locals → b ∉ X.fs → b ∉ ch → s.heap.get? b = some o → H b = none → h'.get? b = some o)
    (slot : ∀ b o, b ≠ X.env.locals → b ∈ X.fs → b ∉ ch → s.heap.get? b = some o → H b = none → ∃ sl, h'.get? b = some { o with slots := sl }) (free : ∀ b o, b ∉ ch → s.heap.get? b = some o → H b = none → H' b = none)
    (there : ∀ b o, b ∉ ch → s.heap.get? b = some o → ∃ o', h'.get? b = some o')
    (tups : ∀ b xs, H b = some (.tup xs) → H' b = some (.tup xs)) (frzs : ∀ b o u, H b = some (.frz o u) → H' b = some (.frz o u)) (tbls : ∀ b ps, H b = some (.tbl ps) → ∃ more, H' b = some (.tbl (ps ++ more)))
    (ns : ∀ m, s.heap.Ns X.env.locals m → h'.Ns X.env.locals m) (hok : HOk X.prog X.w H' h') (hg : AllBare g') :
    Inv X pins σ H' { s with heap := h', gens := g', drawn := d', toks := t' } := by
  have neL : ∀ b o, X.s₀.heap.get? b = some o → b ≠ X.env.locals := fun b o e => Nat.ne_of_lt (Nat.lt_of_lt_of_le (Heap.lt_size e) I.ok.above)
  have neC : ∀ b o, X.s₀.heap.get? b = some o → b ∉ X.ex → b ∉ ch := fun b o e hx hb => by
    rcases (hch b hb).1 with z | z
    · exact hx z
    · exact absurd (Nat.lt_of_lt_of_le (Heap.lt_size e) z) (Nat.lt_irrefl _)
  have cellK : ∀ x c, X.env.cells.lookup x = some c → ∀ v, s.heap.IsCell c v → h'.IsCell c v := fun x c e v ⟨o, ho, hd⟩ => by
    have nch : c ∉ ch := fun z => (hch c z).2.2.1 x c e rfl
    by_cases hc : c ∈ X.fs
    · obtain ⟨sl, q⟩ := slot c o (I.cne x c e) hc nch ho (I.freeC x c e)
      exact ⟨_, q, hd⟩
    · exact ⟨o, keep c o (I.cne x c e) hc nch ho (I.freeC x c e), hd⟩
  refine ⟨I.ok, I.os, hg, ⟨fun b o e n hb hx => ?_, fun b o e n hb hx => ?_, fun b o e n hx => ?_, fun b o e hx => ?_, fun b xs e => tups b xs (I.base.tups b xs e), fun b o xs e => frzs b o xs (I.base.frzs b o xs e), fun b ps e => ?_⟩, ?_, fun x c e => ?_, ?_, fun x c e => ?_, fun p hp => ?_, hok, I.len⟩
  · exact keep b o (neL b o e) hb (neC b o e hx) (I.base.keep b o e n hb hx) (I.base.free b o e n hx)
  · obtain ⟨sl, e1⟩ := I.base.slot b o e n hb hx
    obtain ⟨sl', e2⟩ := slot b _ (neL b o e) hb (neC b o e hx) e1 (I.base.free b o e n hx)
    exact ⟨sl', e2⟩
  · obtain ⟨o', e1⟩ := I.base.there b o e hx
    exact free b o' (neC b o e hx) e1 (I.base.free b o e n hx)
  · obtain ⟨o', e1⟩ := I.base.there b o e hx
    exact there b o' (neC b o e hx) e1
  · obtain ⟨m1, e1⟩ := I.base.tbls b ps e
    obtain ⟨m2, e2⟩ := tbls b _ e1
    exact ⟨m1 ++ m2, by rw [e2, Array.append_assoc]⟩
  · obtain ⟨m, hn, hl⟩ := I.loc
    refine ⟨m, ns m hn, fun i x v e1 e2 e3 => ?_⟩
    obtain ⟨u, r, l⟩ := hl i x v e1 e2 e3
    refine ⟨u, r, ?_⟩
    rcases l with l | ⟨k, c, e, z⟩
    · exact .inl l
    · exact .inr ⟨k, c, e, cellK x c e _ z⟩
  · obtain ⟨v, z⟩ := I.cell x c e
    exact ⟨v, cellK x c e v z⟩
  · obtain ⟨m, ⟨o, _, _, ho, _⟩, _⟩ := I.loc
    exact free _ o (fun z => (hch _ z).2.1 rfl) ho I.free
  · obtain ⟨v, o, ho, hd⟩ := I.cell x c e
    exact free c o (fun z => (hch c z).2.2.1 x c e rfl) ho (I.freeC x c e)
  · obtain ⟨e, n, ne, nf, d⟩ := I.pin p hp
    have nch : p.1 ∉ ch := fun z => (hch p.1 z).2.2.2 p hp rfl
    exact ⟨keep p.1 p.2 ne nf nch e n, free p.1 p.2 nch e n, ne, nf, d⟩
/-- .. where the frame's own object is kept too -/
theorem Inv.un {t' : Nat} (I : Inv X pins σ H s) (u : Un X.fs [] H H' s.heap h') (hok : HOk X.prog X.w H' h') : Inv X pins σ H' { s with heap := h', toks := t' } := by
  obtain ⟨m, ⟨o, es, ep, ho, r⟩, _⟩ := id I.loc
  obtain ⟨sl, hL⟩ := u.any ho I.free (by simp)
  exact I.step (g' := s.gens) (d' := s.drawn) (ch := []) (fun _ z => nomatch z) (fun b o _ hb _ e n => u.keep b o e n hb (by simp)) (fun b o _ hb _ e n => u.slot b o e n hb (by simp)) (fun b o _ e n => u.free b o e n (by simp)) (fun b o _ e => u.there b o e (by simp)) u.tups u.frzs u.tbls (fun m' hm => by
    obtain ⟨o', es', ep', ho', r'⟩ := hm
    rw [ho] at ho'; cases ho'
    exact ⟨_, es', ep', hL, r'⟩) hok I.bare
/-- behind a call (or a comprehension's block): the slots of this frame may have changed too, the records at ch may have turned -/
theorem Inv.call {g' : Array GenState} {t' : Nat} {d' : Drawn} {ch : List Addr} (I : Inv X pins σ H s) (u : Un (frs X.stack) ch H H' s.heap h') (hok : HOk X.prog X.w H' h') (hg : AllBare g')
    (hch : ∀ b ∈ ch, (b ∈ X.ex ∨ X.s₀.heap.objs.size ≤ b) ∧ b ≠ X.env.locals ∧ (∀ x c, X.env.cells.lookup x = some c → c ≠ b) ∧ ∀ p ∈ X.pn ++ pins, p.1 ≠ b) :
    Inv X pins σ H' { s with heap := h', gens := g', drawn := d', toks := t' } := by
  obtain ⟨m, ⟨o, es, ep, ho, r⟩, _⟩ := id I.loc
  obtain ⟨sl, hL⟩ := u.any ho I.free fun z => (hch _ z).2.1 rfl
  exact I.step (ch := ch) hch (fun b o hL hb hc e n => u.keep b o e n (fun z => (List.mem_cons.mp (I.stkSub b z)).elim hL hb) hc) (fun b o _ _ hc e n => u.any e n hc) (fun b o hc e n => u.free b o e n hc) (fun b o hc e => u.there b o e hc) u.tups u.frzs u.tbls (fun m' hm => by
    obtain ⟨o', es', ep', ho', r'⟩ := hm
    rw [ho] at ho'; cases ho'
    exact ⟨_, es', ep', hL, r'⟩) hok hg
/-- an untracked record of ours (an iterator) has turned -/
theorem Inv.turned {t' : Nat} {it : Addr} (I : Inv X pins σ H s) (k : ∀ b o, b ≠ it → s.heap.get? b = some o → h'.get? b = some o) (hn : H it = none) (hL : it ≠ X.env.locals)
    (h1 : it ∈ X.ex ∨ X.s₀.heap.objs.size ≤ it) (h2 : ∀ x c, X.env.cells.lookup x = some c → c ≠ it) (h3 : ∀ p ∈ X.pn ++ pins, p.1 ≠ it) : Inv X pins σ H { s with heap := h', toks := t' } := by
  have nit : ∀ b u, H b = some u → b ≠ it := fun b u e z => by rw [z, hn] at e; cases e
  refine I.step (g' := s.gens) (d' := s.drawn) (ch := [it]) (fun b hb => ?_) (fun b o _ _ hc e _ => k b o (fun z => hc (by simp [z])) e) (fun b o _ _ hc e _ => ⟨o.slots, k b o (fun z => hc (by simp [z])) e⟩) (fun _ _ _ _ n => n)
    (fun b o hc e => ⟨o, k b o (fun z => hc (by simp [z])) e⟩) (fun _ _ e => e) (fun _ _ _ e => e) (fun b ps e => ⟨#[], by rw [e]; simp⟩) (fun m hm => ?_) (fun b u e => ?_) I.bare
  · have e : b = it := by simpa using hb
    subst e
    exact ⟨h1, hL, h2, h3⟩
  · obtain ⟨o, es, ep, ho, r⟩ := hm
    exact ⟨o, es, ep, k _ o (Ne.symm hL) ho, r⟩
  · refine (I.hok b u e).stay (fun c v hc q => k c v ?_ q) (fun _ q => q) fun _ _ q => q
    rcases hc with z | z
    · rw [z]; exact nit b u e
    · exact nit c _ z
theorem Inv.tok (I : Inv X pins σ H s) (t : Nat) : Inv X pins σ H { s with toks := t } := I.un (h' := s.heap) (t' := t) Un.refl I.hok
/-- all objects kept -/
theorem Inv.kept {t' : Nat} (I : Inv X pins σ H s) (k : ∀ b u, s.heap.get? b = some u → h'.get? b = some u) : Inv X pins σ H { s with heap := h', toks := t' } := I.un (Un.kept k) (I.hok.kept k)
/-- a new object laid and tracked -/
theorem Inv.laid {a : Addr} {o : HO} {t' : Nat} (I : Inv X pins σ H s) (k : ∀ b u, s.heap.get? b = some u → h'.get? b = some u) (hp : s.heap.objs.size ≤ a) (new : ObjOk X.prog X.w (upd H a o) h' a o) :
    Inv X pins σ (upd H a o) { s with heap := h', toks := t' } := I.un (Un.laid k hp (I.hok.fresh hp)) (I.hok.laid k hp new)
/-- an object written -/
theorem Inv.write {x e : Addr} {o : HO} {t' : Nat} (I : Inv X pins σ H s) (mu : Mut (H x)) (he : e = x ∨ H e = some (.own x)) (k : ∀ b u, b ≠ e → s.heap.get? b = some u → h'.get? b = some u) (heo : ∃ u, h'.get? e = some u)
    (new : ObjOk X.prog X.w (upd H x o) h' x o) : Inv X pins σ (upd H x o) { s with heap := h', toks := t' } := I.un (Un.write mu he k heo) (I.hok.write mu he k heo new)
theorem Inv.pins_of {pins' : List (Addr × Obj)} (I : Inv X pins σ H s) (h : ∀ p ∈ pins', s.heap.get? p.1 = some p.2 ∧ H p.1 = none ∧ p.1 ≠ X.env.locals ∧ p.1 ∉ X.fs ∧ ∀ v, p.2.data ≠ .cell v) : Inv X pins' σ H s :=
  ⟨I.ok, I.os, I.bare, I.base, I.loc, I.cell, I.free, I.freeC, fun p hp => (List.mem_append.mp hp).elim (fun z => I.pin p (List.mem_append_left _ z)) (h p), I.hok, I.len⟩

theorem nodup_ix {N : List Str} (hN : N.Nodup) {i j : Nat} {x : Str} (a : N[i]? = some x) (b : N[j]? = some x) : i = j := by
  obtain ⟨h1, e1⟩ := List.getElem?_eq_some_iff.mp a
  obtain ⟨h2, e2⟩ := List.getElem?_eq_some_iff.mp b
  exact (List.getElem_inj hN).mp (e1.trans e2.symm)

/-- a name is stored; what changed -/
theorem store_ok2 {M : Model} {A : Around} {E : Value → Shared → Prop} {i : Nat} {x : Str} {v : V} {u : Value} {Q : Unit → Shared → Prop} (I : Inv X pins σ H s) (hN : X.N.Nodup) (hi : X.N[i]? = some x) (hx : Loc X.env.scope x) (r : RelV v u)
    (h : ∀ s', Inv X pins (σ.set i (some v)) H s' → (∃ a, Heap.SameBut a s.heap s'.heap ∧ (a = X.env.locals ∨ X.env.cells.lookup x = some a)) → Q () s') (hf : X.fn x = true ∨ X.env.scope.names.lookup x = some .local := by first | exact .inl rfl | exact .inr rfl | assumption) : wpAny M A (storeName X.env x u) Q E s := by
  obtain ⟨m, hn, hl⟩ := id I.loc
  have hcls : (X.env.scope.kind == .class || (X.env.scope.kind == .module && X.env.locals != X.env.globals)) = false := by rw [I.ok.kind]; rfl
  have hiσ : i < σ.length := by rw [I.len]; exact (List.getElem?_eq_some_iff.mp hi).1
  have cne := I.cne
  have tracked : ∀ {a : Addr} {h' : Heap}, (∃ o, s.heap.get? a = some o ∧ H a = none) → Heap.SameBut a s.heap h' → HOk X.prog X.w H h' := fun {a h'} ha hs b ob e => by
    obtain ⟨_, _, hfree⟩ := ha
    refine (I.hok b ob e).stay (fun c w' hc q => (hs.2 c ?_).trans q) (fun _ q => q) fun _ _ q => q
    rintro rfl
    rcases hc with rfl | hc
    · rw [hfree] at e; cases e
    · rw [hfree] at hc; cases hc
  rcases hx with hk | hk
  · refine wpAny_storeName_local hk hn (fun h' hn' hs => ?_) hcls
    obtain ⟨oL, _, _, hoL, _⟩ := id hn
    refine h _ ⟨I.ok, I.os, I.bare, ⟨fun b o e n hb hx => ?_, fun b o e n hb hx => ?_, I.base.free, fun b o e hx => ?_, I.base.tups, I.base.frzs, I.base.tbls⟩, ⟨_, hn', fun j y v' e1 e2 e3 => ?_⟩, fun y c e => ?_, I.free, I.freeC, fun p hp => ?_, tracked ⟨oL, hoL, I.free⟩ hs, by simpa using I.len⟩ ⟨_, hs, .inl rfl⟩
    · exact (hs.2 b (Nat.ne_of_lt (Nat.lt_of_lt_of_le (Heap.lt_size e) I.ok.above))).trans (I.base.keep b o e n hb hx)
    · obtain ⟨sl, e1⟩ := I.base.slot b o e n hb hx
      exact ⟨sl, (hs.2 b (Nat.ne_of_lt (Nat.lt_of_lt_of_le (Heap.lt_size e) I.ok.above))).trans e1⟩
    · obtain ⟨o', e1⟩ := I.base.there b o e hx
      exact ⟨o', (hs.2 b (Nat.ne_of_lt (Nat.lt_of_lt_of_le (Heap.lt_size e) I.ok.above))).trans e1⟩
    · by_cases hj : j = i
      · subst hj
        rw [hi] at e1; cases e1
        rw [List.getElem?_set_self hiσ] at e2
        cases e2
        exact ⟨u, r, .inl ⟨hk, by simp⟩⟩
      · rw [List.getElem?_set_ne (Ne.symm hj)] at e2
        obtain ⟨u', r', q⟩ := hl j y v' e1 e2 e3
        refine ⟨u', r', ?_⟩
        rcases q with ⟨k, e⟩ | ⟨k, c, e, z⟩
        · refine .inl ⟨k, ?_⟩
          have : y ≠ x := fun e => hj (nodup_ix hN e1 (e ▸ hi))
          simp [this, e]
        · exact .inr ⟨k, c, e, z.sameBut hs (cne y c e)⟩
    · obtain ⟨w', z⟩ := I.cell y c e
      exact ⟨w', z.sameBut hs (cne y c e)⟩
    · obtain ⟨e, n, ne, nf, d⟩ := I.pin p hp
      exact ⟨(hs.2 p.1 ne).trans e, n, ne, nf, d⟩
  · have hfn : X.fn x = true := by
      rcases hf with z | z
      · exact z
      · rw [z] at hk; cases hk
    obtain ⟨c, hc⟩ := I.ok.has x (.inl hk)
    obtain ⟨w', z⟩ := I.cell x c hc
    refine wpAny_storeName_cell I.ok.kind hk hc z (fun h' hc' hs => ?_)
    obtain ⟨oc, hoc, hocd⟩ := id z
    refine h { s with heap := h' } ⟨I.ok, I.os, I.bare, ⟨fun b o e n hb hx => ?_, fun b o e n hb hx => ?_, I.base.free, fun b o e hx => ?_, I.base.tups, I.base.frzs, I.base.tbls⟩, ⟨m, hn.sameBut hs (Ne.symm (cne x c hc)), fun j y v' e1 e2 e3 => ?_⟩, fun y c' e => ?_, I.free, I.freeC, fun p hp => ?_, tracked ⟨oc, hoc, I.freeC x c hc⟩ hs, by simpa using I.len⟩ ⟨c, hs, .inr hc⟩
    · exact (hs.2 b (Nat.ne_of_lt (Nat.lt_of_lt_of_le (Heap.lt_size e) (I.ok.cab x c hfn hc)))).trans (I.base.keep b o e n hb hx)
    · obtain ⟨sl, e1⟩ := I.base.slot b o e n hb hx
      exact ⟨sl, (hs.2 b (Nat.ne_of_lt (Nat.lt_of_lt_of_le (Heap.lt_size e) (I.ok.cab x c hfn hc)))).trans e1⟩
    · obtain ⟨o', e1⟩ := I.base.there b o e hx
      exact ⟨o', (hs.2 b (Nat.ne_of_lt (Nat.lt_of_lt_of_le (Heap.lt_size e) (I.ok.cab x c hfn hc)))).trans e1⟩
    · by_cases hj : j = i
      · subst hj
        rw [hi] at e1; cases e1
        rw [List.getElem?_set_self hiσ] at e2
        cases e2
        exact ⟨u, r, .inr ⟨.inl hk, c, hc, hc'⟩⟩
      · rw [List.getElem?_set_ne (Ne.symm hj)] at e2
        obtain ⟨u', r', q⟩ := hl j y v' e1 e2 e3
        refine ⟨u', r', ?_⟩
        rcases q with q | ⟨k, c', e, z'⟩
        · exact .inl q
        · refine .inr ⟨k, c', e, z'.sameBut hs ?_⟩
          rintro rfl
          exact hj (nodup_ix hN e1 (I.ok.inj _ _ _ e hc ▸ hi))
    · by_cases hcc : c' = c
      · subst hcc; exact ⟨_, hc'⟩
      · obtain ⟨w2, z2⟩ := I.cell y c' e
        exact ⟨w2, z2.sameBut hs hcc⟩
    · obtain ⟨e, n, ne, nf, d⟩ := I.pin p hp
      refine ⟨(hs.2 p.1 ?_).trans e, n, ne, nf, d⟩
      intro q
      rw [q, hoc] at e
      have q' : oc = p.2 := Option.some.inj e
      exact d w' (by rw [← q']; exact hocd)
theorem store_ok {M : Model} {A : Around} {E : Value → Shared → Prop} {i : Nat} {x : Str} {v : V} {u : Value} {Q : Unit → Shared → Prop} (I : Inv X pins σ H s) (hN : X.N.Nodup) (hi : X.N[i]? = some x) (hx : Loc X.env.scope x) (r : RelV v u)
    (h : ∀ s', Inv X pins (σ.set i (some v)) H s' → Q () s') (hf : X.fn x = true ∨ X.env.scope.names.lookup x = some .local := by first | exact .inl rfl | exact .inr rfl | assumption) : wpAny M A (storeName X.env x u) Q E s :=
  store_ok2 I hN hi hx r (fun s' I' _ => h s' I') hf
/-- behind a call or a block, the state as it is -/
theorem Inv.call' {s' : Shared} {ch : List Addr} (I : Inv X pins σ H s) (ho : s'.os = s.os) (u : Un (frs X.stack) ch H H' s.heap s'.heap) (hok : HOk X.prog X.w H' s'.heap) (hg : AllBare s'.gens)
    (hch : ∀ b ∈ ch, (b ∈ X.ex ∨ X.s₀.heap.objs.size ≤ b) ∧ b ≠ X.env.locals ∧ (∀ x c, X.env.cells.lookup x = some c → c ≠ b) ∧ ∀ p ∈ X.pn ++ pins, p.1 ≠ b) : Inv X pins σ H' s' := by
  obtain ⟨h', g', d', t', o'⟩ := s'
  have e : o' = s.os := ho
  subst e
  exact I.call (g' := g') (t' := t') (d' := d') u hok hg hch
end

/-- an exception: its class, its own dict's address (where it has one), the abstract heap behind it -/
abbrev XK := Value → Option Addr → Hp → Prop
abbrev St := List (Option V)
abbrev VK := V → Hp → Prop
/-- an expression's reading; a test's; an argument list's -/
abbrev TE := St → Hp → VK → Prop
abbrev TT := St → Hp → (Bool → Hp → Prop) → Prop
abbrev TA := St → Hp → (List V → Hp → Prop) → Prop
/-- what is wanted behind a statement -/
structure Ends where
  nx : St → Hp → Prop
  rt : VK
  bk : St → Hp → Prop := fun _ _ => False
  ct : St → Hp → Prop := fun _ _ => False
abbrev TS := Ends → St → Hp → Prop

def EP (X : Cx) (pins : List (Addr × Obj)) (σ : St) (Q : VK) (u : Value) (s' : Shared) : Prop := ∃ v H', Inv X pins σ H' s' ∧ RelV v u ∧ Q v H'
def TP (X : Cx) (pins : List (Addr × Obj)) (σ : St) (Q : Bool → Hp → Prop) (b : Bool) (s' : Shared) : Prop := ∃ H', Inv X pins σ H' s' ∧ Q b H'
def AP (X : Cx) (pins : List (Addr × Obj)) (σ : St) (Q : List V → Hp → Prop) (us : List Value) (s' : Shared) : Prop := ∃ vs H', Inv X pins σ H' s' ∧ Vals vs us ∧ Q vs H'
def SP (X : Cx) (pins : List (Addr × Obj)) (D : Ends) (f : Flow) (s' : Shared) : Prop :=
  match f with
  | .next => ∃ σ' H', Inv X pins σ' H' s' ∧ D.nx σ' H'
  | .brk => ∃ σ' H', Inv X pins σ' H' s' ∧ D.bk σ' H'
  | .cont => ∃ σ' H', Inv X pins σ' H' s' ∧ D.ct σ' H'
  | .ret u => ∃ v σ' H', Inv X pins σ' H' s' ∧ RelV v u ∧ D.rt v H'

def PE (X : Cx) (e : Expr) (t : TE) : Prop :=
  ∀ (pins : List (Addr × Obj)) (s : Shared) (σ : St) (H : Hp) (Q : VK), Inv X pins σ H s → t σ H Q → wpAny (model X.prog X.w) X.A (eval e X.env) (EP X pins σ Q) X.xe s
def PT (X : Cx) (e : Expr) (t : TT) : Prop :=
  ∀ (pins : List (Addr × Obj)) (s : Shared) (σ : St) (H : Hp) (Q : Bool → Hp → Prop), Inv X pins σ H s → t σ H Q → wpAny (model X.prog X.w) X.A (isTrue e X.env (eval e X.env)) (TP X pins σ Q) X.xe s
/-- a test whatever its 'whole' is (and, or) -/
def PW (X : Cx) (e : Expr) (t : TT) : Prop :=
  ∀ (whole : Sem Value) (pins : List (Addr × Obj)) (s : Shared) (σ : St) (H : Hp) (Q : Bool → Hp → Prop), Inv X pins σ H s → t σ H Q → wpAny (model X.prog X.w) X.A (isTrue e X.env whole) (TP X pins σ Q) X.xe s
theorem PW.pt {X : Cx} {e : Expr} {t : TT} (h : PW X e t) : PT X e t := h _
/-- an argument list (no star), from the left -/
def PA (X : Cx) (es : List Expr) (t : TA) : Prop :=
  ∀ (pos : Pos) (pins : List (Addr × Obj)) (s : Shared) (σ : St) (H : Hp) (Q : List V → Hp → Prop), Inv X pins σ H s → t σ H Q → wpAny (model X.prog X.w) X.A (spliced (backTo pos (starEach es X.env))) (AP X pins σ Q) X.xe s
def PS (X : Cx) (st : Stmt) (t : TS) : Prop :=
  ∀ (pins : List (Addr × Obj)) (s : Shared) (σ : St) (H : Hp) (D : Ends), Inv X pins σ H s → t D σ H → wpAny (model X.prog X.w) X.A (exec st X.env) (SP X pins D) X.xe s
def PSs (X : Cx) (st : List Stmt) (t : TS) : Prop :=
  ∀ (pins : List (Addr × Obj)) (s : Shared) (σ : St) (H : Hp) (D : Ends), Inv X pins σ H s → t D σ H → wpAny (model X.prog X.w) X.A (execs st X.env) (SP X pins D) X.xe s
/-- weaken the end -/
theorem thn {α : Type} {t : Sem α} {Q Q' : α → Shared → Prop} {M : Model} {A : Around} {E : Value → Shared → Prop} {s : Shared} (h : wpAny M A t Q E s) (hQ : ∀ a s, Q a s → Q' a s) : wpAny M A t Q' E s := wpAny_mono h hQ fun _ _ x => x
end L2

namespace L2
open PySem PySem.Spec PyProof.Rows
section
variable {X : Cx}

def tVar (i : Nat) : TE := fun σ H Q => ∃ v, σ[i]? = some (some v) ∧ Q v H
def tC (v : V) : TE := fun _ H Q => Q v H
theorem pe_var {i : Nat} {x : Str} {pos : Pos} (hN : X.N[i]? = some x) (hv : Vis X.env.scope x) (hd : (x == ("__debug__" : Str)) = false := by decide) (hcd : (x == ("__classdict__" : Str)) = false := by decide) : PE X (.Name x pos) (tVar i) := by
  intro pins s σ H Q I h
  obtain ⟨v, e, h⟩ := h
  obtain ⟨m, hn, hl⟩ := I.loc
  obtain ⟨u, r, l⟩ := hl i x v hN e hv
  have fin : EP X pins σ Q u s := ⟨v, H, I, r, h⟩
  rcases l with ⟨hk, hm⟩ | ⟨hk, c, hc, hcell⟩
  · exact wpAny_Name (wpAny_loadName_local I.ok.kind hk hn hm fin) hd
  · rcases hk with hk | hk
    · exact wpAny_Name (wpAny_loadName_cell I.ok.kind hk hc hcell fin) hd
    · exact wpAny_Name (wpAny_loadName_free I.ok.kind hk hc hcell fin hcd) hd
theorem pe_int {i j pos} : PE X (.Constant (.int i) j pos) (tC (.int i)) := fun _ _ _ H _ I h => wpAny_Constant_int ⟨.int i, H, I.tok _, ⟨_, rfl⟩, h⟩
theorem pe_bl {b j pos} : PE X (.Constant (.bool b) j pos) (tC (.bl b)) := fun _ _ _ H _ I h => Constant_bool ⟨.bl b, H, I, rfl, h⟩
theorem pe_non {j pos} : PE X (.Constant .none j pos) (tC .non) := fun _ _ _ H _ I h => Constant_none ⟨.non, H, I, rfl, h⟩
theorem pe_str {x j pos} : PE X (.Constant (.str x) j pos) (tC (.str x)) := fun _ _ _ H _ I h => Calls.Constant_str ⟨.str x, H, I.tok _, ⟨_, rfl⟩, h⟩

/-- a global name of the def -/
def Gl (X : Cx) (x : Str) : Prop := X.env.kindOf x = some .globalImplicit
theorem ld_glob {E : Value → Shared → Prop} {pins : List (Addr × Obj)} {s : Shared} {σ : St} {H : Hp} {x : Str} {u : Value} {pos : Pos} {Q : Value → Shared → Prop} (I : Inv X pins σ H s) (hg : Gl X x) (hm : X.mg x = some u) (h : Q u s)
    (hd : (x == ("__debug__" : Str)) = false := by decide) : wpAny (model X.prog X.w) X.A (eval (.Name x pos) X.env) Q E s :=
  Calls.Name_function_global I.ok.kind hg (Calls.loadGlobal_global (by rw [I.ok.glob]; exact I.mod.glob.keeps I.bk) hm h) hd
theorem ld_blt {E : Value → Shared → Prop} {pins : List (Addr × Obj)} {s : Shared} {σ : St} {H : Hp} {x : Str} {u : Value} {pos : Pos} {Q : Value → Shared → Prop} (I : Inv X pins σ H s) (hg : Gl X x) (hm : X.mg x = none) (hv : bootBuiltins x = some u) (h : Q u s)
    (hn : x ≠ "__name__" := by decide) (hd : (x == ("__debug__" : Str)) = false := by decide) : wpAny (model X.prog X.w) X.A (eval (.Name x pos) X.env) Q E s := by
  obtain ⟨mb, h1, h2⟩ := I.mod.blt
  exact Calls.Name_function_global I.ok.kind hg (Calls.loadGlobal_builtin (by rw [I.ok.glob]; exact I.mod.glob.keeps I.bk) hm (by rw [I.ok.blt]; exact h1.keeps I.bk) ((h2 x hn).trans hv) h) hd
/-- a module's constant, a class, a function, as a value -/
theorem pe_glob {x : Str} {v : V} {u : Value} {pos : Pos} (hg : Gl X x) (hm : X.mg x = some u) (r : RelV v u) (hd : (x == ("__debug__" : Str)) = false := by decide) : PE X (.Name x pos) (tC v) :=
  fun _ _ _ H _ I h => ld_glob I hg hm ⟨v, H, I, r, h⟩ hd
theorem pe_bltn {x : Str} {v : V} {u : Value} {pos : Pos} (hg : Gl X x) (hm : X.mg x = none) (hv : bootBuiltins x = some u) (r : RelV v u) (hn : x ≠ "__name__" := by decide) (hd : (x == ("__debug__" : Str)) = false := by decide) : PE X (.Name x pos) (tC v) :=
  fun _ _ _ H _ I h => ld_blt I hg hm hv ⟨v, H, I, r, h⟩ hn hd

variable {a b : Expr} {ta tb : TE} {pos : Pos}

variable {tA tB' : TT} {rest : List Expr}
def tAnd (t u : TT) : TT := fun σ H Q => t σ H fun c H1 => if c = true then u σ H1 Q else Q false H1
def tOr (t u : TT) : TT := fun σ H Q => t σ H fun c H1 => if c = true then Q true H1 else u σ H1 Q
def tNot (t : TT) : TT := fun σ H Q => t σ H fun c H1 => Q (!c) H1
theorem pw_and1 (ha : PT X a tA) : PW X (.BoolOp .And [a] pos) tA := by
  intro wh pins s σ H Q I h
  refine isTrue_and (thn (ha pins s σ H Q I h) fun c s1 e => ?_)
  cases c with
  | true => exact isTrue_and_nil e
  | false => exact e
theorem pw_or1 (ha : PT X a tA) : PW X (.BoolOp .Or [a] pos) tA := by
  intro wh pins s σ H Q I h
  refine isTrue_or (thn (ha pins s σ H Q I h) fun c s1 e => ?_)
  cases c with
  | false => exact isTrue_or_nil e
  | true => exact e
theorem pw_and (ha : PT X a tA) (hb : PW X (.BoolOp .And (b :: rest) pos) tB') : PW X (.BoolOp .And (a :: b :: rest) pos) (tAnd tA tB') := by
  intro wh pins s σ H Q I h
  refine isTrue_and (thn (ha pins s σ H _ I h) fun c s1 ⟨H1, I1, q1⟩ => ?_)
  cases c with
  | true => exact hb wh pins s1 σ H1 Q I1 q1
  | false => exact ⟨H1, I1, q1⟩
theorem pw_or (ha : PT X a tA) (hb : PW X (.BoolOp .Or (b :: rest) pos) tB') : PW X (.BoolOp .Or (a :: b :: rest) pos) (tOr tA tB') := by
  intro wh pins s σ H Q I h
  refine isTrue_or (thn (ha pins s σ H _ I h) fun c s1 ⟨H1, I1, q1⟩ => ?_)
  cases c with
  | true => exact ⟨H1, I1, q1⟩
  | false => exact hb wh pins s1 σ H1 Q I1 q1
theorem pt_not (ha : PT X a tA) : PT X (.UnaryOp .Not a pos) (tNot tA) := by
  intro pins s σ H Q I h
  exact isTrue_not (ha pins s σ H (fun c H1 => Q (!c) H1) I h)
theorem pe_one {op} {t : TE} (h : PE X a t) : PE X (.BoolOp op [a] pos) t := fun pins s σ H Q I hw => BoolOp_one (h pins s σ H Q I hw)
/-- a if t else b -/
def tIf (t : TT) (ta tb : TE) : TE := fun σ H Q => t σ H fun c H1 => if c = true then ta σ H1 Q else tb σ H1 Q
theorem pe_ifExp {c : Expr} (hc : PT X c tA) (ha : PE X a ta) (hb : PE X b tb) : PE X (.IfExp c a b pos) (tIf tA ta tb) := by
  intro pins s σ H Q I h
  refine wpAny_IfExp (thn (hc pins s σ H _ I h) fun d s1 ⟨H1, I1, q1⟩ => ?_)
  cases d with
  | true => exact ha pins s1 σ H1 Q I1 q1
  | false => exact hb pins s1 σ H1 Q I1 q1
end
end L2

namespace L2
open PySem PySem.Spec PyProof.Rows

def SqL (K : PySem.W.Frag) (H : Hp) (a : Addr) (xs : List V) : Prop :=
  Rd H a (.lst xs) ∨
    ∃ (o : Obj) (its : Array Value) (n : Nat), K.lookup a = some o ∧ o.cls = .type "list" ∧ o.dict = none ∧ o.data = .seq its n ∧ its.size ≤ sizeLine ∧ Vals xs its.toList
def SqT (K : PySem.W.Frag) (H : Hp) (a : Addr) (xs : List V) : Prop :=
  Rd H a (.tup xs) ∨
    ∃ (o : Obj) (its : Array Value) (n : Nat), K.lookup a = some o ∧ o.cls = .type "tuple" ∧ o.data = .seq its n ∧ its.size ≤ sizeLine ∧ Vals xs its.toList
def absV : Value → Option V
  | .none => some .non
  | .bool b => some (.bl b)
  | .int i _ => some (.int i)
  | .str x _ => some (.str x)
  | .bytes b _ => some (.byt b)
  | .float b _ => some (.flt b)
  | .ref a => some (.ref a)
  | .type n => some (.ty n)
  | _ => none
theorem RelV.abs {x : V} {u : Value} (r : RelV x u) : absV u = some x := by
  cases x with
  | non => cases r; rfl
  | bl _ => cases r; rfl
  | int _ => obtain ⟨t, rfl⟩ := r; rfl
  | str _ => obtain ⟨t, rfl⟩ := r; rfl
  | byt _ => obtain ⟨t, rfl⟩ := r; rfl
  | flt _ => obtain ⟨t, rfl⟩ := r; rfl
  | ref _ => cases r; rfl
  | ty _ => cases r; rfl
theorem RelV.inj {x y : V} {u : Value} (r : RelV x u) (q : RelV y u) : x = y := Option.some.inj (r.abs.symm.trans q.abs)
theorem Vals.inj : ∀ {xs ys : List V} {us : List Value}, Vals xs us → Vals ys us → xs = ys
  | _, _, _, .nil, .nil => rfl
  | _, _, _, .cons r t, .cons r' t' => by rw [r.inj r', Vals.inj t t']
section
variable {X : Cx} {pins : List (Addr × Obj)} {σ : St} {H : Hp} {s : Shared} {a : Addr} {xs ys : List V}
theorem SqL.of {K : PySem.W.Frag} (h : H a = some (.lst xs)) : SqL K H a xs := .inl (.inl h)
theorem SqT.of {K : PySem.W.Frag} (h : H a = some (.tup xs)) : SqT K H a xs := .inl (.inl h)
theorem Inv.list (I : Inv X pins σ H s) (h : SqL X.K H a xs) : ∃ its : List Value, Vals xs its ∧ PlainL s.heap a its.toArray ∧ xs.length ≤ sizeLine := by
  rcases h with h | ⟨o, its, n, hk, hc, hd, hs, hz, r⟩
  · obtain ⟨z, its, n, r, e⟩ := h.ok I.hok
    exact ⟨its, r, ⟨_, n, e, rfl, rfl, rfl⟩, z⟩
  · refine ⟨its.toList, r, ⟨o, n, I.kIn a o hk, hc, hd, by simpa using hs⟩, ?_⟩
    have e := r.length
    simp only [Array.length_toList] at e
    omega
theorem Inv.tuple (I : Inv X pins σ H s) (h : SqT X.K H a xs) : ∃ its : List Value, Vals xs its ∧ IsTup s.heap a its.toArray ∧ xs.length ≤ sizeLine := by
  rcases h with h | ⟨o, its, n, hk, hc, hs, hz, r⟩
  · obtain ⟨z, its, r, p⟩ := h.ok I.hok
    exact ⟨its, r, p, z⟩
  · refine ⟨its.toList, r, ⟨o, I.kIn a o hk, hc, n, by simpa using hs⟩, ?_⟩
    have e := r.length
    simp only [Array.length_toList] at e
    omega
theorem Inv.list_inj (I : Inv X pins σ H s) (h : SqL X.K H a xs) (h' : SqL X.K H a ys) : xs = ys := by
  obtain ⟨its, r, ⟨o, n, e, _, _, d⟩, _⟩ := I.list h
  obtain ⟨its', r', ⟨o', n', e', _, _, d'⟩, _⟩ := I.list h'
  rw [e] at e'; cases e'
  rw [d] at d'
  injection d' with d1 _
  have : its = its' := by simpa using congrArg Array.toList d1
  subst this
  exact r.inj r'
theorem Inv.tuple_inj (I : Inv X pins σ H s) (h : SqT X.K H a xs) (h' : SqT X.K H a ys) : xs = ys := by
  obtain ⟨its, r, ⟨o, e, _, n, d⟩, _⟩ := I.tuple h
  obtain ⟨its', r', ⟨o', e', _, n', d'⟩, _⟩ := I.tuple h'
  rw [e] at e'; cases e'
  rw [d] at d'
  injection d' with d1 _
  have : its = its' := by simpa using congrArg Array.toList d1
  subst this
  exact r.inj r'
end

abbrev Cx.wish (X : Cx) (E : Value → Shared → Prop) : Cx := { X with xe := E }
/-- no exception leaves -/
abbrev Cx.nox (X : Cx) : Cx := X.wish fun _ _ => False
theorem Cx.Ok.wish {X : Cx} (ok : X.Ok) (E : Value → Shared → Prop) : (X.wish E).Ok :=
  ⟨ok.mod, ok.kind, ok.glob, ok.blt, ok.above, ok.inj, ok.has, ok.cab, ok.hd, ok.frames, ok.stk, ok.exf, ok.bs, ok.bsz, ok.noex, ok.exfs, ok.funs, ok.frf⟩
theorem Cx.Ok.unwish {X : Cx} {E : Value → Shared → Prop} (ok : (X.wish E).Ok) : X.Ok :=
  ⟨ok.mod, ok.kind, ok.glob, ok.blt, ok.above, ok.inj, ok.has, ok.cab, ok.hd, ok.frames, ok.stk, ok.exf, ok.bs, ok.bsz, ok.noex, ok.exfs, ok.funs, ok.frf⟩
section
variable {X : Cx} {pins : List (Addr × Obj)} {σ : St} {H : Hp} {s : Shared} {E : Value → Shared → Prop}
theorem Inv.wish (I : Inv X pins σ H s) (E : Value → Shared → Prop) : Inv (X.wish E) pins σ H s := ⟨I.ok.wish E, I.os, I.bare, I.base, I.loc, I.cell, I.free, I.freeC, I.pin, I.hok, I.len⟩
theorem Inv.unwish (I : Inv (X.wish E) pins σ H s) : Inv X pins σ H s := ⟨I.ok.unwish, I.os, I.bare, I.base, I.loc, I.cell, I.free, I.freeC, I.pin, I.hok, I.len⟩
theorem SP.unwish {D : Ends} {f : Flow} {s' : Shared} (h : SP (X.wish E) pins D f s') : SP X pins D f s' := by
  cases f with
  | next => obtain ⟨σ', H', I, q⟩ := h; exact ⟨σ', H', I.unwish, q⟩
  | brk => obtain ⟨σ', H', I, q⟩ := h; exact ⟨σ', H', I.unwish, q⟩
  | cont => obtain ⟨σ', H', I, q⟩ := h; exact ⟨σ', H', I.unwish, q⟩
  | ret u => obtain ⟨v, σ', H', I, r, q⟩ := h; exact ⟨v, σ', H', I.unwish, r, q⟩
theorem PSs.nox {st : List Stmt} {t : TS} (h : PSs X.nox st t) : PSs X st t := fun pins s σ H D I hw =>
  wpAny_mono (h pins s σ H D (I.wish _) hw) (fun _ _ q => q.unwish) fun _ _ z => False.elim z
end

section
variable {X : Cx} {st : Stmt} {rest : List Stmt} {t u : TS} {e : Expr} {te : TE} {pos : Pos}
def tNext : TS := fun D σ H => D.nx σ H
def tSeq (t u : TS) : TS := fun D σ H => t { D with nx := u D } σ H
theorem pss_nil : PSs X [] tNext := fun _ _ σ H _ I h => wpAny_execs_nil ⟨σ, H, I, h⟩
theorem pss_cons (h1 : PS X st t) (h2 : PSs X rest u) : PSs X (st :: rest) (tSeq t u) := by
  intro pins s σ H D I h
  refine wpAny_execs_cons (thn (h1 pins s σ H { D with nx := u D } I h) fun f s1 q => ?_)
  cases f with
  | next =>
    obtain ⟨σ', H', I', q⟩ := q
    exact h2 pins s1 σ' H' D I' q
  | ret v => exact q
  | brk => exact q
  | cont => exact q
def tBreak : TS := fun D σ H => D.bk σ H
def tCont : TS := fun D σ H => D.ct σ H
theorem ps_pass : PS X (.Pass pos) tNext := fun _ _ σ H _ I h => wpAny_Pass ⟨σ, H, I, h⟩
theorem ps_break : PS X (.Break pos) tBreak := fun _ _ σ H _ I h => wpAny_Break ⟨σ, H, I, h⟩
theorem ps_continue : PS X (.Continue pos) tCont := fun _ _ σ H _ I h => wpAny_Continue ⟨σ, H, I, h⟩
/-- in a def's body nothing is shown -/
theorem Inv.quiet {pins : List (Addr × Obj)} {σ : St} {H : Hp} {s : Shared} (I : Inv X pins σ H s) : interactive X.env = false := by simp [interactive, I.ok.kind]
/-- an expression whose value is dropped -/
def tDrop (te : TE) : TS := fun D σ H => te σ H fun _ H1 => D.nx σ H1
theorem ps_expr (he : PE X e te) (hs : swapsWith e none pos.line X.env = pure false := by rfl) : PS X (.Expr e pos) (tDrop te) := by
  intro pins s σ H D I h
  exact wpAny_Expr_any (thn (he pins s σ H _ I h) fun v s1 ⟨x, H1, I1, r1, q1⟩ => ⟨σ, H1, I1, q1⟩) I.quiet hs
def tRet (te : TE) : TS := fun D σ H => te σ H D.rt
theorem ps_ret (he : PE X e te) : PS X (.Return (some e) pos) (tRet te) := by
  intro pins s σ H D I h
  exact wpAny_Return_some (thn (he pins s σ H _ I h) fun v s1 ⟨x, H1, I1, r1, q1⟩ => ⟨x, σ, H1, I1, r1, q1⟩)
def tRetN : TS := fun D _ H => D.rt .non H
theorem ps_retN : PS X (.Return none pos) tRetN := fun _ _ σ H _ I h => wpAny_Return_none ⟨.non, σ, H, I, rfl, h⟩
def tIfS (c : TT) (t u : TS) : TS := fun D σ H => c σ H fun b H1 => if b = true then t D σ H1 else u D σ H1
theorem ps_if {c : Expr} {a b : List Stmt} {tc : TT} (hc : PT X c tc) (ha : PSs X a t) (hb : PSs X b u) : PS X (.If c a b pos) (tIfS tc t u) := by
  intro pins s σ H D I h
  refine wpAny_If (thn (hc pins s σ H _ I h) fun d s1 ⟨H1, I1, q1⟩ => ?_)
  cases d with
  | true => exact ha pins s1 σ H1 D I1 q1
  | false => exact hb pins s1 σ H1 D I1 q1
end

abbrev TG := V → St → Hp → (St → Hp → Prop) → Prop
abbrev TGs := List V → St → Hp → (St → Hp → Prop) → Prop
def PG (X : Cx) (target : Expr) (t : TG) : Prop :=
  ∀ (pins : List (Addr × Obj)) (s : Shared) (σ : St) (H : Hp) (v : V) (u : Value) (Q : St → Hp → Prop), Inv X pins σ H s → RelV v u → t v σ H Q →
    wpAny (model X.prog X.w) X.A (assign target X.env u) (fun _ s' => ∃ σ' H', Inv X pins σ' H' s' ∧ Q σ' H') X.xe s
/-- several targets, one after another -/
def PGs (X : Cx) (ts : List Expr) (t : TGs) : Prop :=
  ∀ (pins : List (Addr × Obj)) (s : Shared) (σ : St) (H : Hp) (vs : List V) (us : List Value) (Q : St → Hp → Prop), Inv X pins σ H s → Vals vs us → t vs σ H Q →
    wpAny (model X.prog X.w) X.A (assignInOrder ((assignEach ts X.env).map (·.2)) us) (fun _ s' => ∃ σ' H', Inv X pins σ' H' s' ∧ Q σ' H') X.xe s
section
variable {X : Cx} {pos : Pos}
def gName (i : Nat) : TG := fun v σ H Q => Q (σ.set i (some v)) H
theorem pg_name {i : Nat} {x : Str} (hN : X.N.Nodup) (hi : X.N[i]? = some x) (hx : Loc X.env.scope x) (hf : X.fn x = true ∨ X.env.scope.names.lookup x = some .local := by first | exact .inl rfl | exact .inr rfl | assumption) : PG X (.Name x pos) (gName i) := by
  intro pins s σ H v u Q I r h
  exact wpAny_assign_Name (store_ok I hN hi hx r (fun s' I' => ⟨_, H, I', h⟩) hf)
def gNil : TGs := fun vs σ H Q => vs = [] ∧ Q σ H
def gCons (t : TG) (u : TGs) : TGs := fun vs σ H Q => ∃ v r, vs = v :: r ∧ t v σ H fun σ' H' => u r σ' H' Q
theorem pgs_nil : PGs X [] gNil := by
  intro pins s σ H vs us Q I r h
  obtain ⟨e, h⟩ := h
  subst e
  cases r
  exact assignInOrder_nil ⟨σ, H, I, h⟩
theorem pgs_cons {e : Expr} {es : List Expr} {t : TG} {u : TGs} (h1 : PG X e t) (h2 : PGs X es u)
    (hs : (assignEach (e :: es) X.env).map (·.2) = assign e X.env :: (assignEach es X.env).map (·.2) := by rfl) : PGs X (e :: es) (gCons t u) := by
  intro pins s σ H vs us Q I r h
  obtain ⟨v, vr, e1, h⟩ := h
  subst e1
  cases r with
  | cons r rr =>
    rw [hs]
    refine assignInOrder_cons (thn (h1 pins s σ H _ _ _ I r h) fun _ s1 ⟨σ1, H1, I1, q1⟩ => ?_)
    exact h2 pins s1 σ1 H1 _ _ Q I1 rr q1
/-- (a, b, ..) = a tuple of that length -/
def gTup (K : PySem.W.Frag) (n : Nat) (t : TGs) : TG := fun v σ H Q => ∃ a xs, v = .ref a ∧ SqT K H a xs ∧ xs.length = n ∧ t xs σ H Q
theorem pg_tup {es : List Expr} {k : Nat} {t : TGs} {n : Nat} (hc : X.calm = true) (h : PGs X es t)
    (hn : (assignEach es X.env).length = n := by rfl) (hst : (assignEach es X.env).findIdx? (·.1) = none := by rfl) : PG X (.Tuple es k pos) (gTup X.K n t) := by
  intro pins s σ H v u Q I r hw
  obtain ⟨a, xs, e1, hq, hl, hw⟩ := hw
  subst e1
  cases r
  obtain ⟨its, rv, ht, hz⟩ := I.tuple hq
  refine assign_Tuple_tuple (I.ok.hd hc) ht (by simp [hn, ← hl, rv.length]) hst fun h' hx => ?_
  have I1 : Inv X pins σ H { s with heap := h' } := I.kept (t' := s.toks) fun b o e => hx b o (Nat.ne_of_lt (Heap.lt_size e)) e
  exact h pins _ σ H xs _ Q I1 (by simpa using rv) hw
/-- target = value -/
def tAsg (te : TE) (g : TG) : TS := fun D σ H => te σ H fun x H1 => g x σ H1 D.nx
/-- name = value -/
theorem ps_set {i : Nat} {x : Str} {e : Expr} {te : TE} {pos' : Pos} (hN : X.N.Nodup) (hi : X.N[i]? = some x) (hx : Loc X.env.scope x) (he : PE X e te) (hs : swapsWith e (some (.Name x pos')) pos.line X.env = pure false := by rfl) (hf : X.fn x = true ∨ X.env.scope.names.lookup x = some .local := by first | exact .inl rfl | exact .inr rfl | assumption) :
    PS X (.Assign [.Name x pos'] e pos) (tAsg te (gName i)) := by
  intro pins s σ H D I h
  refine wpAny_Assign_Name (thn (he pins s σ H _ I h) fun v s1 ⟨y, H1, I1, r1, q1⟩ => ?_) hs
  exact store_ok I1 hN hi hx r1 (fun s2 I2 => ⟨_, H1, I2, q1⟩) hf
end

section
variable {X : Cx} {pos : Pos}
/-- the invariant W with its measure -/
def tWhile (c : TT) (tb : TS) : TS := fun D σ H => ∃ W : Nat → St → Hp → Prop, (∃ m, W m σ H) ∧ ∀ m σ H, W m σ H →
  c σ H fun b H1 => if b = true then ∃ N : St → Hp → Prop, (∀ σ' H', N σ' H' → ∃ m', m' < m ∧ W m' σ' H') ∧ tb { D with nx := N, ct := N, bk := D.nx } σ H1 else D.nx σ H1
theorem ps_while {c : Expr} {body : List Stmt} {tc : TT} {tb : TS} (hp : PassesOwn (model X.prog X.w) X.A X.env X.xe) (hc : PT X c tc) (hb : PSs X body tb) : PS X (.While c body [] pos) (tWhile tc tb) := by
  intro pins s σ H D I h
  obtain ⟨W, ⟨m0, w0⟩, turn⟩ := h
  refine wpAny_While (codeAny_whileLoop (fun n s' => ∃ σ' H', Inv X pins σ' H' s' ∧ W n σ' H') ?_ m0 ⟨σ, H, I, w0⟩)
  rintro n s1 ⟨σ1, H1, I1, w1⟩
  refine wpAny_passesOwn hp (thn (hc pins s1 σ1 H1 _ I1 (turn n σ1 H1 w1)) fun b s2 ⟨H2, I2, q2⟩ => ?_)
  cases b with
  | true =>
    obtain ⟨N, hN, q2⟩ := q2
    rw [if_pos rfl]
    refine wpAny_passesOwn hp (thn (hb pins s2 σ1 H2 _ I2 q2) fun f s3 q3 => ?_)
    cases f with
    | next =>
      obtain ⟨σ3, H3, I3, n3⟩ := q3
      obtain ⟨m', hm, w3⟩ := hN σ3 H3 n3
      exact ⟨m', hm, σ3, H3, I3, w3⟩
    | cont =>
      obtain ⟨σ3, H3, I3, n3⟩ := q3
      obtain ⟨m', hm, w3⟩ := hN σ3 H3 n3
      exact ⟨m', hm, σ3, H3, I3, w3⟩
    | brk => exact q3
    | ret v => exact q3
  | false =>
    rw [if_neg Bool.false_ne_true]
    exact wpAny_execs_nil ⟨σ1, H2, I2, q2⟩
end

/-- at turn i: it yields x (the heap may grow), or it stops -/
structure It where
  go : Nat → Hp → Prop
  yld : Nat → Hp → V → Hp → Prop
  stop : Nat → Hp → Prop
/-- the iterator's own objects may turn: they are not the frame's, not pinned, younger than the entry (or a comprehension's own) -/
def FpOk (X : Cx) (pins : List (Addr × Obj)) (H : Hp) (b : Addr) : Prop :=
  H b = none ∧ b ≠ X.env.locals ∧ b ∉ X.fs ∧ (b ∈ X.ex ∨ X.s₀.heap.objs.size ≤ b) ∧ (∀ x c, X.env.cells.lookup x = some c → c ≠ b) ∧ ∀ p ∈ X.pn ++ pins, p.1 ≠ b
theorem Inv.fpOk {X : Cx} {pins : List (Addr × Obj)} {σ : St} {H H' : Hp} {s : Shared} {b : Addr} (I : Inv X pins σ H s) (hb : s.heap.objs.size ≤ b) (hn : H' b = none) : FpOk X pins H' b := by
  refine ⟨hn, Nat.ne_of_gt (Nat.lt_of_lt_of_le I.lt hb), I.nofs hb, .inr (Nat.le_trans I.sz hb), fun x c e z => ?_, fun p hp z => ?_⟩
  · obtain ⟨v, q⟩ := I.cell x c e
    exact absurd (Nat.lt_of_lt_of_le q.lt (by rw [z]; exact hb)) (Nat.lt_irrefl _)
  · exact absurd (Nat.lt_of_lt_of_le (Heap.lt_size (I.pin p hp).1) (by rw [z]; exact hb)) (Nat.lt_irrefl _)
structure Turn (P : Program) (w : World) (K : PySem.W.Frag) (tg : Expr) (J : It) (fp : List Addr) (it : Addr) (tn : Nat → Heap → Prop) : Prop where
  mem : it ∈ fp
  obj : ∀ i h, tn i h → ∀ b ∈ fp, ∃ o, h.get? b = some o ∧ ∀ v, o.data ≠ .cell v
  keep : ∀ i h h', tn i h → (∀ b ∈ fp, ∀ o, h.get? b = some o → h'.get? b = some o) → tn i h'
  item : ∀ (X : Cx), X.prog = P → X.w = w → X.K = K → X.calm = true → ∀ (i : Nat) (pins : List (Addr × Obj)) (s : Shared) (σ : St) (H : Hp) (E : Value → Shared → Prop), Inv X pins σ H s → (∀ b ∈ fp, FpOk X pins H b) → tn i s.heap → J.go i H →
    wpAny (model P w) X.A (pyNext (.ref it)) (fun r s1 => ∃ u, r = some u ∧
      wpAny (model P w) X.A (letOwnedTupleGo tg (.ref it) u) (fun _ s2 => ∃ x H', Inv X pins σ H' s2 ∧ RelV x u ∧ J.yld i H x H' ∧ tn (i + 1) s2.heap ∧ ∀ b ∈ fp, H' b = none) E s1) E s
  done : ∀ (X : Cx), X.prog = P → X.w = w → X.K = K → X.calm = true → ∀ (i : Nat) (pins : List (Addr × Obj)) (s : Shared) (σ : St) (H : Hp) (E : Value → Shared → Prop), Inv X pins σ H s → (∀ b ∈ fp, FpOk X pins H b) → tn i s.heap → J.stop i H →
    wpAny (model P w) X.A (pyNext (.ref it)) (fun r s1 => r = none ∧ Inv X pins σ H s1) E s
  self : ∀ (A : Around) (i : Nat) (s : Shared) (Q : Value → Shared → Prop) (E : Value → Shared → Prop), tn i s.heap → Q (.ref it) s → wpAny (model P w) A (pyIter (.ref it)) Q E s
abbrev TI := St → Hp → (It → Hp → Prop) → Prop
/-- an iterator has come -/
def PIE (X : Cx) (pins : List (Addr × Obj)) (σ : St) (tg : Expr) (R : It → Hp → Prop) (itv : Value) (s2 : Shared) : Prop :=
  ∃ (it : Addr) (fp : List Addr) (tn : Nat → Heap → Prop) (J : It) (H' : Hp), itv = .ref it ∧ Inv X pins σ H' s2 ∧ Turn X.prog X.w X.K tg J fp it tn ∧ tn 0 s2.heap ∧ (∀ b ∈ fp, FpOk X pins H' b) ∧ R J H'
def PI (X : Cx) (tg iter : Expr) (wi : TI) : Prop :=
  ∀ (pins : List (Addr × Obj)) (s : Shared) (σ : St) (H : Hp) (R : It → Hp → Prop), Inv X pins σ H s → wi σ H R →
    wpAny (model X.prog X.w) X.A (eval iter X.env) (fun v s1 => wpAny (model X.prog X.w) X.A (pyIter v) (PIE X pins σ tg R) X.xe s1) X.xe s

/-- the step ahead of the store is nothing for an iterator that keeps no tuple -/
theorem go_of {M : Model} {A : Around} {E : Value → Shared → Prop} {s : Shared} {tg : Expr} {it : Addr} {u : Value} {o : Obj} {n : String} {vs : Array Value} {Q : Unit → Shared → Prop} (ho : s.heap.get? it = some o) (hc : o.cls = .type n) (hd : o.data = .fields vs)
    (hn : ["enumerate", "zip", "dict_itemiterator", "dict_reverseitemiterator", "odict_iterator", "itertools.zip_longest", "itertools.pairwise"].contains n = false) (hQ : Q () s) : wpAny M A (letOwnedTupleGo tg (.ref it) u) Q E s := by
  unfold letOwnedTupleGo
  cases tg <;> first
    | exact wpAny_pure hQ
    | (cases u <;> first
        | exact wpAny_pure hQ
        | (refine wpAny_bind (wpAny_load ho ?_)
           rw [hc, hd]
           show wpAny M A (if (["enumerate", "zip", "dict_itemiterator", "dict_reverseitemiterator", "odict_iterator", "itertools.zip_longest", "itertools.pairwise"].contains n && vs[0]? == some (rawInt _)) = true then _ else _) Q E s
           rw [if_neg (by intro h; rw [hn, Bool.false_and] at h; cases h)]
           exact wpAny_pure hQ))

/-- the list at a, as it stands at each turn (a loop may append to it) -/
def Itl (K : PySem.W.Frag) (a : Addr) : It :=
  ⟨fun i H => ∃ xs x, SqL K H a xs ∧ xs[i]? = some x, fun i H x H' => H' = H ∧ ∀ xs, SqL K H a xs → xs[i]? = some x, fun i H => ∃ xs, SqL K H a xs ∧ xs.length ≤ i⟩
def Itt (K : PySem.W.Frag) (a : Addr) : It :=
  ⟨fun i H => ∃ xs x, SqT K H a xs ∧ xs[i]? = some x, fun i H x H' => H' = H ∧ ∀ xs, SqT K H a xs → xs[i]? = some x, fun i H => ∃ xs, SqT K H a xs ∧ xs.length ≤ i⟩
/-- lo, lo + 1, .. (n of them) -/
def Itr (lo : Int) (n : Nat) : It := ⟨fun i _ => i < n, fun i H x H' => H' = H ∧ x = .int (lo + i), fun i _ => n ≤ i⟩
theorem turn_list {P : Program} {w : World} {K : PySem.W.Frag} {tg : Expr} (a it : Addr) : Turn P w K tg (Itl K a) [it] it (fun i h => h.IsListIter it a i) where
  mem := by simp
  obj := fun i h st b hb => by
    have e : b = it := by simpa using hb
    subst e
    obtain ⟨o, e, c, d⟩ := st
    exact ⟨o, e, fun v z => by rw [d] at z; cases z⟩
  keep := fun i h h' st k => st.at fun o e => k it (by simp) o e
  item := by
    intro X hP hw hK hc i pins s σ H E I hf st hg
    subst hP hw hK
    obtain ⟨xs, x, hq, hx⟩ := hg
    obtain ⟨its, rv, p, hz⟩ := I.list hq
    obtain ⟨u, hu, ru⟩ := rv.get hx
    obtain ⟨f0, f1, f2, f3, f4, f5⟩ := hf it (by simp)
    refine wpAny_pyNext_list_item st p.isList (x := u) (by simpa using hu) fun h' st' sb => ?_
    have I1 : Inv X pins σ H { s with heap := h' } := I.turned (t' := s.toks) (fun b o hb e => (sb.2 b hb).trans e) f0 f1 f3 f4 f5
    obtain ⟨o, e, c, d⟩ := id st'
    exact ⟨u, rfl, go_of (s := { s with heap := h' }) e c d (by decide) ⟨x, H, I1, ru, ⟨rfl, fun ys hy => by rw [I.list_inj hy hq]; exact hx⟩, st', fun b hb => (hf b hb).1⟩⟩
  done := by
    intro X hP hw hK hc i pins s σ H E I hf st hg
    subst hP hw hK
    obtain ⟨xs, hq, hx⟩ := hg
    obtain ⟨its, rv, p, hz⟩ := I.list hq
    obtain ⟨f0, f1, f2, f3, f4, f5⟩ := hf it (by simp)
    have hl := rv.length
    exact wpAny_pyNext_list_end (I.ok.hd hc) st p.isList (by simp; omega) fun h' eb => ⟨rfl, I.turned (t' := s.toks) (fun b o hb e => eb b o hb e) f0 f1 f3 f4 f5⟩
  self := fun _ _ _ _ _ st h => wpAny_pyIter_listiter st h
theorem turn_tuple {P : Program} {w : World} {K : PySem.W.Frag} {tg : Expr} (a it : Addr) : Turn P w K tg (Itt K a) [it] it (fun i h => h.IsTupleIter it a i) where
  mem := by simp
  obj := fun i h st b hb => by
    have e : b = it := by simpa using hb
    subst e
    obtain ⟨o, e, c, d⟩ := st
    exact ⟨o, e, fun v z => by rw [d] at z; cases z⟩
  keep := fun i h h' st k => st.at fun o e => k it (by simp) o e
  item := by
    intro X hP hw hK hc i pins s σ H E I hf st hg
    subst hP hw hK
    obtain ⟨xs, x, hq, hx⟩ := hg
    obtain ⟨its, rv, p, hz⟩ := I.tuple hq
    obtain ⟨u, hu, ru⟩ := rv.get hx
    obtain ⟨f0, f1, f2, f3, f4, f5⟩ := hf it (by simp)
    refine wpAny_pyNext_tuple_item st (show s.heap.IsTuple a its.toArray from p) (x := u) (by simpa using hu) fun h' st' sb => ?_
    have I1 : Inv X pins σ H { s with heap := h' } := I.turned (t' := s.toks) (fun b o hb e => (sb.2 b hb).trans e) f0 f1 f3 f4 f5
    obtain ⟨o, e, c, d⟩ := id st'
    exact ⟨u, rfl, go_of (s := { s with heap := h' }) e c d (by decide) ⟨x, H, I1, ru, ⟨rfl, fun ys hy => by rw [I.tuple_inj hy hq]; exact hx⟩, st', fun b hb => (hf b hb).1⟩⟩
  done := by
    intro X hP hw hK hc i pins s σ H E I hf st hg
    subst hP hw hK
    obtain ⟨xs, hq, hx⟩ := hg
    obtain ⟨its, rv, p, hz⟩ := I.tuple hq
    obtain ⟨f0, f1, f2, f3, f4, f5⟩ := hf it (by simp)
    have hl := rv.length
    exact wpAny_pyNext_tuple_end (I.ok.hd hc) st (show s.heap.IsTuple a its.toArray from p) (by simp; omega) fun h' eb => ⟨rfl, I.turned (t' := s.toks) (fun b o hb e => eb b o hb e) f0 f1 f3 f4 f5⟩
  self := fun _ _ _ _ _ st h => wpAny_pyIter_tupleiter st h
theorem turn_range {P : Program} {w : World} {K : PySem.W.Frag} {tg : Expr} (it : Addr) (lo : Int) (n : Nat) : Turn P w K tg (Itr lo n) [it] it (fun i h => IsRangeIter h it (lo + (i : Nat) * 1) ((n : Int) - (i : Nat)) 1) where
  mem := by simp
  obj := fun i h st b hb => by
    have e : b = it := by simpa using hb
    subst e
    exact ⟨_, st, fun v z => by
      have z' : Data.fields _ = Data.cell v := z
      cases z'⟩
  keep := fun i h h' st k => k it (by simp) _ st
  item := by
    intro X hP hw hK hc i pins s σ H E I hf st hg
    subst hP hw hK
    obtain ⟨f0, f1, f2, f3, f4, f5⟩ := hf it (by simp)
    have W := Walks.range (prog := X.prog) (w := X.w) (I.ok.hd hc) it lo 1 n
    refine W.item i s _ _ hg st fun v h' tk hv st' kk => ?_
    obtain ⟨t, rfl⟩ := hv
    have I1 : Inv X pins σ H { s with heap := h', toks := tk } := I.turned (fun b o hb e => kk b o (by simpa using hb) e) f0 f1 f3 f4 f5
    refine ⟨_, rfl, go_of (s := { s with heap := h', toks := tk }) (n := "range_iterator") st' rfl rfl (by decide) ⟨.int (lo + i), H, I1, ⟨t, ?_⟩, ⟨rfl, rfl⟩, st', fun b hb => (hf b hb).1⟩⟩
    rw [Int.mul_one]
  done := by
    intro X hP hw hK hc i pins s σ H E I hf st hg
    subst hP hw hK
    obtain ⟨f0, f1, f2, f3, f4, f5⟩ := hf it (by simp)
    exact wpAny_pyNext_range_end (I.ok.hd hc) st (by have : n ≤ i := hg; omega) fun h' eb => ⟨rfl, I.turned (t' := s.toks) (fun b o hb e => eb b o hb e) f0 f1 f3 f4 f5⟩
  self := fun _ _ _ _ _ st h => wpAny_pyIter_rangeiter st h
end L2

namespace L2
open PySem PySem.Spec PyProof.Rows
section
variable {X : Cx} {tg : Expr}
/-- a range object just made, walked -/
theorem range_it {pins : List (Addr × Obj)} {σ : St} {H : Hp} {s : Shared} {R : It → Hp → Prop} {E : Value → Shared → Prop} {lo hi : Int} {t u v : Tok} {tk : Nat} (I : Inv X pins σ H s) (h1 : -(2 ^ 62) ≤ lo) (h2 : lo < 2 ^ 62) (h3 : -(2 ^ 62) ≤ hi) (h4 : hi < 2 ^ 62)
    (q : R (Itr lo (hi - lo).toNat) H) : wpAny (model X.prog X.w) X.A (pyIter (.ref s.heap.objs.size)) (PIE X pins σ tg R) E { s with heap := s.heap.push { cls := .type "range", data := .fields #[.int lo t, .int hi u, .int 1 v] }, toks := tk } := by
  refine wpAny_pyIter_range (IsRange.new ..) (small_one h1 h2 h3 h4) ?_
  have I1 : Inv X pins σ H { s with heap := s.heap.push { cls := .type "range", data := .fields #[.int lo t, .int hi u, .int 1 v] }, toks := tk } := I.kept fun b o e => Heap.get?_push_of_some _ e
  refine ⟨(s.heap.push { cls := .type "range", data := .fields #[.int lo t, .int hi u, .int 1 v] }).objs.size, [(s.heap.push { cls := .type "range", data := .fields #[.int lo t, .int hi u, .int 1 v] }).objs.size], _, _, H, rfl,
    I1.kept (t' := tk) fun b o e => Heap.get?_push_of_some _ e, turn_range _ lo (hi - lo).toNat, ?_, fun b hb => ?_, q⟩
  · have e1 : lo + ((0 : Nat) : Int) * 1 = lo := by simp
    have e2 : (((hi - lo).toNat : Nat) : Int) - ((0 : Nat) : Int) = Builtin.Range.rangeSize lo hi 1 := by rw [rangeSize_one]; split <;> omega
    show IsRangeIter _ _ (lo + ((0 : Nat) : Int) * 1) ((((hi - lo).toNat : Nat) : Int) - ((0 : Nat) : Int)) 1
    rw [e1, e2]
    exact Heap.get?_push_size _ rfl
  · have e : b = (s.heap.push { cls := .type "range", data := .fields #[.int lo t, .int hi u, .int 1 v] }).objs.size := by simpa using hb
    subst e
    exact I1.fpOk (Nat.le_refl _) (I1.hok.fresh (Nat.le_refl _))

/-- W: the invariant by the turn and a measure; N: what the body is to reach -/
def tFor (wi : TI) (g : TG) (tb : TS) : TS := fun D σ H => wi σ H fun J H1 => ∃ W : Nat → Nat → St → Hp → Prop, (∃ m, W 0 m σ H1) ∧ ∀ i m σ H, W i m σ H →
  (J.stop i H ∧ D.nx σ H) ∨ (J.go i H ∧ ∃ N : St → Hp → Prop, (∀ σ' H', N σ' H' → ∃ m', m' < m ∧ W (i + 1) m' σ' H') ∧ ∀ x H', J.yld i H x H' → g x σ H' fun σ2 H2 => tb { D with nx := N, ct := N, bk := D.nx } σ2 H2)
/-- the records at fp as they stand -/
def pinsAt (fp : List Addr) (h : Heap) : List (Addr × Obj) := fp.filterMap fun b => (h.get? b).map fun o => (b, o)
theorem mem_pinsAt {fp : List Addr} {h : Heap} {b : Addr} {o : Obj} (hb : b ∈ fp) (e : h.get? b = some o) : (b, o) ∈ pinsAt fp h := List.mem_filterMap.mpr ⟨b, hb, by rw [e]; rfl⟩
theorem of_pinsAt {fp : List Addr} {h : Heap} {p : Addr × Obj} (hp : p ∈ pinsAt fp h) : p.1 ∈ fp ∧ h.get? p.1 = some p.2 := by
  obtain ⟨b, hb, e⟩ := List.mem_filterMap.mp hp
  cases q : h.get? b with
  | none => rw [q] at e; cases e
  | some o =>
    rw [q] at e
    have e' : (b, o) = p := Option.some.inj e
    subst e'
    exact ⟨hb, q⟩
theorem Inv.pinned {pins : List (Addr × Obj)} {σ : St} {H : Hp} {s : Shared} {fp : List Addr} (I : Inv X pins σ H s) (hf : ∀ b ∈ fp, FpOk X pins H b) (ho : ∀ b ∈ fp, ∃ o, s.heap.get? b = some o ∧ ∀ v, o.data ≠ .cell v) : Inv X (pins ++ pinsAt fp s.heap) σ H s :=
  I.pins_of fun p hp => (List.mem_append.mp hp).elim (fun z => I.pin p (List.mem_append_right _ z)) fun z => by
    obtain ⟨hb, e⟩ := of_pinsAt z
    obtain ⟨f0, f1, f2, _⟩ := hf p.1 hb
    obtain ⟨o, e', d⟩ := ho p.1 hb
    rw [e] at e'; cases e'
    exact ⟨e, f0, f1, f2, d⟩
theorem Inv.unpinned {pins pl : List (Addr × Obj)} {σ : St} {H : Hp} {s : Shared} (I : Inv X (pins ++ pl) σ H s) : Inv X pins σ H s := I.pins_of fun p hp => I.pin p (List.mem_append_right _ (List.mem_append_left _ hp))
theorem ps_for {iter : Expr} {body : List Stmt} {wi : TI} {g : TG} {tb : TS} {pos : Pos} (hp : PassesOwn (model X.prog X.w) X.A X.env X.xe) (hc : X.calm = true) (hi : PI X tg iter wi) (hg : PG X tg g) (hb : PSs X body tb)
    (hs : ∀ x, foldedSetIterable iter X.env x = pure x := by intro _; rfl) : PS X (.For tg iter body [] pos) (tFor wi g tb) := by
  intro pins s σ H D I h
  refine wpAny_For (thn (hi pins s σ H _ I h) fun v s1 h1 => thn h1 fun itv s2 h2 => ?_) hs
  obtain ⟨it, fp, tn, J, H2, e, I2, T, st2, f2, W, ⟨m0, w0⟩, turn⟩ := h2
  subst e
  -- what stays true of the iterator's objects through the loop
  have stat : ∀ {H' : Hp}, (∀ b ∈ fp, H' b = none) → ∀ b ∈ fp, FpOk X pins H' b := fun hn b hb => ⟨hn b hb, (f2 b hb).2⟩
  refine codeAny_forLoop_any (fun n s' => ∃ i σ' H', Inv X pins σ' H' s' ∧ tn i s'.heap ∧ (∀ b ∈ fp, H' b = none) ∧ W i n σ' H') ?_ m0 ⟨0, σ, H2, I2, st2, fun b hb => (f2 b hb).1, w0⟩
  rintro n s3 ⟨i, σ3, H3, I3, st3, fr3, w3⟩
  rcases turn i n σ3 H3 w3 with ⟨stop, qn⟩ | ⟨go, N, hN, step⟩
  · refine wpAny_passesOwn hp (thn (T.done X rfl rfl rfl hc i pins s3 σ3 H3 X.xe I3 (stat fr3) st3 stop) fun r s4 ⟨hr, I4⟩ => ?_)
    subst hr
    exact wpAny_execs_nil ⟨σ3, H3, I4, qn⟩
  · refine wpAny_passesOwn hp (thn (T.item X rfl rfl rfl hc i pins s3 σ3 H3 X.xe I3 (stat fr3) st3 go) fun r s4 ⟨u, hr, h4⟩ => ?_)
    subst hr
    refine wpAny_passesOwn hp (thn h4 fun _ s5 ⟨x, H5, I5, r5, y5, st5, fr5⟩ => ?_)
    have I5' := I5.pinned (stat fr5) (T.obj _ _ st5)
    refine wpAny_passesOwn hp (thn (hg _ s5 σ3 H5 x u _ I5' r5 (step x H5 y5)) fun _ s6 ⟨σ6, H6, I6, q6⟩ => ?_)
    refine wpAny_passesOwn hp (thn (hb _ s6 σ6 H6 _ I6 q6) fun f s7 q7 => ?_)
    have again : ∀ {σ7 : St} {H7 : Hp}, Inv X (pins ++ pinsAt fp s5.heap) σ7 H7 s7 → N σ7 H7 → ∃ m, m < n ∧ ∃ i σ' H', Inv X pins σ' H' s7 ∧ tn i s7.heap ∧ (∀ b ∈ fp, H' b = none) ∧ W i m σ' H' := fun {σ7 H7} I7 n7 => by
      obtain ⟨m', hm, w7⟩ := hN σ7 H7 n7
      refine ⟨m', hm, i + 1, σ7, H7, I7.unpinned, T.keep _ _ _ st5 fun b hb o e => (I7.pin (b, o) (List.mem_append_right _ (List.mem_append_right _ (mem_pinsAt hb e)))).1, fun b hb => ?_, w7⟩
      obtain ⟨o, e, d⟩ := T.obj _ _ st5 b hb
      exact (I7.pin (b, o) (List.mem_append_right _ (List.mem_append_right _ (mem_pinsAt hb e)))).2.1
    cases f with
    | next => obtain ⟨σ7, H7, I7, n7⟩ := q7; exact again I7 n7
    | cont => obtain ⟨σ7, H7, I7, n7⟩ := q7; exact again I7 n7
    | brk => obtain ⟨σ7, H7, I7, q7⟩ := q7; exact ⟨σ7, H7, I7.unpinned, q7⟩
    | ret v => obtain ⟨x7, σ7, H7, I7, r7, q7⟩ := q7; exact ⟨x7, σ7, H7, I7.unpinned, r7, q7⟩
end

end L2

namespace L2
open PySem PySem.Spec PyProof.Rows

abbrev R2 := V → V → Hp → VK → Prop
/-- a two-place operation on values: f is binaryOp op, inplaceOp op or compareOp op -/
def OpR (X : Cx) (f : Value → Value → Sem Value) (r : R2) : Prop :=
  ∀ (pins : List (Addr × Obj)) (s : Shared) (σ : St) (H : Hp) (x y : V) (v u : Value) (Q : VK), Inv X pins σ H s → RelV x v → RelV y u → r x y H Q →
    wpAny (model X.prog X.w) X.A (f v u) (EP X pins σ Q) X.xe s
/-- a one-place operation -/
def UnR (X : Cx) (f : Value → Sem Value) (r : V → Hp → VK → Prop) : Prop :=
  ∀ (pins : List (Addr × Obj)) (s : Shared) (σ : St) (H : Hp) (x : V) (v : Value) (Q : VK), Inv X pins σ H s → RelV x v → r x H Q →
    wpAny (model X.prog X.w) X.A (f v) (EP X pins σ Q) X.xe s
/-- a call of a value that is known (a builtin, a type) with values -/
def CallR (X : Cx) (f : Value) (r : List V → Hp → VK → Prop) : Prop :=
  ∀ (pins : List (Addr × Obj)) (s : Shared) (σ : St) (H : Hp) (xs : List V) (us : List Value) (Q : VK), Inv X pins σ H s → Vals xs us → r xs H Q →
    wpAny (model X.prog X.w) X.A (call f us) (EP X pins σ Q) X.xe s
/-- a value's truth -/
def TruR (X : Cx) (r : V → Hp → (Bool → Hp → Prop) → Prop) : Prop :=
  ∀ (pins : List (Addr × Obj)) (s : Shared) (σ : St) (H : Hp) (x : V) (v : Value) (Q : Bool → Hp → Prop), Inv X pins σ H s → RelV x v → r x H Q →
    wpAny (model X.prog X.w) X.A (truthy v) (TP X pins σ Q) X.xe s

def tOp (r : R2) (ta tb : TE) : TE := fun σ H Q => ta σ H fun x H1 => tb σ H1 fun y H2 => r x y H2 Q
def tUn (r : V → Hp → VK → Prop) (ta : TE) : TE := fun σ H Q => ta σ H fun x H1 => r x H1 Q
/-- ints in, under C, and a value out -/
def rI (C : Int → Int → Prop) (g : Int → Int → V) : R2 := fun x y H Q => ∃ i j, x = .int i ∧ y = .int j ∧ C i j ∧ Q (g i j) H
def rI0 (g : Int → Int → V) : R2 := fun x y H Q => ∃ i j, x = .int i ∧ y = .int j ∧ Q (g i j) H
def rU (g : Int → V) : V → Hp → VK → Prop := fun x H Q => ∃ i, x = .int i ∧ Q (g i) H

section
variable {X : Cx} {a b c : Expr} {ta tb tc : TE} {pos : Pos}

theorem binT (ha : PE X a ta) (hb : PE X b tb) {pins : List (Addr × Obj)} {s : Shared} {σ : St} {H : Hp} {R : V → V → Hp → Prop} (I : Inv X pins σ H s)
    (h : ta σ H fun x H1 => tb σ H1 fun y H2 => R x y H2) {Q : Value → Shared → Prop} {f : Value → Value → Sem Value}
    (hf : ∀ v u s2 x y H2, Inv X pins σ H2 s2 → RelV x v → RelV y u → R x y H2 → wpAny (model X.prog X.w) X.A (f v u) Q X.xe s2) :
    wpAny (model X.prog X.w) X.A (eval a X.env) (fun v s₁ => wpAny (model X.prog X.w) X.A (eval b X.env) (fun u s₂ => wpAny (model X.prog X.w) X.A (f v u) Q X.xe s₂) X.xe s₁) X.xe s := by
  refine thn (ha pins s σ H _ I h) fun v s1 ⟨x, H1, I1, r1, q1⟩ => ?_
  refine thn (hb pins s1 σ H1 _ I1 q1) fun u s2 ⟨y, H2, I2, r2, q2⟩ => ?_
  exact hf v u s2 x y H2 I2 r1 r2 q2

theorem pe_op {op : Operator} {r : R2} (ho : OpR X (binaryOp op) r) (ha : PE X a ta) (hb : PE X b tb) : PE X (.BinOp a op b pos) (tOp r ta tb) := by
  intro pins s σ H Q I h
  exact wpAny_BinOp (binT ha hb I h fun v u s2 x y H2 I2 rx ry q => ho pins s2 σ H2 x y v u Q I2 rx ry q)
theorem pe_un {op : UnaryOp} {r : V → Hp → VK → Prop} (ho : UnR X (unaryOp op) r) (ha : PE X a ta) : PE X (.UnaryOp op a pos) (tUn r ta) := by
  intro pins s σ H Q I h
  exact UnaryOp_ (thn (ha pins s σ H _ I h) fun v s1 ⟨x, H1, I1, r1, q1⟩ => ho pins s1 σ H1 x v Q I1 r1 q1)

theorem opI {f : Value → Value → Sem Value} {C : Int → Int → Prop} {g : Int → Int → Int}
    (rule : ∀ (i j : Int) (t u : Tok) (s : Shared) (Q : Value → Shared → Prop) (E : Value → Shared → Prop), C i j → Q (.int (g i j) s.toks) { s with toks := s.toks + 1 } → wpAny (model X.prog X.w) X.A (f (.int i t) (.int j u)) Q E s) :
    OpR X f (rI C fun i j => .int (g i j)) := by
  intro pins s σ H x y v u Q I rx ry h
  obtain ⟨i, j, rfl, rfl, hc, q⟩ := h
  obtain ⟨t, rfl⟩ := rx
  obtain ⟨t', rfl⟩ := ry
  exact rule i j t t' s _ _ hc ⟨.int (g i j), H, I.tok _, ⟨_, rfl⟩, q⟩
theorem opI0 {f : Value → Value → Sem Value} {g : Int → Int → Int}
    (rule : ∀ (i j : Int) (t u : Tok) (s : Shared) (Q : Value → Shared → Prop) (E : Value → Shared → Prop), Q (.int (g i j) s.toks) { s with toks := s.toks + 1 } → wpAny (model X.prog X.w) X.A (f (.int i t) (.int j u)) Q E s) :
    OpR X f (rI0 fun i j => .int (g i j)) := by
  intro pins s σ H x y v u Q I rx ry h
  obtain ⟨i, j, rfl, rfl, q⟩ := h
  obtain ⟨t, rfl⟩ := rx
  obtain ⟨t', rfl⟩ := ry
  exact rule i j t t' s _ _ ⟨.int (g i j), H, I.tok _, ⟨_, rfl⟩, q⟩
theorem opB0 {f : Value → Value → Sem Value} {g : Int → Int → Bool}
    (rule : ∀ (i j : Int) (t u : Tok) (s : Shared) (Q : Value → Shared → Prop) (E : Value → Shared → Prop), Q (.bool (g i j)) s → wpAny (model X.prog X.w) X.A (f (.int i t) (.int j u)) Q E s) :
    OpR X f (rI0 fun i j => .bl (g i j)) := by
  intro pins s σ H x y v u Q I rx ry h
  obtain ⟨i, j, rfl, rfl, q⟩ := h
  obtain ⟨t, rfl⟩ := rx
  obtain ⟨t', rfl⟩ := ry
  exact rule i j t t' s _ _ ⟨.bl (g i j), H, I, rfl, q⟩

def CDiv (i j : Int) : Prop := 0 < j ∧ j < 1073741824
def CPow (i j : Int) : Prop := 0 ≤ j ∧ j ≤ 1000000 ∧ i.natAbs < 2 ^ 64
def CMul (i j : Int) : Prop := (-(2 ^ 64) < i ∧ i < 2 ^ 64) ∨ (-(2 ^ 64) < j ∧ j < 2 ^ 64)
theorem CMul.ok {i j : Int} (h : CMul i j) : IntMulOk i j := by
  rcases h with ⟨h1, h2⟩ | ⟨h1, h2⟩
  · exact .of_left (intBits_le_64 h1 h2)
  · exact .of_right (intBits_le_64 h1 h2)
theorem two_pow_nn (k : Nat) : (0 : Int) ≤ 2 ^ k := by
  rw [two_pow_cast]
  exact Int.natCast_nonneg _

theorem op_add : OpR X (binaryOp .Add) (rI0 fun i j => .int (i + j)) := opI0 fun _ _ _ _ _ _ _ q => add_int q
theorem op_sub : OpR X (binaryOp .Sub) (rI0 fun i j => .int (i - j)) := opI0 fun _ _ _ _ _ _ _ q => sub_int q
theorem op_mul : OpR X (binaryOp .Mult) (rI CMul fun i j => .int (i * j)) := opI fun _ _ _ _ _ _ _ hc q => mul_int q hc.ok
/-- // by a positive divisor -/
theorem op_fdiv : OpR X (binaryOp .FloorDiv) (rI CDiv fun i j => .int (i / j)) := opI fun i j _ _ _ _ _ hc q => by
  have h1 : (0 : Int) < j := hc.1
  have h2 : j < 1073741824 := hc.2
  exact floordiv_int (by omega) (by rw [Int.fdiv_eq_ediv_of_nonneg i (by omega)]; exact q) (.inl (PyProof.noPylong_small (by omega)))
/-- % by a positive divisor of any size -/
theorem op_mod : OpR X (binaryOp .Mod) (rI (fun _ j => 0 < j) fun i j => .int (i % j)) := opI fun i j _ _ _ _ _ hc q => by
  have h1 : (0 : Int) < j := hc
  exact mod_int' (by omega) (by rw [Int.fmod_eq_emod_of_nonneg i (by omega)]; exact q)
theorem op_pow : OpR X (binaryOp .Pow) (rI CPow fun i j => .int (i ^ j.toNat)) := opI fun _ _ _ _ _ _ _ hc q => pow_int_small hc.1 hc.2.1 hc.2.2 q
theorem op_shl : OpR X (binaryOp .LShift) (rI CPow fun i j => .int (i * 2 ^ j.toNat)) := opI fun _ _ _ _ _ _ _ hc q => lshift_int_small hc.1 hc.2.1 hc.2.2 q
theorem op_shr : OpR X (binaryOp .RShift) (rI (fun _ j => 0 ≤ j) fun i j => .int (i / 2 ^ j.toNat)) := opI fun i j _ _ _ _ _ hc q =>
  rshift_int hc (by rw [Int.fdiv_eq_ediv_of_nonneg i (two_pow_nn _)]; exact q)
theorem op_and : OpR X (binaryOp .BitAnd) (rI0 fun i j => .int (Builtin.bitAnd i j)) := opI0 fun _ _ _ _ _ _ _ q => and_int q
theorem op_or : OpR X (binaryOp .BitOr) (rI0 fun i j => .int (Builtin.bitOr i j)) := opI0 fun _ _ _ _ _ _ _ q => or_int q
theorem op_xor : OpR X (binaryOp .BitXor) (rI0 fun i j => .int (Builtin.bitXor i j)) := opI0 fun _ _ _ _ _ _ _ q => xor_int q

theorem unI {f : Value → Sem Value} {g : Int → Int}
    (rule : ∀ (i : Int) (t : Tok) (s : Shared) (Q : Value → Shared → Prop) (E : Value → Shared → Prop), Q (.int (g i) s.toks) { s with toks := s.toks + 1 } → wpAny (model X.prog X.w) X.A (f (.int i t)) Q E s) :
    UnR X f (rU fun i => .int (g i)) := by
  intro pins s σ H x v Q I rx h
  obtain ⟨i, rfl, q⟩ := h
  obtain ⟨t, rfl⟩ := rx
  exact rule i t s _ _ ⟨.int (g i), H, I.tok _, ⟨_, rfl⟩, q⟩
theorem un_neg : UnR X (unaryOp .USub) (rU fun i => .int (-i)) := unI fun _ _ _ _ _ q => neg_int q

end

/-- the scalars that == tells apart as data does -/
def scal : V → V → Bool
  | .non, .non => true | .non, .int _ => true | .int _, .non => true | .non, .bl _ => true | .bl _, .non => true | .non, .str _ => true | .str _, .non => true
  | .int _, .int _ => true | .bl _, .bl _ => true | .str _, .str _ => true | .byt _, .byt _ => true
  | .int _, .str _ => true | .str _, .int _ => true | .bl _, .str _ => true | .str _, .bl _ => true
  | _, _ => false
def rEq : R2 := fun x y H Q => scal x y = true ∧ Q (.bl (decide (x = y))) H
def rNe : R2 := fun x y H Q => scal x y = true ∧ Q (.bl (!decide (x = y))) H

theorem dec_int {i j : Int} : decide (V.int i = V.int j) = (i == j) := by
  rw [Bool.eq_iff_iff]
  simp
theorem dec_bl {i j : Bool} : decide (V.bl i = V.bl j) = (i == j) := by
  rw [Bool.eq_iff_iff]
  simp
theorem dec_str {i j : Str} : decide (V.str i = V.str j) = (i == j) := by
  rw [Bool.eq_iff_iff]
  simp
theorem dec_byt {i j : Array UInt8} : decide (V.byt i = V.byt j) = (i.toList == j.toList) := by
  rw [Bool.eq_iff_iff]
  cases i
  cases j
  simp

section
variable {X : Cx} {a b c : Expr} {ta tb tc : TE} {pos : Pos}
theorem fin_bl {pins : List (Addr × Obj)} {σ : St} {H : Hp} {s : Shared} {Q : VK} {k k' : Bool} (I : Inv X pins σ H s) (q : Q (.bl k) H) (e : k = k') : EP X pins σ Q (.bool k') s := by
  subst e
  exact ⟨.bl k, H, I, rfl, q⟩
theorem op_eq : OpR X (compareOp .Eq) rEq := by
  intro pins s σ H x y v u Q I rx ry h
  obtain ⟨hs, q⟩ := h
  cases x with
  | non =>
    cases rx
    cases y with
    | non => cases ry; exact PySem.EqNone.eq_none_none (fin_bl I q (by simp))
    | bl j => cases ry; exact PySem.EqNone.eq_none_bool (fin_bl I q (by simp))
    | int j => obtain ⟨t', rfl⟩ := ry; exact PySem.EqNone.eq_none_int (fin_bl I q (by simp))
    | str j => obtain ⟨t', rfl⟩ := ry; exact PySem.EqNone.eq_none_str (fin_bl I q (by simp))
    | _ => exact absurd (show false = true from hs) Bool.false_ne_true
  | bl i =>
    cases rx
    cases y with
    | non => cases ry; exact PySem.EqNone.eq_bool_none (fin_bl I q (by simp))
    | bl j => cases ry; exact eq_bool (fin_bl I q dec_bl)
    | str j => obtain ⟨t', rfl⟩ := ry; exact PySem.EqMixed.eq_bool_str (fin_bl I q (by simp))
    | _ => exact absurd (show false = true from hs) Bool.false_ne_true
  | int i =>
    obtain ⟨t, rfl⟩ := rx
    cases y with
    | non => cases ry; exact PySem.EqNone.eq_int_none (fin_bl I q (by simp))
    | int j => obtain ⟨t', rfl⟩ := ry; exact eq_int (fin_bl I q dec_int)
    | str j => obtain ⟨t', rfl⟩ := ry; exact PySem.EqMixed.eq_int_str (fin_bl I q (by simp))
    | _ => exact absurd (show false = true from hs) Bool.false_ne_true
  | str i =>
    obtain ⟨t, rfl⟩ := rx
    cases y with
    | non => cases ry; exact PySem.EqNone.eq_str_none (fin_bl I q (by simp))
    | bl j => cases ry; exact PySem.EqMixed.eq_str_bool (fin_bl I q (by simp))
    | int j => obtain ⟨t', rfl⟩ := ry; exact PySem.EqMixed.eq_str_int (fin_bl I q (by simp))
    | str j => obtain ⟨t', rfl⟩ := ry; exact eq_str (fin_bl I q dec_str)
    | _ => exact absurd (show false = true from hs) Bool.false_ne_true
  | byt i =>
    obtain ⟨t, rfl⟩ := rx
    cases y with
    | byt j => obtain ⟨t', rfl⟩ := ry; exact PySem.W.eq_bytes (fin_bl I q dec_byt)
    | _ => exact absurd (show false = true from hs) Bool.false_ne_true
  | _ => cases y <;> exact absurd (show false = true from hs) Bool.false_ne_true
theorem op_ne : OpR X (compareOp .NotEq) rNe := by
  intro pins s σ H x y v u Q I rx ry h
  obtain ⟨hs, q⟩ := h
  cases x with
  | non =>
    cases rx
    cases y with
    | non => cases ry; exact PySem.EqNone.ne_none_none (fin_bl I q (by simp))
    | bl j => cases ry; exact PySem.EqNone.ne_none_bool (fin_bl I q (by simp))
    | int j => obtain ⟨t', rfl⟩ := ry; exact PySem.EqNone.ne_none_int (fin_bl I q (by simp))
    | str j => obtain ⟨t', rfl⟩ := ry; exact PySem.EqNone.ne_none_str (fin_bl I q (by simp))
    | _ => exact absurd (show false = true from hs) Bool.false_ne_true
  | bl i =>
    cases rx
    cases y with
    | non => cases ry; exact PySem.EqNone.ne_bool_none (fin_bl I q (by simp))
    | bl j => cases ry; exact ne_bool (fin_bl I q (congrArg not dec_bl))
    | str j => obtain ⟨t', rfl⟩ := ry; exact PySem.EqMixed.ne_bool_str (fin_bl I q (by simp))
    | _ => exact absurd (show false = true from hs) Bool.false_ne_true
  | int i =>
    obtain ⟨t, rfl⟩ := rx
    cases y with
    | non => cases ry; exact PySem.EqNone.ne_int_none (fin_bl I q (by simp))
    | int j => obtain ⟨t', rfl⟩ := ry; exact ne_int (fin_bl I q (congrArg not dec_int))
    | str j => obtain ⟨t', rfl⟩ := ry; exact PySem.EqMixed.ne_int_str (fin_bl I q (by simp))
    | _ => exact absurd (show false = true from hs) Bool.false_ne_true
  | str i =>
    obtain ⟨t, rfl⟩ := rx
    cases y with
    | non => cases ry; exact PySem.EqNone.ne_str_none (fin_bl I q (by simp))
    | bl j => cases ry; exact PySem.EqMixed.ne_str_bool (fin_bl I q (by simp))
    | int j => obtain ⟨t', rfl⟩ := ry; exact PySem.EqMixed.ne_str_int (fin_bl I q (by simp))
    | str j => obtain ⟨t', rfl⟩ := ry; exact ne_str (fin_bl I q (congrArg not dec_str))
    | _ => exact absurd (show false = true from hs) Bool.false_ne_true
  | byt i =>
    obtain ⟨t, rfl⟩ := rx
    cases y with
    | byt j => obtain ⟨t', rfl⟩ := ry; exact PySem.W.ne_bytes (fin_bl I q (congrArg not dec_byt))
    | _ => exact absurd (show false = true from hs) Bool.false_ne_true
  | _ => cases y <;> exact absurd (show false = true from hs) Bool.false_ne_true

theorem op_lt : OpR X (compareOp .Lt) (rI0 fun i j => .bl (decide (i < j))) := opB0 fun _ _ _ _ _ _ _ q => lt_int q
theorem op_le : OpR X (compareOp .LtE) (rI0 fun i j => .bl (decide (i ≤ j))) := opB0 fun _ _ _ _ _ _ _ q => le_int q
theorem op_gt : OpR X (compareOp .Gt) (rI0 fun i j => .bl (decide (j < i))) := opB0 fun _ _ _ _ _ _ _ q => gt_int q
theorem op_ge : OpR X (compareOp .GtE) (rI0 fun i j => .bl (decide (j ≤ i))) := opB0 fun _ _ _ _ _ _ _ q => ge_int q
theorem op_lt_str : OpR X (compareOp .Lt) (fun x y H Q => ∃ i j, x = .str i ∧ y = .str j ∧ Q (.bl (decide (i.cps.toList < j.cps.toList))) H) := by
  intro pins s σ H x y v u Q I rx ry h
  obtain ⟨i, j, rfl, rfl, q⟩ := h
  obtain ⟨t, rfl⟩ := rx
  obtain ⟨t', rfl⟩ := ry
  exact lt_str (fin_bl I q rfl)
/-- the one string within the other -/
theorem op_in_str : OpR X (compareOp .In) (fun x y H Q => ∃ i j, x = .str i ∧ y = .str j ∧ Q (.bl (!(Builtin.Str.occurrences j i 0 j.length 1).isEmpty)) H) := by
  intro pins s σ H x y v u Q I rx ry h
  obtain ⟨i, j, rfl, rfl, q⟩ := h
  obtain ⟨t, rfl⟩ := rx
  obtain ⟨t', rfl⟩ := ry
  exact in_str (fin_bl I q rfl)

/-- is None, is not None: the right side a value none -/
theorem op_isN : OpR X (compareOp .Is) (fun x y H Q => y = .non ∧ Q (.bl (decide (x = .non))) H) := by
  intro pins s σ H x y v u Q I rx ry h
  obtain ⟨rfl, q⟩ := h
  cases ry
  refine is_none_gen (fin_bl I q ?_)
  cases x <;> first
    | (cases rx; rfl)
    | (obtain ⟨t, rfl⟩ := rx; rfl)
theorem op_notN : OpR X (compareOp .IsNot) (fun x y H Q => y = .non ∧ Q (.bl (!decide (x = .non))) H) := by
  intro pins s σ H x y v u Q I rx ry h
  obtain ⟨rfl, q⟩ := h
  cases ry
  refine isnot_none_gen (fin_bl I q ?_)
  cases x <;> first
    | (cases rx; rfl)
    | (obtain ⟨t, rfl⟩ := rx; rfl)

theorem op_notin_str : OpR X (compareOp .NotIn) (fun x y H Q => ∃ i j, x = .str i ∧ y = .str j ∧ Q (.bl (!(!(Builtin.Str.occurrences j i 0 j.length 1).isEmpty))) H) := by
  intro pins s σ H x y v u Q I rx ry h
  obtain ⟨i, j, rfl, rfl, q⟩ := h
  obtain ⟨t, rfl⟩ := rx
  obtain ⟨t', rfl⟩ := ry
  exact notIn_str (fin_bl I q rfl)

/-- two rules for one operation: by cases -/
theorem OpR.or {f : Value → Value → Sem Value} {r r' : R2} (h : OpR X f r) (h' : OpR X f r') : OpR X f (fun x y H Q => r x y H Q ∨ r' x y H Q) := by
  intro pins s σ H x y v u Q I rx ry q
  rcases q with q | q
  · exact h pins s σ H x y v u Q I rx ry q
  · exact h' pins s σ H x y v u Q I rx ry q

/-- a comparison as a value; hm: nomark b, or (for in, not in) by with_unfolding_all rfl -/
theorem pe_cmpR {op : CmpOp} {r : R2} (ho : OpR X (compareOp op) r) (ha : PE X a ta) (hb : PE X b tb) (hm : behindInMarks op b = false) : PE X (.Compare a [op] [b] pos) (tOp r ta tb) := by
  intro pins s σ H Q I h
  exact wpAny_Compare1 (binT ha hb I h fun v u s2 x y H2 I2 rx ry q => ho pins s2 σ H2 x y v u Q I2 rx ry q) hm

/-- a value's truth by the abstract heap -/
def TruV (K : PySem.W.Frag) (x : V) (H : Hp) (k : Bool) : Prop :=
  match x with
  | .non => k = false
  | .bl b => k = b
  | .int i => k = (i != 0)
  | .str y => y.length ≤ sizeLine ∧ k = ((y.length : Int) != 0)
  | .byt y => y.size ≤ sizeLine ∧ k = ((y.size : Int) != 0)
  | .ref p => (∃ xs, SqL K H p xs ∧ k = !xs.isEmpty) ∨ (∃ xs, SqT K H p xs ∧ k = !xs.isEmpty) ∨ ∃ kvs, H p = some (.dK kvs) ∧ k = !kvs.isEmpty
  | _ => False
theorem isEmpty_kv {κ : Type} {kvs : List (κ × V)} {vs : List (κ × Value)} (r : KV kvs vs) : (!vs.isEmpty) = !kvs.isEmpty := by
  cases r <;> rfl
theorem isEmpty_of {xs : List V} {its : List Value} (r : Vals xs its) : (!its.toArray.isEmpty) = !xs.isEmpty := by
  cases r <;> simp
theorem line63 : (sizeLine : Nat) < 2 ^ 63 := by rw [sizeLine_eq]; decide
theorem tru_ok : TruR X (fun x H Q => ∃ k, TruV X.K x H k ∧ Q k H) := by
  intro pins s σ H x v Q I rx h
  obtain ⟨k, e, q⟩ := h
  have hl := line63
  have hs : sizeLine = 16777216 := sizeLine_eq
  cases x with
  | non =>
    cases rx
    have e' : k = false := e
    subst e'
    exact truthy_none ⟨H, I, q⟩
  | bl b =>
    cases rx
    have e' : k = b := e
    subst e'
    exact wpAny_truthy_bool ⟨H, I, q⟩
  | int i =>
    obtain ⟨t, rfl⟩ := rx
    have e' : k = (i != 0) := e
    subst e'
    exact PySem.P.truthy_int ⟨H, I, q⟩
  | str y =>
    obtain ⟨t, rfl⟩ := rx
    obtain ⟨hy, e'⟩ : y.length ≤ sizeLine ∧ k = ((y.length : Int) != 0) := e
    subst e'
    exact PySem.P.truthy_str (by omega) ⟨H, I.tok _, q⟩
  | byt y =>
    obtain ⟨t, rfl⟩ := rx
    obtain ⟨hy, e'⟩ : y.size ≤ sizeLine ∧ k = ((y.size : Int) != 0) := e
    subst e'
    exact PySem.W.truthy_bytes (by omega) ⟨H, I.tok _, q⟩
  | ref p =>
    cases rx
    have e' : (∃ xs, SqL X.K H p xs ∧ k = !xs.isEmpty) ∨ (∃ xs, SqT X.K H p xs ∧ k = !xs.isEmpty) ∨ ∃ kvs, H p = some (.dK kvs) ∧ k = !kvs.isEmpty := e
    rcases e' with ⟨xs, hx, e'⟩ | ⟨xs, hx, e'⟩ | ⟨kvs, hx, e'⟩
    · subst e'
      obtain ⟨its, r, pl, hz⟩ := I.list hx
      have hlen := r.length
      exact wpAny_truthy_list pl.isList (by simp only [List.size_toArray]; omega) ⟨H, I.tok _, by rw [isEmpty_of r]; exact q⟩
    · subst e'
      obtain ⟨its, r, pl, hz⟩ := I.tuple hx
      have hlen := r.length
      exact truthy_tuple pl (by simp only [List.size_toArray]; omega) ⟨H, I.tok _, by rw [isEmpty_of r]; exact q⟩
    · subst e'
      obtain ⟨hz, hS, vs, r, m⟩ : kvs.length ≤ sizeLine ∧ (p == sysModules) = false ∧ ∃ vs, KV kvs vs ∧ s.heap.DictOf (mixKind X.prog X.w) p vs := I.hok p _ hx
      have hlen : kvs.length = vs.length := Paired.length r
      exact wpAny_truthy_dict hS m (by omega) ⟨H, I.tok _, by rw [isEmpty_kv r]; exact q⟩
  | _ => exact (show False from e).elim

theorem op_add_str : OpR X (binaryOp .Add) (fun x y H Q => ∃ i j, x = .str i ∧ y = .str j ∧ i.length + j.length ≤ sizeLine ∧ Q (.str (i ++ j)) H) := by
  intro pins s σ H x y v u Q I rx ry h
  obtain ⟨i, j, rfl, rfl, hz, q⟩ := h
  obtain ⟨t, rfl⟩ := rx
  obtain ⟨t', rfl⟩ := ry
  exact add_str (fun t' tk => ⟨.str (i ++ j), H, I.tok _, ⟨_, rfl⟩, q⟩) hz

theorem vals1 {x : V} {us : List Value} (r : Vals [x] us) : ∃ u, us = [u] ∧ RelV x u := by
  cases r with
  | cons r1 r2 => cases r2; exact ⟨_, rfl, r1⟩
theorem vals2 {x y : V} {us : List Value} (r : Vals [x, y] us) : ∃ u w', us = [u, w'] ∧ RelV x u ∧ RelV y w' := by
  cases r with
  | cons r1 r2 =>
    cases r2 with
    | cons r3 r4 => cases r4; exact ⟨_, _, rfl, r1, r3⟩
theorem call_int1 : CallR X (.type "int") (fun xs H Q => (∃ i, xs = [.int i] ∧ Q (.int i) H) ∨ ∃ k, xs = [.bl k] ∧ Q (.int (if k then 1 else 0)) H) := by
  intro pins s σ H xs us Q I r h
  rcases h with ⟨i, rfl, q⟩ | ⟨k, rfl, q⟩
  · obtain ⟨u, rfl, t, rfl⟩ := vals1 r
    exact call_int_int ⟨.int i, H, I, ⟨_, rfl⟩, q⟩
  · obtain ⟨u, rfl, r1⟩ := vals1 r
    cases r1
    exact call_int_bool ⟨.int (if k then 1 else 0), H, I.tok _, ⟨_, rfl⟩, q⟩
theorem call_ord : CallR X (.builtin "ord") (fun xs H Q => ∃ x, xs = [.str x] ∧ x.length = 1 ∧ Q (.int (x.cps.getD 0 0 : Nat)) H) := by
  intro pins s σ H xs us Q I r h
  obtain ⟨x, rfl, hz, q⟩ := h
  obtain ⟨u, rfl, t, rfl⟩ := vals1 r
  exact ord_of_one hz ⟨.int _, H, I.tok _, ⟨_, rfl⟩, q⟩
end
end L2

namespace L2
open PySem PySem.Spec PyProof.Rows

structure ObjM (h : Heap) (x dx C : Addr) (mA : Str → Option Value) : Prop where
  obj : h.get? x = some (PySem.W.instObj C dx)
  ns : h.Ns1 dx mA
  ne : dx ≠ x

theorem lookIn_ns {h : Heap} {dx : Addr} {mA : Str → Option Value} (n : h.Ns1 dx mA) : ∃ od, h.get? dx = some od ∧ ∀ name, PySem.W.lookIn name od = some (mA name) := by
  obtain ⟨o, es, ep, ho, hd, hk, _, hm⟩ := n
  refine ⟨o, ho, fun name => ?_⟩
  have e := hm name
  unfold nsFind findBy at e
  rw [← Array.find?_toList] at e
  unfold PySem.W.lookIn
  rw [hd]
  dsimp only
  split
  · rename_i y q
    rw [q] at e
    exact congrArg some e
  · rename_i q
    rw [q] at e
    have a : es.toList.any (·.refKey) = false := by
      rw [List.any_eq_false]
      intro y hy
      obtain ⟨z, t, hkey⟩ := hk y (Array.mem_toList_iff.mp hy)
      simp [DictEntry.refKey, hkey]
    have a' : ¬ es.toList.any (·.refKey) = true := by rw [a]; exact Bool.false_ne_true
    rw [if_neg a']
    exact congrArg some e

theorem ObjM.look {h : Heap} {x dx C : Addr} {mA : Str → Option Value} (I : ObjM h x dx C mA) : ∃ od, PySem.W.InstAt h x (PySem.W.instObj C dx) C (some od) ∧ ∀ name, PySem.W.lookIn name od = some (mA name) :=
  let ⟨od, ho, hl⟩ := lookIn_ns I.ns
  ⟨od, ⟨I.obj, rfl, rfl, ho⟩, hl⟩

section
variable {prog : Program} {w : World} {A : Around} {E : Value → Shared → Prop} {s : Shared} {K : PySem.W.Frag} {x dx C f : Addr} {mA : Str → Option Value} {name : Str} {v : Value}

theorem get_map {expr : Bool} {Q : Value → Shared → Prop} (X : K.In s.heap) (I : ObjM s.heap x dx C mA) (hg : PySem.W.plainGet K C name = true) (hh : PySem.W.hasDictIn K C = true)
    (ha : PySem.W.findIn K (.ref C) name = some none) (hv : mA name = some v) (hv' : PySem.W.handedIn v = true) (h : Q v { s with toks := s.toks + 1 }) :
    wpAny (model prog w) A (getAttr (.ref x) name expr) Q E s := by
  obtain ⟨od, J, hl⟩ := I.look
  exact PySem.W.get_value X J (PySem.W.plainGet_of hg).1 (PySem.W.findObj_own hh ha rfl (by rw [hl, hv])) hv' h

theorem set_map {ns : List Str} {Q : Unit → Shared → Prop} (X : K.In s.heap) (I : ObjM s.heap x dx C mA)
    (hs : PySem.W.findIn K (.ref C) "__setattr__" = some (some (.builtin "object.__setattr__"))) (hp : PySem.W.plainOver K C = true) (ht : PySem.W.takerIn K C name = some none) (hh : PySem.W.hasDictIn K C = true)
    (hw : PySem.Within mA ns) (hsz : ns.length ≤ sizeLine)
    (h : ∀ h', ObjM h' x dx C (fun y => if y = name then some v else mA y) → Heap.SameBut dx s.heap h' → Q () { s with heap := h', toks := s.toks + 2 }) :
    wpAny (model prog w) A (setAttr (.ref x) name v) Q E s := by
  obtain ⟨od, J, hl⟩ := I.look
  refine PySem.W.set_plain X J hs (PySem.W.osa_open (s := { s with toks := s.toks + 1 }) (r := none) X J hp ht fun b => ?_)
  obtain ⟨cd, hc, hd'⟩ := PySem.W.any_some hh
  have hx : s.heap.get? x = some ⟨.ref C, some dx, .plain, #[]⟩ := I.obj
  refine wpAny_bind (wpAny_pure (wpAny_bind (wpAny_bind (wpAny_loadPart hx (wpAny_bind (PySem.W.Looks.here (s := { s with toks := s.toks + 1 }) (PySem.W.looks_clsIn X hc) ?_))))))
  rw [hd']
  refine wpAny_pure (a := some dx) (wpAny_bind (wpAny_pure (wpAny_bind ?_)))
  refine wpAny_nsSet1 (s := { s with toks := s.toks + 1 }) I.ns fun h' hn2 hs2 => ?_
  obtain ⟨oD, esD, epD, hoD, hdD, hcD⟩ := hn2.count (PySem.Within.cons name v hw)
  refine wpAny_bind (wpAny_lookBehind hoD (by rw [hdD]; exact pastItsLine_dict (Nat.le_trans hcD (by rw [List.length_cons]; omega))) ?_)
  exact wpAny_pure (h _ ⟨(hs2.2 _ (Ne.symm I.ne)).trans I.obj, hn2, I.ne⟩ hs2)

end

def putF (f : Str) (v : V) : List (Str × V) → List (Str × V)
  | [] => [(f, v)]
  | (g, x) :: r => if g = f then (g, v) :: r else (g, x) :: putF f v r
theorem lookup_putF (f g : Str) (v : V) : ∀ fs : List (Str × V), (putF f v fs).lookup g = if g = f then some v else fs.lookup g
  | [] => by
    show List.lookup g [(f, v)] = _
    by_cases h : g = f
    · have hb : (g == f) = true := beq_iff_eq.mpr h
      simp only [List.lookup, hb, if_pos h]
    · have hb : (g == f) = false := beq_eq_false_iff_ne.mpr h
      simp only [List.lookup, hb, if_neg h]
  | (k, x) :: r => by
    have ih := lookup_putF f g v r
    rw [show putF f v ((k, x) :: r) = (if k = f then (k, v) :: r else (k, x) :: putF f v r) from rfl]
    by_cases hk : k = f
    · rw [if_pos hk]
      by_cases h : g = k
      · have hb : (g == k) = true := beq_iff_eq.mpr h
        simp only [List.lookup, hb, if_pos (h.trans hk)]
      · have hb : (g == k) = false := beq_eq_false_iff_ne.mpr h
        simp only [List.lookup, hb, if_neg (fun e : g = f => h (e.trans hk.symm))]
    · rw [if_neg hk]
      by_cases h : g = k
      · have hb : (g == k) = true := beq_iff_eq.mpr h
        simp only [List.lookup, hb, if_neg (fun e : g = f => hk (h.symm.trans e))]
      · have hb : (g == k) = false := beq_eq_false_iff_ne.mpr h
        simp only [List.lookup, hb]
        exact ih
theorem keys_putF (f : Str) (v : V) : ∀ fs : List (Str × V), f ∈ (putF f v fs).map (·.1) ∧ ∀ g, g ∈ fs.map (·.1) → g ∈ (putF f v fs).map (·.1)
  | [] => ⟨by simp [putF], fun g h => by simp at h⟩
  | (k, x) :: r => by
    obtain ⟨i1, i2⟩ := keys_putF f v r
    rw [show putF f v ((k, x) :: r) = (if k = f then (k, v) :: r else (k, x) :: putF f v r) from rfl]
    by_cases hk : k = f
    · rw [if_pos hk]
      subst hk
      exact ⟨by simp, fun g h => by simpa using h⟩
    · rw [if_neg hk]
      refine ⟨?_, fun g h => ?_⟩
      · rw [List.map_cons]
        exact List.mem_cons_of_mem _ i1
      · rw [List.map_cons] at h ⊢
        rcases List.mem_cons.mp h with e | e
        · exact List.mem_cons.mpr (.inl e)
        · exact List.mem_cons_of_mem _ (i2 g e)
theorem length_putF (f : Str) (v : V) : ∀ fs : List (Str × V), (putF f v fs).length ≤ fs.length + 1
  | [] => by simp [putF]
  | (k, x) :: r => by
    have ih := length_putF f v r
    rw [show putF f v ((k, x) :: r) = (if k = f then (k, v) :: r else (k, x) :: putF f v r) from rfl]
    by_cases hk : k = f
    · rw [if_pos hk, List.length_cons, List.length_cons]; omega
    · rw [if_neg hk, List.length_cons, List.length_cons]; omega

theorem RelO.some_of {v : V} {o : Option Value} (r : RelO (some v) o) : ∃ u, o = some u ∧ RelV v u := by
  cases o with
  | none => exact (show False from r).elim
  | some u => exact ⟨u, rfl, r⟩
theorem handed_of {v : V} {u : Value} (r : RelV v u) : PySem.W.handedIn u = true := by
  cases v with
  | non => cases (show u = Value.none from r); rfl
  | bl b => cases (show u = Value.bool b from r); rfl
  | int i => obtain ⟨t, e⟩ := (show ∃ t, u = Value.int i t from r); cases e; rfl
  | str x => obtain ⟨t, e⟩ := (show ∃ t, u = Value.str x t from r); cases e; rfl
  | byt b => obtain ⟨t, e⟩ := (show ∃ t, u = Value.bytes b t from r); cases e; rfl
  | flt b => obtain ⟨t, e⟩ := (show ∃ t, u = Value.float b t from r); cases e; rfl
  | ref a => cases (show u = Value.ref a from r); rfl
  | ty n => cases (show u = Value.type n from r); rfl

section
variable {P : Program} {w : World} {H H' : Hp} {h h' : Heap} {a C dx : Addr} {fs fs' : List (Str × V)}
theorem ins_get (hok : HOk P w H h) (e : H a = some (.ins C dx fs)) : ∃ mA, ObjM h a dx C mA ∧ (∀ f, RelO (fs.lookup f) (mA f)) ∧ PySem.Within mA (fs.map (·.1)) ∧ fs.length ≤ 1000 ∧ H dx = some (.own a) := by
  obtain ⟨d, z, ne, ob, mA, n, r, q⟩ := (show ObjOk P w H h a (.ins C dx fs) from hok a _ e)
  exact ⟨mA, ⟨ob, n, ne⟩, r, q, z, d⟩
end

structure Cls (K : PySem.W.Frag) (C : Addr) : Prop where
  pg : PySem.W.plainGet K C Str.empty = true
  hd : PySem.W.hasDictIn K C = true
  po : PySem.W.plainOver K C = true
  sa : PySem.W.findIn K (.ref C) "__setattr__" = some (some (.builtin "object.__setattr__"))
theorem Cls.get {K : PySem.W.Frag} {C : Addr} (c : Cls K C) (f : Str) : PySem.W.plainGet K C f = true := c.pg
/-- no class of it has the name -/
def NoAttr (K : PySem.W.Frag) (C : Addr) (f : Str) : Prop := PySem.W.findIn K (.ref C) f = some none
theorem NoAttr.taker {K : PySem.W.Frag} {C : Addr} {f : Str} (n : NoAttr K C f) : PySem.W.takerIn K C f = some none := by
  unfold PySem.W.takerIn
  rw [show PySem.W.findIn K (.ref C) f = some none from n]
  rfl

section
variable {X : Cx} {pins : List (Addr × Obj)} {σ : St} {H : Hp} {s : Shared} {a C dx : Addr} {fs : List (Str × V)} {f : Str} {v : V} {A : Around} {E : Value → Shared → Prop}

theorem getattr_ok {b : Bool} {Q : Value → Shared → Prop} (I : Inv X pins σ H s) (e : H a = some (.ins C dx fs)) (c : Cls X.K C) (n : NoAttr X.K C f) (l : fs.lookup f = some v)
    (h : ∀ u s', Inv X pins σ H s' → RelV v u → Q u s') : wpAny (model X.prog X.w) A (getAttr (.ref a) f b) Q E s := by
  obtain ⟨mA, O, r, _, _, _⟩ := ins_get I.hok e
  obtain ⟨u, hu, ru⟩ := RelO.some_of (v := v) (o := mA f) (by rw [← l]; exact r f)
  exact get_map I.kIn O (c.get f) c.hd n hu (handed_of ru) (h u _ (I.tok _) ru)

theorem setattr_ok {y : V} {u : Value} {Q : Unit → Shared → Prop} (I : Inv X pins σ H s) (e : H a = some (.ins C dx fs)) (c : Cls X.K C) (n : NoAttr X.K C f) (hl : fs.length < 1000) (ry : RelV y u)
    (h : ∀ s', Inv X pins σ (upd H a (.ins C dx (putF f y fs))) s' → Q () s') : wpAny (model X.prog X.w) A (setAttr (.ref a) f u) Q E s := by
  obtain ⟨mA, O, r, wi, _, ho⟩ := ins_get I.hok e
  have hz : (fs.map (·.1)).length ≤ sizeLine := by rw [List.length_map, sizeLine_eq]; omega
  refine set_map I.kIn O c.sa c.po n.taker c.hd wi hz fun h' O' sb => h _ ?_
  have hd : ∃ o, h'.get? dx = some o := let ⟨o, _, _, e', _⟩ := O'.ns; ⟨o, e'⟩
  refine I.write (x := a) (e := dx) (by rw [e]; exact True.intro) (.inr ho) (fun b q hb z => (sb.2 b hb).trans z) hd ?_
  refine ⟨by rw [upd_ne O.ne]; exact ho, ?_, O.ne, O'.obj, _, O'.ns, fun g => ?_, fun g hg => ?_⟩
  · have := length_putF f y fs; omega
  · show RelO ((putF f y fs).lookup g) (if g = f then some u else mA g)
    rw [lookup_putF]
    by_cases q : g = f
    · rw [if_pos q, if_pos q]; exact ry
    · rw [if_neg q, if_neg q]; exact r g
  · by_cases q : g = f
    · rw [q]; exact (keys_putF f y fs).1
    · refine (keys_putF f y fs).2 g (wi g fun z => hg ?_)
      show (if g = f then some u else mA g) = none
      rw [if_neg q]; exact z

/-- e.f where nothing but the object is asked: through attributeBase (super) and the last hold -/
theorem attr_of {prog : Program} {w : World} {env : Env} {e : Expr} {f : Str} {pos : Pos} {s : Shared} {Q : Value → Shared → Prop} (hb : attributeBase e f env (eval e env) = eval e env)
    (h : wpAny (model prog w) A (eval e env) (fun o s₁ => wpAny (model prog w) A (getAttr o f true) Q E s₁) E s) : wpAny (model prog w) A (eval (.Attribute e f pos) env) Q E s :=
  Attribute_any_ h (by rw [arm_eval_Attribute, hb])
end

section
variable {X : Cx} {o e value : Expr} {f : Str} {pos pos' tpos : Pos} {ta tv : TE}

end

section
variable {X : Cx} {pins : List (Addr × Obj)} {σ : St} {H : Hp} {s : Shared} {A : Around} {E : Value → Shared → Prop} {Q : Value → Shared → Prop} {c : Value} {b : Bool}
/-- the type of a value, as the fragment's deciders take it; for an instance its class -/
inductive TyOf (K : PySem.W.Frag) (H : Hp) : V → Value → Prop where
  | non : TyOf K H .non (.type "NoneType")
  | bl (x : Bool) : TyOf K H (.bl x) (.type "bool")
  | int (i : Int) : TyOf K H (.int i) (.type "int")
  | str (x : Str) : TyOf K H (.str x) (.type "str")
  | flt (x : UInt64) : TyOf K H (.flt x) (.type "float")
  | lst {a : Addr} {xs : List V} (e : H a = some (.lst xs)) : TyOf K H (.ref a) (.type "list")
  | frz {a : Addr} {o : Obj} {xs : List V} (e : H a = some (.frz o (.lst xs))) : TyOf K H (.ref a) (.type "list")
  | tup {a : Addr} {xs : List V} (e : H a = some (.tup xs)) : TyOf K H (.ref a) (.type "tuple")
  | dK {a : Addr} {kvs : List (Key × V)} (e : H a = some (.dK kvs)) : TyOf K H (.ref a) (.type "dict")
  | dT {a : Addr} {kvs : List (List Key × V)} (e : H a = some (.dT kvs)) : TyOf K H (.ref a) (.type "dict")
  | ins {a C dx : Addr} {fs : List (Str × V)} (e : H a = some (.ins C dx fs)) (cl : Cls K C) (ha : PySem.W.findIn K (.ref C) "__class__" = some (some (.builtin "object.__class__")))
      (hn : PySem.W.specialIn K (.builtin "object.__class__") "__get__" = some (some (.builtin "getset_descriptor.__get__"))) (htk : PySem.W.takesIn K (.builtin "object.__class__") = some true)
      (hm : PySem.W.mroIn K C (.type "object") = some true) : TyOf K H (.ref a) (.ref C)
/-- isinstance(x, c) for one class c, a built-in or an own one: kitOne's answer -/
theorem isinst_ok {x : V} {u t : Value} (I : Inv X pins σ H s) (rx : RelV x u) (ty : TyOf X.K H x t) (e : PySem.W.kitOne X.K t c = some b) (h : ∀ tk, Q (.bool b) { s with toks := tk }) :
    wpAny (model X.prog X.w) A (call (.builtin "isinstance") [u, c]) Q E s := by
  cases ty with
  | non => cases (show u = Value.none from rx); exact PySem.W.kia_one PySem.W.kitx_none I.kIn True.intro e (fun z => nomatch z) h
  | bl y => cases (show u = Value.bool y from rx); exact PySem.W.kia_one PySem.W.kitx_bool I.kIn True.intro e (fun z => nomatch z) h
  | int i => obtain ⟨t, q⟩ := (show ∃ t, u = Value.int i t from rx); cases q; exact PySem.W.kia_one PySem.W.kitx_int I.kIn True.intro e (fun z => nomatch z) h
  | str y => obtain ⟨t, q⟩ := (show ∃ t, u = Value.str y t from rx); cases q; exact PySem.W.kia_one PySem.W.kitx_str I.kIn True.intro e (fun z => nomatch z) h
  | flt y => obtain ⟨t, q⟩ := (show ∃ t, u = Value.float y t from rx); cases q; exact PySem.W.kia_one PySem.W.kitx_float I.kIn True.intro e (fun z => nomatch z) h
  | @lst a xs ea =>
    cases (show u = Value.ref a from rx)
    obtain ⟨_, _, n, _, h1⟩ := (show ObjOk X.prog X.w H s.heap a (.lst xs) from I.hok a _ ea)
    exact PySem.W.kia_one PySem.W.kitx_list I.kIn ⟨_, h1, rfl⟩ e (fun z => nomatch z) h
  | @frz a ob xs ea =>
    cases (show u = Value.ref a from rx)
    obtain ⟨_, _, _, n, _, h1⟩ := (show ObjOk X.prog X.w H s.heap a (.frz ob (.lst xs)) from I.hok a _ ea)
    exact PySem.W.kia_one PySem.W.kitx_list I.kIn ⟨_, h1, rfl⟩ e (fun z => nomatch z) h
  | @tup a xs ea =>
    cases (show u = Value.ref a from rx)
    obtain ⟨_, _, _, p⟩ := (show ObjOk X.prog X.w H s.heap a (.tup xs) from I.hok a _ ea)
    obtain ⟨o, h1, h2, _⟩ := p
    exact PySem.W.kia_one PySem.W.kitx_tuple I.kIn ⟨o, h1, h2⟩ e (fun z => nomatch z) h
  | @dK a kvs ea =>
    cases (show u = Value.ref a from rx)
    obtain ⟨_, _, vs, _, p⟩ := (show ObjOk X.prog X.w H s.heap a (.dK kvs) from I.hok a _ ea)
    obtain ⟨o, es, ep, h1, h2, _⟩ := p
    exact PySem.W.kia_one PySem.W.kitx_dict I.kIn ⟨o, h1, h2.1⟩ e (fun z => nomatch z) h
  | @dT a kvs ea =>
    cases (show u = Value.ref a from rx)
    obtain ⟨_, _, xs, _, o, es, ep, h1, h2, _⟩ := (show ObjOk X.prog X.w H s.heap a (.dT kvs) from I.hok a _ ea)
    exact PySem.W.kia_one PySem.W.kitx_dict I.kIn ⟨o, h1, h2.1⟩ e (fun z => nomatch z) h
  | @ins a C dx fs ea cl ha hn htk hm =>
    cases (show u = Value.ref a from rx)
    obtain ⟨mA, O, _⟩ := ins_get I.hok ea
    obtain ⟨od, J, _⟩ := O.look
    exact PySem.W.kia_one (PySem.W.kitx_own (cl.get _) cl.hd ha hn htk hm) I.kIn J e (fun z => nomatch z) h
end
end L2

namespace L2
open PySem PySem.Spec PyProof.Rows

structure Room (k : Nat) (A : Around) : Prop where
  hd : A.handled = none
  dp : A.depth + 3 * k + 5 < recursionLimit
  un : A.units + 16 * k + 200 < cLine
theorem Room.mono {j k : Nat} {A : Around} (r : Room k A) (h : j ≤ k) : Room j A := ⟨r.hd, by have := r.dp; omega, by have := r.un; omega⟩
theorem Room.deeper {k : Nat} {A : Around} (r : Room (k + 1) A) (env : Env) : Room k (A.deeper env) :=
  ⟨r.hd, by have := r.dp; show A.depth + 1 + 3 * k + 5 < _; omega, by have := r.un; show A.units + 3 + 16 * k + 200 < _; omega⟩
theorem make_depth {A : Around} {C : Addr} {us : List Value} {kw : List (Str × Value)} : (A.under (.builtin "type.__call__" ⟨.ref C :: us, kw⟩)).depth = A.depth + 1 := by
  first | rfl | simp [Around.under, Code.weight, Code.isCreation, Code.isGuard, Code.isCaller, Code.frames, Code.isFrame, guardIds]
theorem make_units {A : Around} {C : Addr} {us : List Value} {kw : List (Str × Value)} : (A.under (.builtin "type.__call__" ⟨.ref C :: us, kw⟩)).units = A.units + 1 := by
  first | rfl | simp [Around.under, Code.cUnits, Code.frames, Code.isFrame]
theorem Room.make {k : Nat} {A : Around} (r : Room (k + 1) A) (C : Addr) (us : List Value) (kw : List (Str × Value)) : Room k (A.under (.builtin "type.__call__" ⟨.ref C :: us, kw⟩)) :=
  ⟨r.hd, by have := r.dp; rw [make_depth]; omega, by have := r.un; rw [make_units]; omega⟩
theorem Room.depth {k : Nat} {A : Around} (r : Room k A) : A.depth < recursionLimit := by have := r.dp; omega
theorem Room.units {k : Nat} {A : Around} (r : Room k A) : A.units + 64 < cLine := by have := r.un; omega

def tNil : TA := fun _ H Q => Q [] H
def tCons (ta : TE) (tr : TA) : TA := fun σ H Q => ta σ H fun x H1 => tr σ H1 fun xs H2 => Q (x :: xs) H2
section
variable {X : Cx} {e : Expr} {es : List Expr} {te : TE} {t : TA} {pos : Pos}
theorem pa_nil : PA X [] tNil := fun _ _ _ _ H Q I h => Calls.spliced_nil ⟨[], H, I, .nil, h⟩
theorem pa_cons (ha : PE X e te) (hr : PA X es t) (hs : starEach (e :: es) X.env = (false, eval e X.env) :: starEach es X.env := by rfl) : PA X (e :: es) (tCons te t) := by
  intro pos pins s σ H Q I h
  rw [hs]
  show wpAny _ _ (spliced ((false, eval e X.env) :: backTo pos (starEach es X.env))) _ _ s
  refine Calls.spliced_cons (thn (ha pins s σ H _ I h) fun u s1 ⟨x, H1, I1, r1, q1⟩ => ?_)
  exact thn (hr pos pins s1 σ H1 _ I1 q1) fun us s2 ⟨xs, H2, I2, r2, q2⟩ => ⟨x :: xs, H2, I2, .cons r1 r2, q2⟩

/-- a tuple, a list of written items -/
def tTup (t : TA) : TE := fun σ H Q => t σ H fun xs H1 => xs.length ≤ sizeLine ∧ ∀ p, H1 p = none → Q (.ref p) (upd H1 p (.tup xs))
def tLst (t : TA) : TE := fun σ H Q => t σ H fun xs H1 => xs.length ≤ sizeLine ∧ ∀ p, H1 p = none → Q (.ref p) (upd H1 p (.lst xs))
theorem pe_tup {x1} (h : PA X es t) : PE X (.Tuple es x1 pos) (tTup t) := by
  intro pins s σ H Q I hq
  refine wpAny_Tuple_spliced (thn (h pos pins s σ H _ I hq) fun us s1 ⟨xs, H1, I1, r, z, q⟩ => ⟨by rw [← r.length]; exact z, ?_⟩)
  have hf : H1 s1.heap.objs.size = none := I1.hok.fresh (Nat.le_refl _)
  refine ⟨.ref s1.heap.objs.size, upd H1 s1.heap.objs.size (.tup xs), I1.laid (t' := s1.toks) (fun b u e => Heap.get?_push_of_some _ e) (Nat.le_refl _) ?_, rfl, q _ hf⟩
  exact ⟨z, us, r, ⟨_, Heap.get?_push_size _ rfl, rfl, _, rfl⟩⟩
theorem pe_lst (h : PA X es t) : PE X (.List es pos) (tLst t) := by
  intro pins s σ H Q I hq
  refine wpAny_List_spliced (thn (h pos pins s σ H _ I hq) fun us s1 ⟨xs, H1, I1, r, z, q⟩ => ⟨by rw [← r.length]; exact z, ?_⟩)
  have hf : H1 s1.heap.objs.size = none := I1.hok.fresh (Nat.le_refl _)
  refine ⟨.ref s1.heap.objs.size, upd H1 s1.heap.objs.size (.lst xs), I1.laid (t' := s1.toks) (fun b u e => Heap.get?_push_of_some _ e) (Nat.le_refl _) ?_, rfl, q _ hf⟩
  exact ⟨z, us, 0, r, Heap.get?_push_size _ rfl⟩
end

/-- a def's promise: the bound arguments in the parameters' order, the heap, the wanted end, the wanted exception -/
abbrev Sp := List V → Hp → VK → XK → Prop
/-- how an exception lies behind a call (file 08 gives it): the callers' frames, abstract heap and state ahead of the call, the wish, the exception, the state -/
abbrev CXT := List Env → Hp → Shared → XK → Value → Shared → Prop

/-- the state at a call -/
structure Env0 (P : Program) (w : World) (K : PySem.W.Frag) (mg : Str → Option Value) (base : Heap) (A : Around) (outer : List Env) (s : Shared) (H : Hp) : Prop where
  frames : A.frames = some outer
  mod : Mod K mg base
  bs : ∀ b o, base.get? b = some o → s.heap.get? b = some o ∧ H b = none
  bsz : base.objs.size ≤ s.heap.objs.size
  funs : s.heap.FunFrames base outer
  frf : ∀ b ∈ frs outer, H b = none
  hok : HOk P w H s.heap
  bare : AllBare s.gens
/-- a call's end -/
def CE (outer : List Env) (P : Program) (w : World) (H : Hp) (s : Shared) (Q : VK) (u : Value) (s' : Shared) : Prop :=
  ∃ v H', s'.os = s.os ∧ AllBare s'.gens ∧ Un (frs outer) [] H H' s.heap s'.heap ∧ HOk P w H' s'.heap ∧ RelV v u ∧ Q v H'
def CR (CX : CXT) (outer : List Env) (P : Program) (w : World) (H : Hp) (s : Shared) (Q : VK) (E : XK) (r : Result) (s' : Shared) : Prop :=
  match r with
  | .ok (.ret u) => CE outer P w H s Q u s'
  | .ok _ => False
  | .error e => CX outer H s E e s'
structure FnOk (P : Program) (w : World) (K : PySem.W.Frag) (mg : Str → Option Value) (base : Heap) (CX : CXT) (k : Nat) (f : Addr) (fd : FuncData) (ps : List Str) (sp : Sp) : Prop where
  len : ∀ vs H Q E, sp vs H Q E → vs.length = ps.length
  run : ∀ (A : Around) (outer : List Env) (s : Shared) (H : Hp) (args : Args) (us : List Value) (vs : List V) (Q : VK) (E : XK), Room k A → Env0 P w K mg base A outer s H → BindsTo s fd args (ps.zip us) → Vals vs us → sp vs H Q E →
    codeAny (model P w) A (.call (.ref f) args) (CR CX outer P w H s Q E) s
/-- a weaker promise -/
theorem FnOk.imp {P : Program} {w : World} {K : PySem.W.Frag} {mg : Str → Option Value} {base : Heap} {CX : CXT} {k : Nat} {f : Addr} {fd : FuncData} {ps : List Str} {sp sp' : Sp} (F : FnOk P w K mg base CX k f fd ps sp)
    (h : ∀ vs H Q E, sp' vs H Q E → sp vs H Q E) : FnOk P w K mg base CX k f fd ps sp' :=
  ⟨fun vs H Q E q => F.len vs H Q E (h _ _ _ _ q), fun A outer s H args us vs Q E hr he hb hv hs => F.run A outer s H args us vs Q E hr he hb hv (h _ _ _ _ hs)⟩

theorem Env0.make {P : Program} {w : World} {K : PySem.W.Frag} {mg : Str → Option Value} {base : Heap} {A : Around} {outer : List Env} {s : Shared} {H : Hp} (e : Env0 P w K mg base A outer s H) (C : Addr) (us : List Value) (kw : List (Str × Value)) :
    Env0 P w K mg base (A.under (.builtin "type.__call__" ⟨.ref C :: us, kw⟩)) outer s H := ⟨by first | exact e.frames | (simpa [Around.under, Code.envs, Code.isFrame, pushEnvs] using e.frames), e.mod, e.bs, e.bsz, e.funs, e.frf, e.hok, e.bare⟩

section
variable {X : Cx} {pins : List (Addr × Obj)} {σ : St} {H : Hp} {s s' : Shared}
/-- from a body: what a callee wants -/
theorem Inv.env0 (I : Inv X pins σ H s) : Env0 X.prog X.w X.K X.mg X.base X.A X.stack s H :=
  ⟨I.ok.frames, I.ok.mod, I.bs, Nat.le_trans I.ok.bsz I.sz, I.stack, I.stkFree, I.hok, I.bare⟩
/-- behind a call -/
theorem Inv.after {Q : VK} {u : Value} (I : Inv X pins σ H s) (h : CE X.stack X.prog X.w H s Q u s') : EP X pins σ Q u s' := by
  obtain ⟨v, H', os, bare, un, hok, r, q⟩ := h
  obtain ⟨hh, g, d, t, os'⟩ := s'
  obtain rfl : os' = s.os := os
  exact ⟨v, H', I.call (h' := hh) (g' := g) (d' := d) (t' := t) (ch := []) un hok bare (fun b z => absurd z (by simp)), r, q⟩
end

/-- how the parameters are bound: us the positional arguments, kw the keywords' values by name, ds the defaults that fill up -/
def Binds (K : PySem.W.Frag) (fd : FuncData) (ps : List Str) (ds : List Value) : Prop :=
  ∀ (s : Shared) (us : List Value), K.In s.heap → (us ++ ds).length = ps.length → BindsTo s fd ⟨us, []⟩ (ps.zip (us ++ ds))
/-- every parameter is given -/
theorem Binds.all {K : PySem.W.Frag} {fd : FuncData} {ps : List Str} (h : ∀ us : List Value, us.length = ps.length → bindArgs fd ⟨us, []⟩ = pure (ps.zip us)) : Binds K fd ps [] := fun s us _ hl => by
  rw [List.append_nil] at hl ⊢
  exact .of_eq (h us hl)

section
variable {X : Cx} {CX : CXT} {k : Nat} {f C : Addr} {fd : FuncData} {ps : List Str} {sp : Sp} {dvs : List V} {ds : List Value} {E : XK} {x m : Str} {p pos apos : Pos} {e o : Expr} {es : List Expr} {ta : TE} {t : TA}

end

section
variable {X : Cx} {CX : CXT} {k : Nat} {f C : Addr} {fd : FuncData} {ps ks : List Str} {sp : Sp} {E : XK} {x m : Str} {p pos apos kpos : Pos} {e o : Expr} {es : List Expr} {kws : List Keyword} {te ta : TE} {t tk : TA} {nm : Option Str}

variable {g : List Value → List Value → List Value} {gV : List V → List V → List V}
end

/-- names: the parameters first -/
structure FnScope (N P : List Str) (sc : Scope) : Prop where
  kind : sc.kind = .function
  co : sc.isCoroutine = false
  gen : sc.isGenerator = false
  nd : N.Nodup
  pre : N.take P.length = P
  par : ∀ x ∈ P, sc.names.lookup x = some .local ∨ sc.names.lookup x = some .cell
  nofree : ∀ y ∈ sc.names, y.2 ≠ .free

theorem bindL_out {kindOf : Str → Option NameKind} {x : Str} : ∀ {binds : List (Str × Value)} {m : Str → Option Value}, (∀ v, (x, v) ∉ binds) → bindL kindOf binds m x = m x
  | [], _, _ => rfl
  | (n, v) :: r, m, h => by
    unfold bindL
    rw [bindL_out fun w hw => h w (List.mem_cons_of_mem _ hw)]
    split
    · have : x ≠ n := by rintro rfl; exact h v List.mem_cons_self
      simp [this]
    · rfl
theorem bindC_out {kindOf : Str → Option NameKind} {x : Str} : ∀ {binds : List (Str × Value)} {m : Str → Option Value}, (∀ v, (x, v) ∉ binds) → bindC kindOf binds m x = m x
  | [], _, _ => rfl
  | (n, v) :: r, m, h => by
    unfold bindC
    rw [bindC_out fun w hw => h w (List.mem_cons_of_mem _ hw)]
    split
    · rfl
    · have : x ≠ n := by rintro rfl; exact h v List.mem_cons_self
      simp [this]
theorem bindL_get {kindOf : Str → Option NameKind} {x : Str} {v : Value} : ∀ {P : List Str} {vs : List Value} {i : Nat} {m : Str → Option Value}, P.Nodup → P[i]? = some x → vs[i]? = some v → kindOf x = some .local →
    bindL kindOf (P.zip vs) m x = some v
  | [], _, _, _, _, h, _, _ => by simp at h
  | _ :: _, [], _, _, _, _, h, _ => by simp at h
  | p :: P, w :: vs, 0, m, nd, h1, h2, hk => by
    simp at h1 h2; subst h1; subst h2
    show bindL kindOf ((p, w) :: P.zip vs) m p = _
    unfold bindL
    rw [bindL_out fun v hv => (List.nodup_cons.mp nd).1 (List.of_mem_zip hv).1, if_pos hk]
    simp
  | p :: P, w :: vs, i + 1, m, nd, h1, h2, hk => by
    show bindL kindOf ((p, w) :: P.zip vs) m x = _
    unfold bindL
    exact bindL_get (i := i) (List.nodup_cons.mp nd).2 (by simpa using h1) (by simpa using h2) hk
theorem bindC_get {kindOf : Str → Option NameKind} {x : Str} {v : Value} : ∀ {P : List Str} {vs : List Value} {i : Nat} {m : Str → Option Value}, P.Nodup → P[i]? = some x → vs[i]? = some v → kindOf x ≠ some .local →
    bindC kindOf (P.zip vs) m x = some v
  | [], _, _, _, _, h, _, _ => by simp at h
  | _ :: _, [], _, _, _, _, h, _ => by simp at h
  | p :: P, w :: vs, 0, m, nd, h1, h2, hk => by
    simp at h1 h2; subst h1; subst h2
    show bindC kindOf ((p, w) :: P.zip vs) m p = _
    unfold bindC
    rw [bindC_out fun v hv => (List.nodup_cons.mp nd).1 (List.of_mem_zip hv).1, if_neg hk]
    simp
  | p :: P, w :: vs, i + 1, m, nd, h1, h2, hk => by
    show bindC kindOf ((p, w) :: P.zip vs) m x = _
    unfold bindC
    exact bindC_get (i := i) (List.nodup_cons.mp nd).2 (by simpa using h1) (by simpa using h2) hk

/-- the names' values at the entry -/
def start (N : List Str) (vs : List V) : St := vs.map some ++ List.replicate (N.length - vs.length) none

/-- the context of a def's body, at its entry; an exception leaves the frame, then lies as CX says -/
def cxOf (CX : CXT) (P : Program) (w : World) (K : PySem.W.Frag) (mg : Str → Option Value) (base : Heap) (N : List Str) (qual : Str) (scope : Scope) (f : Addr) (cd : Value) (A : Around) (outer : List Env) (s : Shared) (H : Hp) (E : XK) : Cx where
  prog := P
  w := w
  K := K
  mg := mg
  base := base
  A := A.deeper (envOfC qual scope s.heap.objs.size f cd)
  N := N
  s₀ := s
  H₀ := H
  env := envOfC qual scope s.heap.objs.size f cd
  outer := outer
  stack := envOfC qual scope s.heap.objs.size f cd :: outer
  ex := []
  calm := true
  fn := fun _ => true
  pn := []
  xe := fun e s' => wpAny (model P w) (A.deeper (envOfC qual scope s.heap.objs.size f cd)) (leaving (envOfC qual scope s.heap.objs.size f cd) e) (fun _ s'' => CX outer H s E e s'') (fun e' s'' => CX outer H s E e' s'') s'

theorem cell_has {sc : Scope} {n : Nat} {x : Str} (h : sc.names.lookup x = some .cell) : ∃ c, (cellsFrom n sc.names []).lookup x = some c := by
  have q := PySem.W.cellsFrom_some sc.names n [] (.inl h)
  exact Option.isSome_iff_exists.mp q

theorem inv_start {CX : CXT} {P : Program} {w : World} {K : PySem.W.Frag} {mg : Str → Option Value} {base : Heap} {N ps : List Str} {qual : Str} {scope : Scope} {f : Addr} {cd : Value} {A : Around} {outer : List Env} {s s1 : Shared} {H : Hp} {E : XK} {us : List Value} {vs : List V}
    (S : FnScope N ps scope) (hd : A.handled = none) (e0 : Env0 P w K mg base A outer s H) (hl : vs.length = ps.length) (r : Vals vs us)
    (x : InCallC s s.heap.objs.size (bindL (envOfC qual scope s.heap.objs.size f cd).kindOf (ps.zip us) fun _ => none) (cellsFrom (s.heap.objs.size + 1) scope.names []) (bindC (envOfC qual scope s.heap.objs.size f cd).kindOf (ps.zip us) fun _ => none) s1) :
    Inv (cxOf CX P w K mg base N qual scope f cd A outer s H E) [] (start N vs) H s1 := by
  have hpl : ps.length ≤ N.length := by have := congrArg List.length S.pre; rw [List.length_take] at this; omega
  obtain ⟨h1, tk, rfl, hk⟩ := x.done
  have noA : ∀ b : Addr, b ∉ (cxOf CX P w K mg base N qual scope f cd A outer s H E).ex := fun b z => absurd (show b ∈ ([] : List Addr) from z) (by simp)
  refine ⟨⟨e0.mod, S.kind, rfl, rfl, Nat.le_refl _, fun y z c h1 h2 => ?_, fun y hy => ?_, fun y c _ h => ?_, fun _ => hd, Around.frames_deeper e0.frames, .inr ⟨rfl, rfl⟩, fun b z => absurd z (noA b), e0.bs, e0.bsz, fun b _ _ => noA b, fun b z => absurd z (noA b), e0.funs, e0.frf⟩,
    rfl, e0.bare, Un.kept hk, ⟨_, x.toInCall.ns, fun i y v h1 h2 h3 => ?_⟩, fun y c h => ⟨_, x.cell y c h⟩, e0.hok.fresh (Nat.le_refl _), fun y c h => ?_, fun p hp => absurd (show p ∈ ([] : List (Addr × Obj)) from hp) (by simp), e0.hok.kept hk, ?_⟩
  · exact name_of_addr x.apart (PySem.mem_of_lookup h1) (PySem.mem_of_lookup h2)
  · have hy : scope.names.lookup y = some .cell ∨ scope.names.lookup y = some .free := hy
    rcases hy with hy | hy
    · exact cell_has hy
    · exact absurd rfl (S.nofree _ (PySem.mem_of_lookup hy))
  · exact Nat.le_of_lt (x.above y c (PySem.mem_of_lookup h))
  · have hi : i < vs.length := by
      unfold start at h2
      by_cases hi : i < vs.length
      · exact hi
      · rw [List.getElem?_append_right (by simpa using hi)] at h2
        rw [List.getElem?_replicate] at h2
        split at h2 <;> cases h2
    have ha : vs[i]? = some v := by
      unfold start at h2
      rw [List.getElem?_append_left (by simpa using hi), List.getElem?_map] at h2
      cases e : vs[i]? with
      | none => rw [e] at h2; cases h2
      | some a => rw [e] at h2; cases h2; rfl
    obtain ⟨u, hu, rv⟩ := r.get ha
    have hp : ps[i]? = some y := by
      rw [← S.pre, List.getElem?_take_of_lt (by omega)]; exact h1
    have ndP : ps.Nodup := by rw [← S.pre]; exact S.nd.sublist (List.take_sublist _ _)
    refine ⟨u, rv, ?_⟩
    rcases S.par y (List.mem_of_getElem? hp) with k | k
    · exact .inl ⟨k, bindL_get ndP hp hu k⟩
    · obtain ⟨c, e⟩ := cell_has (n := s.heap.objs.size + 1) k
      refine .inr ⟨.inl k, c, e, ?_⟩
      have q := x.cell y c e
      rw [bindC_get ndP hp hu (by show scope.names.lookup y ≠ _; rw [k]; decide)] at q
      exact q
  · exact e0.hok.fresh (Nat.le_of_lt (x.above y c (PySem.mem_of_lookup h)))
  · unfold start
    show _ = N.length
    rw [List.length_append, List.length_map, List.length_replicate]
    omega

/-- THE RULE: a def (or a method) of the text, by its body. The body's reading t is chosen for each entry; it is run at the parameters' values -/
theorem fn_of {CX : CXT} {P : Program} {w : World} {K : PySem.W.Frag} {mg : Str → Option Value} {base : Heap} {k : Nat} {f : Addr} {name qual : Str} {params : Arguments} {body : List Stmt} {scope : Scope} {dV kV doc pm cdv ct oc : Value} {an od : Option Addr}
    {osl : Array (Option Value)} {N ps : List Str} {sp : Sp} (lk : K.lookup f = some ⟨oc, od, .func (PySem.W.fnOf name qual params body scope dV kV doc pm an cdv ct), osl⟩) (hcd : PySem.W.codeIn K cdv qual = true) (S : FnScope N ps scope)
    (len : ∀ vs H Q E, sp vs H Q E → vs.length = ps.length)
    (hbody : ∀ (A : Around) (outer : List Env) (s : Shared) (H : Hp) (vs : List V) (Q : VK) (E : XK), Room k (A.deeper (envOfC qual scope s.heap.objs.size f cdv)) → sp vs H Q E →
      ∃ t, PSs (cxOf CX P w K mg base N qual scope f cdv A outer s H E) body t ∧ t { nx := fun _ H' => Q .non H', rt := Q } (start N vs) H) :
    FnOk P w K mg base CX (k + 1) f (PySem.W.fnOf name qual params body scope dV kV doc pm an cdv ct) ps sp := by
  refine ⟨len, fun A outer s H args us vs Q E hr e0 hb r hsp => ?_⟩
  have hl := len _ _ _ _ hsp
  have KX : K.In s.heap := e0.mod.kin.keeps fun b o e => (e0.bs b o e).1
  have lim : s.heap.NoLimit := e0.mod.nolimit.keeps fun b o e => (e0.bs b o e).1
  have hkind : ∀ y ∈ ps.zip us, scope.names.lookup y.1 = some .local ∨ (scope.names.lookup y.1 = some .cell ∧ ((cellsFrom (s.heap.objs.size + 1) scope.names []).lookup y.1).isSome = true) := fun ⟨n, v⟩ hy => by
    rcases S.par n (List.of_mem_zip hy).1 with q | q
    · exact .inl q
    · exact .inr ⟨q, PySem.W.cellsFrom_some _ _ _ (.inl q)⟩
  refine codeAny_call_function hr.depth (KX _ _ lk) rfl S.co S.gen rfl (PySem.W.codeRec_of KX hcd) (hb _ _ _ _ ?_)
  refine wpAny_newFunctionEnv_cells S.kind hkind fun env he s1 x => ?_
  subst he
  refine ⟨lim.keeps x.toInCall.keep, codeAny_func ?_⟩
  obtain ⟨t, ht, hq⟩ := hbody A outer s H vs Q E (hr.deeper _) hsp
  have I : Inv (cxOf CX P w K mg base N qual scope f cdv A outer s H E) [] (start N vs) H s1 := inv_start S hr.hd e0 hl r x
  refine wpAny_mono (ht [] s1 (start N vs) H _ I hq) (fun fl s' hs => ?_) fun e s' hs => hs
  have fin : ∀ {σ' : St} {H' : Hp} {v : V} {u : Value}, Inv (cxOf CX P w K mg base N qual scope f cdv A outer s H E) [] σ' H' s' → RelV v u → Q v H' → CE outer P w H s Q u s' :=
    fun {σ' H' v u} J rv q => ⟨v, H', J.os, J.bare, J.base, J.hok, rv, q⟩
  cases fl with
  | ret u =>
    obtain ⟨v, σ', H', J, rv, q⟩ := hs
    exact fin J rv q
  | next =>
    obtain ⟨σ', H', J, q⟩ := hs
    exact fin (v := V.non) (u := Value.none) J rfl q
  | brk =>
    obtain ⟨_, _, _, q⟩ := hs
    exact False.elim q
  | cont =>
    obtain ⟨_, _, _, q⟩ := hs
    exact False.elim q
end L2

namespace L2
open PySem PySem.Spec PyProof.Rows
section
variable {X : Cx} {x : Str} {p pos : Pos} {e : Expr} {es : List Expr} {t : TA} {id T : String} {r : List V → Hp → VK → Prop}

def tCB (r : List V → Hp → VK → Prop) (t : TA) : TE := fun σ H Q => t σ H fun vs H1 => r vs H1 Q
/-- f(e, ..), f a built-in function -/
theorem pe_callB (hc : CallR X (.builtin id) r) (hg : Gl X x) (hm : X.mg x = none) (hv : bootBuiltins x = some (.builtin id)) (ha : PA X (e :: es) t) (hn : x ≠ "__name__" := by decide) (hdb : (x == ("__debug__" : Str)) = false := by decide)
    (he : starEach (e :: es) X.env = (false, eval e X.env) :: starEach es X.env := by rfl) (hpl : (backTo pos (starEach es X.env)).any (·.1) = false := by rfl) : PE X (.Call (.Name x p) (e :: es) [] pos) (tCB r t) := by
  intro pins s σ H Q I h
  refine wpAny_Call_Name_kw (ld_blt I hg hm hv ?_ hn hdb)
  exact PyProof.Rows.callWith_builtin1 (thn (ha pos pins s σ H _ I h) fun us s1 ⟨vs, H1, I1, r1, q1⟩ => hc pins s1 σ H1 vs us Q I1 r1 q1) he hpl
/-- T(e, ..), T a built-in type -/
theorem pe_callTy (hc : CallR X (.type T) r) (hg : Gl X x) (hm : X.mg x = none) (hv : bootBuiltins x = some (.type T)) (ha : PA X (e :: es) t) (hn : x ≠ "__name__" := by decide) (hdb : (x == ("__debug__" : Str)) = false := by decide)
    (he : starEach (e :: es) X.env = (false, eval e X.env) :: starEach es X.env := by rfl) (hpl : (backTo pos (starEach es X.env)).any (·.1) = false := by rfl) : PE X (.Call (.Name x p) (e :: es) [] pos) (tCB r t) := by
  intro pins s σ H Q I h
  refine wpAny_Call_Name_kw (ld_blt I hg hm hv ?_ hn hdb)
  exact PyProof.Rows.callWith_type1 (thn (ha pos pins s σ H _ I h) fun us s1 ⟨vs, H1, I1, r1, q1⟩ => hc pins s1 σ H1 vs us Q I1 r1 q1) he hpl
end
end L2

namespace HT
open PySem PyProof.Rows

section
open PySem.SeqAt
open PySem.AutoSeq1 (wpAny_loadPart')
open PySem.MeetsSeq PySem.MeetsSeq2 PySem.MeetsSeq3

end

section
variable {prog : Program} {w : World} {A : Around} {E : Value → Shared → Prop} {s : Shared}

/-- t + u, t not empty -/
theorem cat_tup {t b : Addr} {vs ws : List Value} {Q : Value → Shared → Prop} (ht : IsTup s.heap t vs.toArray) (hb : IsTup s.heap b ws.toArray) (hv : vs ≠ [])
    (h1 : ws = [] → Q (.ref t) s) (h2 : ws ≠ [] → Q (.ref s.heap.objs.size) { s with heap := s.heap.push { cls := .type "tuple", data := .seq (vs ++ ws).toArray } })
    (hsz : vs.length + ws.length ≤ sizeLine) : wpAny (model prog w) A (binaryOp .Add (.ref t) (.ref b)) Q E s := by
  obtain ⟨⟨cls, dd, data, sl⟩, ho, hc, n, hd⟩ := id ht
  obtain ⟨⟨cls2, dd2, data2, sl2⟩, ho2, hc2, n2, hd2⟩ := id hb
  simp only at hc hd hc2 hd2
  subst hc hd hc2 hd2
  have e : vs.toArray ++ ws.toArray = (vs ++ ws).toArray := by simp
  by_cases hw : ws = []
  · exact concat_meets ⟨_, ho, rfl⟩ ⟨_, ho2, rfl⟩ noFill_tuple_add seq_tuple_add PySem.F.slot_tuple_add PySem.F.entry_tuple_add (PySem.F.args_tuple_add_2 _ _)
      (tuple_addW1 t b vs.toArray ws.toArray n n2 dd dd2 sl sl2 (by simpa using hv) (by simp [hw])) ⟨ho, ho2, h1 hw⟩
  · refine concat_meets ⟨_, ho, rfl⟩ ⟨_, ho2, rfl⟩ noFill_tuple_add seq_tuple_add PySem.F.slot_tuple_add PySem.F.entry_tuple_add (PySem.F.args_tuple_add_2 _ _)
      (tuple_addW2 t b vs.toArray ws.toArray n n2 dd dd2 sl sl2 (by simpa using hv) (by simpa using hw) (by rw [List.size_toArray, List.size_toArray]; exact hsz)) ⟨ho, ho2, ?_⟩
    rw [e]
    exact h2 hw

/-- a slice's bound as a place among n (d where it is left out) -/
def sIx (n d : Nat) : Option Int → Nat
  | none => d
  | some v => if v < 0 then (v + (n : Int)).toNat else min v.toNat n
theorem sIx_le (n d : Nat) (hd : d ≤ n) (o : Option Int) : sIx n d o ≤ n := by
  cases o with
  | none => exact hd
  | some v =>
    show (if v < 0 then (v + (n : Int)).toNat else min v.toNat n) ≤ n
    by_cases hv : v < 0
    · rw [if_pos hv]; omega
    · rw [if_neg hv]; exact Nat.min_le_right _ _
theorem clip_eq (v : Int) (n d : Nat) : (if v < 0 then max (v + (n : Int)) 0 else min v (n : Int)) = ((sIx n d (some v) : Nat) : Int) := by
  show (if v < 0 then max (v + (n : Int)) 0 else min v (n : Int)) = (((if v < 0 then (v + (n : Int)).toNat else min v.toNat n) : Nat) : Int)
  by_cases hv : v < 0
  · simp only [if_pos hv]; omega
  · simp only [if_neg hv]; omega
theorem adjust_gen (lo hi : Option Int) (n : Nat) : Builtin.Slice.sliceAdjust lo hi 1 (n : Int) = (((sIx n 0 lo : Nat) : Int), ((sIx n n hi : Nat) : Int)) := by
  have h1 : ¬ ((1 : Int) < 0) := by omega
  unfold Builtin.Slice.sliceAdjust
  simp only [h1, if_false]
  refine Prod.ext ?_ ?_
  · cases lo with
    | none => rfl
    | some v => exact clip_eq v n 0
  · cases hi with
    | none => rfl
    | some v => exact clip_eq v n n
theorem places_gen (i j : Nat) : Builtin.Slice.slicePlaces (i : Int) (j : Int) 1 = j - i := by
  unfold Builtin.Slice.slicePlaces
  have h1 : (1 : Int) > 0 := by omega
  simp only [h1, if_true, Int.ediv_one]
  split <;> omega
theorem slicePart_ {v : Value} {o : Option Int} {Q : Option Int → Shared → Prop} (p : IsPart v o) (h : Q o s) : wpAny (model prog w) A (Builtin.Slice.slicePartIndex v) Q E s := by
  cases p with
  | none => exact slicePart_none h
  | int i t => exact slicePart_int h
theorem sliceApplied_gen {sl : Addr} {vl vu : Value} {lo hi : Option Int} {n : Nat} {Q : Int × Int × Nat → Shared → Prop} (hs : s.heap.IsSliceOf sl vl vu .none) (pl : IsPart vl lo) (pu : IsPart vu hi)
    (h : Q (((sIx n 0 lo : Nat) : Int), 1, sIx n n hi - sIx n 0 lo) s) : wpAny (model prog w) A (Builtin.Slice.sliceApplied (.ref sl) (pure (n : Int))) Q E s := by
  obtain ⟨os, hos, hcs, hds⟩ := id hs
  unfold Builtin.Slice.sliceApplied Builtin.Slice.sliceFields
  refine wpAny_bind (wpAny_bind (wpAny_field hos hds (x := vl) rfl (wpAny_bind (wpAny_field hos hds (x := vu) rfl (wpAny_bind (wpAny_field hos hds (x := .none) rfl (wpAny_pure ?_)))))))
  refine wpAny_bind (slicePart_none ?_)
  show wpAny _ _ (if ((1 : Int) == 0) = true then _ else _) _ _ s
  rw [if_neg (by decide)]
  refine wpAny_bind (slicePart_ pl (wpAny_bind (slicePart_ pu (wpAny_bind (wpAny_pure ?_)))))
  show wpAny _ _ (match Builtin.Slice.sliceAdjust lo hi 1 (n : Int) with | (lo, hi) => pure (lo, (1 : Int), Builtin.Slice.slicePlaces lo hi 1)) _ _ s
  rw [adjust_gen lo hi n]
  show wpAny _ _ (pure (((sIx n 0 lo : Nat) : Int), (1 : Int), Builtin.Slice.slicePlaces ((sIx n 0 lo : Nat) : Int) ((sIx n n hi : Nat) : Int) 1)) _ _ s
  rw [places_gen]
  exact wpAny_pure h
theorem pick_gen (xs : Array Value) (i k : Nat) : ((List.range k).filterMap fun (m : Nat) => xs[((i : Int) + (m : Int) * 1).toNat]?).toArray = ((xs.toList.drop i).take k).toArray := by
  have e : (fun (m : Nat) => xs[((i : Int) + (m : Int) * 1).toNat]?) = fun m => xs[i + m]? := by
    funext m
    have : ((i : Int) + (m : Int) * 1).toNat = i + m := by omega
    rw [this]
  rw [e]
  have := pick_run xs i k
  rw [List.filterMap_map] at this
  have e2 : ((fun x => xs[x]?) ∘ fun x => i + x) = fun m => xs[i + m]? := rfl
  rw [e2] at this
  rw [this]

theorem getItem_tuple_cut {t sl : Addr} {items : Array Value} {vl vu : Value} {lo hi : Option Int} {Q : Value → Shared → Prop} (ht : IsTup s.heap t items) (hs : s.heap.IsSliceOf sl vl vu .none) (pl : IsPart vl lo) (pu : IsPart vu hi)
    (hw : ¬ (sIx items.size 0 lo = 0 ∧ sIx items.size items.size hi = items.size))
    (h : Q (.ref s.heap.objs.size) { s with heap := s.heap.push { cls := .type "tuple", data := .seq ((items.toList.drop (sIx items.size 0 lo)).take (sIx items.size items.size hi - sIx items.size 0 lo)).toArray } })
    (hsz : items.size ≤ sizeLine) : wpAny (model prog w) A (getItem (.ref t) (.ref sl)) Q E s := by
  have htake : sizeOk (.seq ((items.toList.drop (sIx items.size 0 lo)).take (sIx items.size items.size hi - sIx items.size 0 lo)).toArray) := by
    show ((items.toList.drop (sIx items.size 0 lo)).take (sIx items.size items.size hi - sIx items.size 0 lo)).toArray.size ≤ sizeLine
    rw [List.size_toArray, List.length_take, List.length_drop, Array.length_toList]
    omega
  have hj : sIx items.size items.size hi ≤ items.size := sIx_le _ _ (Nat.le_refl _) hi
  obtain ⟨os, hos, hcs, hds⟩ := id hs
  have hTs : s.TypeIs (.ref sl) "slice" := ⟨os, hos, hcs⟩
  unfold getItem
  try with_reducible refine wpAny_holding ?_
  first | refine wpAny_bind (wpAny_pure ?_) | skip
  refine wpAny_bind (wpAny_sequenceKey ht.typeIs (by decide) ?_)
  refine wpAny_bind (wpAny_callSpecial?_slot (name := Str.ofString "__getitem__") ht.typeIs PyProof.Rows.slot_tuple_getitem
    (wpAny_call_entry PyProof.Rows.slot_tuple_getitem ht.typeIs entry_tuple_getitem ?_ (args_tuple_getitem _ _)))
  show wpAny _ _ (Builtin.Tuple.tupleItemsOf (.ref t) >>= _) _ _ s
  refine wpAny_bind (tupleItemsOf_ ht ?_)
  refine wpAny_bind (wpAny_typeOf hTs ?_)
  rw [if_pos (by decide)]
  refine wpAny_bind (sliceApplied_gen hs pl pu ?_)
  have hno : ¬ ((((sIx items.size 0 lo : Nat) : Int) == 0 && (1 : Int) == 1 && (sIx items.size items.size hi - sIx items.size 0 lo) == items.size) = true) := by
    intro q
    rw [Bool.and_eq_true, Bool.and_eq_true] at q
    have q1 : ((sIx items.size 0 lo : Nat) : Int) = 0 := eq_of_beq q.1.1
    have q2 : sIx items.size items.size hi - sIx items.size 0 lo = items.size := eq_of_beq q.2
    exact hw ⟨by omega, by omega⟩
  show wpAny _ _ (if (((sIx items.size 0 lo : Nat) : Int) == 0 && (1 : Int) == 1 && (sIx items.size items.size hi - sIx items.size 0 lo) == items.size) = true then _ else _) _ _ s
  rw [if_neg hno, pick_gen]
  first
    | exact wpAny_bind (m := Builtin.Tuple.tupleExact _) (wpAny_newObj_type (wpAny_pure ⟨_, rfl, wpAny_pure h⟩) htake)
    | exact wpAny_bind (m := Builtin.Tuple.tupleExact _) (wpAny_newObj_type (wpAny_bind (wpAny_pure (wpAny_pure ⟨_, rfl, wpAny_pure h⟩))) htake)
    | exact wpAny_bind (wpAny_bind (m := Builtin.Tuple.tupleExact _) (wpAny_newObj_type (wpAny_pure (wpAny_pure ⟨_, rfl, wpAny_pure h⟩)) htake))
    | exact wpAny_bind (wpAny_bind (m := Builtin.Tuple.tupleExact _) (wpAny_newObj_type (wpAny_pure ⟨_, rfl, wpAny_pure h⟩) htake))
end
end HT

namespace L2
open PySem PySem.Spec PyProof.Rows

abbrev TO := St → Hp → (Option Int → Hp → Prop) → Prop
/-- a slice's part (left out, or an int) -/
def PO (X : Cx) (e : Option Expr) (t : TO) : Prop :=
  ∀ (pins : List (Addr × Obj)) (s : Shared) (σ : St) (H : Hp) (Q : Option Int → Hp → Prop), Inv X pins σ H s → t σ H Q →
    wpAny (model X.prog X.w) X.A (evalPart e X.env) (fun u s' => ∃ o H', Inv X pins σ H' s' ∧ IsPart u o ∧ Q o H') X.xe s
def tNoPart : TO := fun _ H Q => Q none H

section
variable {X : Cx} {e : Expr} {te : TE} {lo hi : Option Expr} {tl th : TO} {pos p2 : Pos}

theorem po_none : PO X none tNoPart := by
  intro pins s σ H Q I h
  rw [evalPart_none]
  exact wpAny_pure ⟨none, H, I, .none, h⟩

/-- what a slice of a value is, by values: the slice object stands at sl -/
def SlR (X : Cx) (r : V → Option Int → Option Int → Hp → VK → Prop) : Prop :=
  ∀ (pins : List (Addr × Obj)) (s : Shared) (σ : St) (H : Hp) (x : V) (v vl vu : Value) (lo hi : Option Int) (sl : Addr) (Q : VK), Inv X pins σ H s → RelV x v → s.heap.IsSliceOf sl vl vu .none → IsPart vl lo → IsPart vu hi → r x lo hi H Q →
    ∃ T id, typeLookup (.type T) "__getitem__" = pure (some (.builtin id)) ∧ s.TypeIs v T ∧ wpAny (model X.prog X.w) X.A (getItem v (.ref sl)) (EP X pins σ Q) X.xe s

/-- the items of xs[lo:hi] -/
def cutV (xs : List V) (lo hi : Option Int) : List V := (xs.drop (HT.sIx xs.length 0 lo)).take (HT.sIx xs.length xs.length hi - HT.sIx xs.length 0 lo)
theorem cutV_length (xs : List V) (lo hi : Option Int) : (cutV xs lo hi).length ≤ xs.length := by
  unfold cutV
  rw [List.length_take, List.length_drop]
  omega
/-- t[lo:hi], not the whole of it (the whole would be t itself) -/
def rSlT (K : PySem.W.Frag) : V → Option Int → Option Int → Hp → VK → Prop := fun x lo hi H Q => ∃ a xs, x = .ref a ∧ SqT K H a xs ∧
  ¬ (HT.sIx xs.length 0 lo = 0 ∧ HT.sIx xs.length xs.length hi = xs.length) ∧ ∀ p, H p = none → Q (.ref p) (upd H p (.tup (cutV xs lo hi)))
theorem sl_tup : SlR X (rSlT X.K) := by
  intro pins s σ H x v vl vu lo hi sl Q I rx hs pl pu h
  obtain ⟨a, xs, rfl, hx, hw, q⟩ := h
  cases rx
  obtain ⟨its, r, ht, hz⟩ := I.tuple hx
  have hlen : its.toArray.size = xs.length := by rw [List.size_toArray]; exact r.length.symm
  refine ⟨"tuple", _, PyProof.Rows.slot_tuple_getitem.lookup, ht.typeIs, ?_⟩
  refine HT.getItem_tuple_cut ht hs pl pu (by rw [hlen]; exact hw) ?_ (by rw [hlen]; exact hz)
  rw [hlen]
  refine ⟨.ref s.heap.objs.size, _, I.laid (t' := s.toks) (o := .tup (cutV xs lo hi)) (fun b ob q => Heap.get?_push_of_some _ q) (Nat.le_refl _) ?_, rfl, q _ (I.hok.fresh (Nat.le_refl _))⟩
  exact ⟨Nat.le_trans (cutV_length xs lo hi) hz, _, (r.drop (HT.sIx xs.length 0 lo)).take (HT.sIx xs.length xs.length hi - HT.sIx xs.length 0 lo), IsTup.new _ _⟩

/-- t + u, t not empty: u empty gives t itself -/
def rCatT (K : PySem.W.Frag) : R2 := fun x y H Q => ∃ a b xs ys, x = .ref a ∧ y = .ref b ∧ SqT K H a xs ∧ SqT K H b ys ∧ xs ≠ [] ∧ xs.length + ys.length ≤ sizeLine ∧
  (ys = [] → Q (.ref a) H) ∧ (ys ≠ [] → ∀ p, H p = none → Q (.ref p) (upd H p (.tup (xs ++ ys))))
theorem Vals.nil_iff {xs : List V} {us : List Value} (r : Vals xs us) : us = [] ↔ xs = [] := by
  cases r with
  | nil => simp
  | cons _ _ => simp
theorem op_catT : OpR X (binaryOp .Add) (rCatT X.K) := by
  intro pins s σ H x y v u Q I rx ry h
  obtain ⟨a, b, xs, ys, rfl, rfl, ha, hb, hx, hz, q1, q2⟩ := h
  cases rx
  cases ry
  obtain ⟨its, r1, p1, _⟩ := I.tuple ha
  obtain ⟨its2, r2, p2, _⟩ := I.tuple hb
  refine HT.cat_tup p1 p2 (fun z => hx (r1.nil_iff.mp z)) (fun z => ⟨.ref a, H, I, rfl, q1 (r2.nil_iff.mp z)⟩) (fun z => ?_) (by rw [← r1.length, ← r2.length]; exact hz)
  refine ⟨.ref s.heap.objs.size, _, I.laid (t' := s.toks) (o := .tup (xs ++ ys)) (fun b ob q => Heap.get?_push_of_some _ q) (Nat.le_refl _) ?_, rfl, q2 (fun w => z (r2.nil_iff.mpr w)) _ (I.hok.fresh (Nat.le_refl _))⟩
  exact ⟨by rw [List.length_append]; exact hz, _, r1.append r2, IsTup.new _ _⟩
end
end L2

namespace L2
open PySem PySem.Spec PyProof.Rows

/-- the place that an index of any sign means -/
def ixN (n : Nat) (i : Int) : Option Nat := if 0 ≤ i then (if i < n then some i.toNat else none) else if -(n : Int) ≤ i then some (i + n).toNat else none
def atI {α : Type} (xs : List α) (i : Int) : Option α := (ixN xs.length i).bind fun j => xs[j]?
theorem ixN_seq {n : Nat} {i : Int} {j : Nat} (h : ixN n i = some j) : seqIndex? i n = some j ∧ j < n ∧ -(n : Int) ≤ i ∧ i < n := by
  unfold ixN at h
  by_cases h0 : 0 ≤ i
  · rw [if_pos h0] at h
    by_cases h1 : i < n
    · rw [if_pos h1] at h
      have e : i.toNat = j := Option.some.inj h
      exact ⟨by rw [seqIndex_of h0 h1, e], by omega, by omega, h1⟩
    · rw [if_neg h1] at h; cases h
  · rw [if_neg h0] at h
    by_cases h1 : -(n : Int) ≤ i
    · rw [if_pos h1] at h
      have e : (i + n).toNat = j := Option.some.inj h
      exact ⟨by rw [seqIndex_neg (by omega) h1, e], by omega, h1, by omega⟩
    · rw [if_neg h1] at h; cases h
theorem atI_get {α : Type} {xs : List α} {i : Int} {v : α} (h : atI xs i = some v) : ∃ j, seqIndex? i xs.length = some j ∧ xs[j]? = some v ∧ j < xs.length ∧ -(xs.length : Int) ≤ i ∧ i < xs.length := by
  unfold atI at h
  cases e : ixN xs.length i with
  | none => rw [e] at h; cases h
  | some j =>
    rw [e] at h
    obtain ⟨h1, h2, h3, h4⟩ := ixN_seq e
    exact ⟨j, h1, h, h2, h3, h4⟩
theorem atI_nat {α : Type} {xs : List α} {j : Nat} {v : α} (h : xs[j]? = some v) : atI xs (j : Int) = some v := by
  have hj : j < xs.length := (List.getElem?_eq_some_iff.mp h).1
  have e : ixN xs.length (j : Int) = some j := by
    unfold ixN
    rw [if_pos (by omega), if_pos (by omega)]; simp
  unfold atI; rw [e]; exact h

/-- what stands as an index of a plain subscript -/
def PlainIx (b : Expr) : Prop := ∀ o i, subscripted b false o i = operate [o, i] (getItem o i)
/-- a subscript by values -/
def IxR (X : Cx) (r : R2) : Prop :=
  ∀ (value slice : Expr) (pins : List (Addr × Obj)) (s : Shared) (σ : St) (H : Hp) (x y : V) (v u : Value) (Q : VK), Inv X pins σ H s → RelV x v → RelV y u → r x y H Q →
    subscripted slice false v u = operate [v, u] (getItem v u) → wpAny (model X.prog X.w) X.A (subscriptTail value slice v u) (EP X pins σ Q) X.xe s
/-- a call of a builtin's method by values: the receiver, the arguments -/
def MtR (X : Cx) (id : String) (r : V → List V → Hp → VK → Prop) : Prop :=
  ∀ (pins : List (Addr × Obj)) (s : Shared) (σ : St) (H : Hp) (x : V) (xs : List V) (v : Value) (us : List Value) (Q : VK), Inv X pins σ H s → RelV x v → Vals xs us → r x xs H Q →
    wpAny (model X.prog X.w) X.A (call (.builtin id) (v :: us)) (EP X pins σ Q) X.xe s
section
variable {X : Cx} {a b : Expr} {ta tb : TE} {pos : Pos}
/-- a[b] -/
theorem pe_ix {r : R2} (hr : IxR X r) (ha : PE X a ta) (hb : PE X b tb) (hs : PlainIx b) : PE X (.Subscript a b pos) (tOp r ta tb) := by
  intro pins s σ H Q I h
  exact Subscript_ (binT ha hb I h fun v u s2 x y H2 I2 rx ry q => hr a b pins s2 σ H2 x y v u Q I2 rx ry q (hs _ _))

def rIxL (K : PySem.W.Frag) : R2 := fun x y H Q => ∃ p xs i v, x = .ref p ∧ y = .int i ∧ SqL K H p xs ∧ atI xs i = some v ∧ Q v H
def rIxT (K : PySem.W.Frag) : R2 := fun x y H Q => ∃ p xs i v, x = .ref p ∧ y = .int i ∧ SqT K H p xs ∧ atI xs i = some v ∧ Q v H
def rIxS : R2 := fun x y H Q => ∃ z i c, x = .str z ∧ y = .int i ∧ z.length ≤ sizeLine ∧ atI z.cps.toList i = some c ∧ Q (.str ⟨#[c]⟩) H
theorem ix_list : IxR X (rIxL X.K) := by
  intro value slice pins s σ H x y v u Q I rx ry h hs
  obtain ⟨p, xs, i, z, rfl, rfl, hq, he, q⟩ := h
  cases rx
  obtain ⟨t, rfl⟩ := ry
  obtain ⟨its, r, pl, hz⟩ := I.list hq
  obtain ⟨j, h1, h2, h3, h4, h5⟩ := atI_get he
  obtain ⟨w, ew, rw'⟩ := r.get h2
  have hl := r.length
  have hn := line63
  have fin : EP X pins σ Q w s := ⟨z, H, I, rw', q⟩
  by_cases h0 : 0 ≤ i
  · have hj : i.toNat = j := by
      rw [seqIndex_of h0 h5] at h1
      exact Option.some.inj h1
    exact item_listR pl.isList h0 (by omega) (by rw [hj]; simpa using ew) fin hs
  · have hj : (i + (its.toArray.size : Int)).toNat = j := by
      rw [seqIndex_neg (by omega) h4] at h1
      rw [List.size_toArray, ← hl]
      exact Option.some.inj h1
    exact subscriptTail_builtinR (x := w) pl.isList.typeIs slot_list_getitem.lookup
      (wpAny_getItem_list_neg (Q := fun r s' => r = w ∧ EP X pins σ Q r s') pl.isList (by omega) (by rw [List.size_toArray] <;> omega) (by omega) (by rw [hj]; simpa using ew) ⟨rfl, fin⟩) hs
theorem ix_tup : IxR X (rIxT X.K) := by
  intro value slice pins s σ H x y v u Q I rx ry h hs
  obtain ⟨p, xs, i, z, rfl, rfl, hq, he, q⟩ := h
  cases rx
  obtain ⟨t, rfl⟩ := ry
  obtain ⟨its, r, pl, hz⟩ := I.tuple hq
  obtain ⟨j, h1, h2, h3, h4, h5⟩ := atI_get he
  obtain ⟨w, ew, rw'⟩ := r.get h2
  have hl := r.length
  have hn := line63
  have fin : EP X pins σ Q w s := ⟨z, H, I, rw', q⟩
  exact subscriptTail_builtinR (x := w) pl.typeIs slot_tuple_getitem.lookup
    (getItem_tuple (j := j) (Q := fun r s' => r = w ∧ EP X pins σ Q r s') pl (by omega) (by omega) (by rw [List.size_toArray, ← hl]; exact h1) (by simpa using ew) ⟨rfl, fin⟩) hs
theorem ix_str : IxR X rIxS := by
  intro value slice pins s σ H x y v u Q I rx ry h hs
  obtain ⟨z, i, c, rfl, rfl, hz, he, q⟩ := h
  obtain ⟨t, rfl⟩ := rx
  obtain ⟨t', rfl⟩ := ry
  obtain ⟨j, h1, h2, h3, h4, h5⟩ := atI_get he
  have hl : z.cps.toList.length = z.length := by simp [Str.length]
  rw [hl] at h1 h4 h5
  have hn := line63
  exact tail_any (typeIs_str s z t) slot_str_getitem.lookup (getItem_str (c := c) (by
    have e1 : decide (i < -(2 ^ 63 : Int)) = false := decide_eq_false (by omega)
    have e2 : decide (i ≥ 2 ^ 63) = false := decide_eq_false (by omega)
    rw [e1, e2, Bool.or_false]) (by rw [h1]; simpa using h2) ⟨.str ⟨#[c]⟩, H, I.tok _, ⟨_, rfl⟩, q⟩) hs

theorem slice_bounds (lo hi : Option Int) (n : Nat) : (sliceBounds lo hi none n).1 = ((HT.sIx n 0 lo : Nat) : Int) ∧ (sliceBounds lo hi none n).2.1 = ((HT.sIx n n hi : Nat) : Int) ∧ (sliceBounds lo hi none n).2.2 = 1 := by
  refine ⟨?_, ?_, rfl⟩
  · cases lo with
    | none => simp [sliceBounds, HT.sIx]
    | some i =>
      simp only [sliceBounds, HT.sIx, Option.getD_none, show (1 : Int) > 0 by decide, if_true]
      by_cases h : i < 0
      · simp only [h, if_true] <;> omega
      · simp only [h, if_false] <;> omega
  · cases hi with
    | none => simp [sliceBounds, HT.sIx]
    | some i =>
      simp only [sliceBounds, HT.sIx, Option.getD_none, show (1 : Int) > 0 by decide, if_true]
      by_cases h : i < 0
      · simp only [h, if_true] <;> omega
      · simp only [h, if_false] <;> omega
theorem slicePick_cut (its : List Value) (lo hi : Option Int) : slicePick its.toArray lo hi none = ((its.drop (HT.sIx its.length 0 lo)).take (HT.sIx its.length its.length hi - HT.sIx its.length 0 lo)).toArray := by
  obtain ⟨h1, h2, h3⟩ := slice_bounds lo hi its.toArray.size
  unfold slicePick
  rw [h1, h2, h3]
  simp only [sliceRange_one, pick_run, List.size_toArray] <;> rfl
/-- xs[lo:hi] of a list: a new list -/
def rSlL (K : PySem.W.Frag) : V → Option Int → Option Int → Hp → VK → Prop := fun x lo hi H Q => ∃ a xs, x = .ref a ∧ SqL K H a xs ∧ ∀ p, H p = none → Q (.ref p) (upd H p (.lst (cutV xs lo hi)))
theorem sl_list : SlR X (rSlL X.K) := by
  intro pins s σ H x v vl vu lo hi sl Q I rx hs pl pu h
  obtain ⟨a, xs, rfl, hx, q⟩ := h
  cases rx
  obtain ⟨its, r, ht, hz⟩ := I.list hx
  have hlen := r.length
  refine ⟨"list", _, slot_list_getitem.lookup, ht.isList.typeIs, ?_⟩
  refine wpAny_getItem_list_slice ht.isList hs pl pu .none (by simp) ?_ (by rw [List.size_toArray] <;> omega)
  rw [slicePick_cut, ← hlen]
  refine ⟨.ref s.heap.objs.size, _, I.laid (t' := s.toks) (o := .lst (cutV xs lo hi)) (fun b ob q => Heap.get?_push_of_some _ q) (Nat.le_refl _) ?_, rfl, q _ (I.hok.fresh (Nat.le_refl _))⟩
  exact ⟨Nat.le_trans (cutV_length xs lo hi) hz, _, 0, (r.drop (HT.sIx xs.length 0 lo)).take (HT.sIx xs.length xs.length hi - HT.sIx xs.length 0 lo), Heap.get?_push_size _ rfl⟩

def flatV : V → Bool
  | .non => true
  | .bl _ => true
  | .int _ => true
  | .str _ => true
  | _ => false
/-- == of flat values -/
def eqV : V → V → Bool
  | .non, .non => true
  | .bl a, .bl b => a == b
  | .bl a, .int b => (if a then 1 else 0) == b
  | .int a, .bl b => a == (if b then 1 else 0)
  | .int a, .int b => a == b
  | .str a, .str b => a == b
  | _, _ => false
theorem eqAt_V {A : Around} {s : Shared} {y x : V} {u v : Value} (ry : RelV y u) (rx : RelV x v) (fy : flatV y = true) (fx : flatV x = true) : SeqAt.EqAt A s u v (eqV y x) := by
  cases y with
  | non =>
    cases ry
    cases x with
    | non => cases rx; exact SeqAt.EqAt.same _
    | bl b => cases rx; exact SeqAt.EqAt.none_bool b
    | int b => obtain ⟨t, rfl⟩ := rx; exact SeqAt.EqAt.none_int b t
    | str b => obtain ⟨t, rfl⟩ := rx; exact SeqAt.EqAt.none_str b t
    | _ => exact absurd (show false = true from fx) Bool.false_ne_true
  | bl a =>
    cases ry
    cases x with
    | non => cases rx; exact SeqAt.EqAt.bool_none a
    | bl b => cases rx; exact SeqAt.EqAt.bool_bool a b
    | int b => obtain ⟨t, rfl⟩ := rx; exact SeqAt.EqAt.bool_int a b t
    | str b => obtain ⟨t, rfl⟩ := rx; exact SeqAt.EqAt.bool_str a b t
    | _ => exact absurd (show false = true from fx) Bool.false_ne_true
  | int a =>
    obtain ⟨t', rfl⟩ := ry
    cases x with
    | non => cases rx; exact SeqAt.EqAt.int_none a t'
    | bl b => cases rx; exact SeqAt.EqAt.int_bool a t' b
    | int b => obtain ⟨t, rfl⟩ := rx; exact SeqAt.EqAt.int_int a t' b t
    | str b => obtain ⟨t, rfl⟩ := rx; exact SeqAt.EqAt.int_str a t' b t
    | _ => exact absurd (show false = true from fx) Bool.false_ne_true
  | str a =>
    obtain ⟨t', rfl⟩ := ry
    cases x with
    | non => cases rx; exact SeqAt.EqAt.str_none a t'
    | bl b => cases rx; exact SeqAt.EqAt.str_bool a t' b
    | int b => obtain ⟨t, rfl⟩ := rx; exact SeqAt.EqAt.str_int a t' b t
    | str b => obtain ⟨t, rfl⟩ := rx; exact SeqAt.EqAt.str_str a t' b t
    | _ => exact absurd (show false = true from fx) Bool.false_ne_true
  | _ => exact absurd (show false = true from fy) Bool.false_ne_true
/-- the items' answers, read off the values (a value's own answer does not lean on its token) -/
def eqU (x : V) (u : Value) : Bool := match u with
  | .none => eqV .non x
  | .bool b => eqV (.bl b) x
  | .int i _ => eqV (.int i) x
  | .str z _ => eqV (.str z) x
  | _ => false
theorem eqU_of {x y : V} {u : Value} (r : RelV y u) (f : flatV y = true) : eqU x u = eqV y x := by
  cases y with
  | non => cases r; rfl
  | bl b => cases r; rfl
  | int i => obtain ⟨t, rfl⟩ := r; rfl
  | str z => obtain ⟨t, rfl⟩ := r; rfl
  | _ => exact absurd (show false = true from f) Bool.false_ne_true
theorem any_eqU {x : V} : ∀ {xs : List V} {us : List Value}, Vals xs us → xs.all flatV = true → us.any (eqU x) = xs.any fun y => eqV y x
  | _, _, .nil, _ => rfl
  | y :: xs, u :: us, .cons r t, f => by
    rw [List.all_cons, Bool.and_eq_true] at f
    rw [List.any_cons, List.any_cons, eqU_of r f.1, any_eqU t f.2]
theorem mem_eqAt {A : Around} {s : Shared} {x : V} {v : Value} (rx : RelV x v) (fx : flatV x = true) : ∀ {xs : List V} {us : List Value}, Vals xs us → xs.all flatV = true → ∀ u ∈ us, SeqAt.EqAt A s u v (eqU x u)
  | _, _, .nil, _ => fun u hu => by cases hu
  | y :: xs, u :: us, .cons r t, f => fun u' hu => by
    rw [List.all_cons, Bool.and_eq_true] at f
    rcases List.mem_cons.mp hu with rfl | hu
    · rw [eqU_of r f.1]; exact eqAt_V r rx f.1 fx
    · exact mem_eqAt rx fx t f.2 u' hu
def inV (x : V) (xs : List V) : Bool := xs.any fun y => eqV y x
/-- x in a list or tuple of flat items -/
def rIn (K : PySem.W.Frag) (neg : Bool) : R2 := fun x y H Q => ∃ p xs, y = .ref p ∧ (SqL K H p xs ∨ SqT K H p xs) ∧ flatV x = true ∧ xs.all flatV = true ∧ Q (.bl (if neg then !inV x xs else inV x xs)) H
theorem op_in_seq : OpR X (compareOp .In) (rIn X.K false) := by
  intro pins s σ H x y v u Q I rx ry h
  obtain ⟨p, xs, rfl, hq, fx, fs, q⟩ := h
  cases ry
  rcases hq with hq | hq
  · obtain ⟨its, r, pl, hz⟩ := I.list hq
    refine SeqAt.in_listAt (eqU x) pl.isList (fun w hw => mem_eqAt rx fx r fs w (by simpa using hw)) ⟨.bl _, H, I, rfl, ?_⟩
    rw [show its.toArray.any (eqU x) = its.any (eqU x) by simp, any_eqU r fs]
    exact q
  · obtain ⟨its, r, pl, hz⟩ := I.tuple hq
    refine SeqAt.in_tupleAt (eqU x) pl (fun w hw => mem_eqAt rx fx r fs w (by simpa using hw)) ⟨.bl _, H, I, rfl, ?_⟩
    rw [show its.toArray.any (eqU x) = its.any (eqU x) by simp, any_eqU r fs]
    exact q
theorem op_notIn_seq : OpR X (compareOp .NotIn) (rIn X.K true) := by
  intro pins s σ H x y v u Q I rx ry h
  obtain ⟨p, xs, rfl, hq, fx, fs, q⟩ := h
  cases ry
  rcases hq with hq | hq
  · obtain ⟨its, r, pl, hz⟩ := I.list hq
    refine SeqAt.notIn_listAt (eqU x) pl.isList (fun w hw => mem_eqAt rx fx r fs w (by simpa using hw)) ⟨.bl _, H, I, rfl, ?_⟩
    rw [show its.toArray.any (eqU x) = its.any (eqU x) by simp, any_eqU r fs]
    exact q
  · obtain ⟨its, r, pl, hz⟩ := I.tuple hq
    refine SeqAt.notIn_tupleAt (eqU x) pl (fun w hw => mem_eqAt rx fx r fs w (by simpa using hw)) ⟨.bl _, H, I, rfl, ?_⟩
    rw [show its.toArray.any (eqU x) = its.any (eqU x) by simp, any_eqU r fs]
    exact q

theorem call_len_seq : CallR X (.builtin "len") (fun xs H Q => ∃ p ys, xs = [.ref p] ∧ (SqL X.K H p ys ∨ SqT X.K H p ys) ∧ Q (.int ys.length) H) := by
  intro pins s σ H xs us Q I r h
  obtain ⟨p, ys, rfl, hq, q⟩ := h
  obtain ⟨u, rfl, rx⟩ := vals1 r
  cases rx
  have hn := line63
  rcases hq with hq | hq
  · obtain ⟨its, r', pl, hz⟩ := I.list hq
    have hlen := r'.length
    exact Calls.call_len_list pl.isList (by simp only [List.size_toArray] <;> omega) ⟨.int ys.length, H, I.tok _, ⟨s.toks + 1, by rw [List.size_toArray, hlen]⟩, q⟩
  · obtain ⟨its, r', pl, hz⟩ := I.tuple hq
    have hlen := r'.length
    exact len_tuple pl (by simp only [List.size_toArray] <;> omega) ⟨.int ys.length, H, I.tok _, ⟨s.toks + 1, by rw [List.size_toArray, hlen]⟩, q⟩
theorem call_len_str : CallR X (.builtin "len") (fun xs H Q => ∃ z, xs = [.str z] ∧ z.length ≤ sizeLine ∧ Q (.int z.length) H) := by
  intro pins s σ H xs us Q I r h
  obtain ⟨z, rfl, hz, q⟩ := h
  obtain ⟨u, rfl, t, rfl⟩ := vals1 r
  have hn := line63
  exact len_str (by omega) ⟨.int z.length, H, I.tok _, ⟨_, rfl⟩, q⟩
theorem call_list_of : CallR X (.type "list") (fun xs H Q => ∃ p ys, xs = [.ref p] ∧ (SqL X.K H p ys ∨ SqT X.K H p ys) ∧ ∀ l, H l = none → Q (.ref l) (upd H l (.lst ys))) := by
  intro pins s σ H xs us Q I r h
  obtain ⟨p, ys, rfl, hq, q⟩ := h
  obtain ⟨u, rfl, rx⟩ := vals1 r
  cases rx
  have fin : ∀ (its : List Value), Vals ys its → ys.length ≤ sizeLine → ∀ (h' : Heap) (c' : Nat), (∀ b o', s.heap.get? b = some o' → h'.get? b = some o') →
      h'.get? s.heap.objs.size = some { cls := .type "list", dict := none, data := .seq its.toArray c', slots := #[] } → EP X pins σ Q (.ref s.heap.objs.size) { s with heap := h' } := fun its r' hz h' c' kp e =>
    ⟨.ref s.heap.objs.size, _, I.laid (t' := s.toks) kp (Nat.le_refl _) (show ObjOk X.prog X.w _ h' _ (.lst ys) from ⟨hz, its, c', r', e⟩), rfl, q _ (I.hok.fresh (Nat.le_refl _))⟩
  rcases hq with hq | hq
  · obtain ⟨its, r', pl, hz⟩ := I.list hq
    have hlen := r'.length
    obtain ⟨o, ho, hc, n, hd⟩ := pl.isList
    exact call_list_seq p (.inl rfl) ho hc hd (fun h' c' kp e => fin its r' hz h' c' kp e) (by simp only [List.size_toArray] <;> omega)
  · obtain ⟨its, r', pl, hz⟩ := I.tuple hq
    have hlen := r'.length
    obtain ⟨o, ho, hc, n, hd⟩ := pl
    exact call_list_seq p (.inr rfl) ho hc hd (fun h' c' kp e => fin its r' hz h' c' kp e) (by simp only [List.size_toArray] <;> omega)
theorem call_tuple_of : CallR X (.type "tuple") (fun xs H Q => ∃ p ys, xs = [.ref p] ∧ ((SqL X.K H p ys ∧ ∀ l, H l = none → Q (.ref l) (upd H l (.tup ys))) ∨ (SqT X.K H p ys ∧ Q (.ref p) H))) := by
  intro pins s σ H xs us Q I r h
  obtain ⟨p, ys, rfl, h⟩ := h
  obtain ⟨u, rfl, rx⟩ := vals1 r
  cases rx
  rcases h with ⟨hq, q⟩ | ⟨hq, q⟩
  · obtain ⟨its, r', pl, hz⟩ := I.list hq
    have hlen := r'.length
    refine call_tuple_list pl.isList (fun h' kp => ?_) (by simp only [List.size_toArray] <;> omega)
    have I1 : Inv X pins σ H { s with heap := h' } := I.kept (t' := s.toks) kp
    have I2 : Inv X pins σ (upd H h'.objs.size (.tup ys)) { s with heap := h'.push { cls := .type "tuple", data := .seq its.toArray } } :=
      I1.laid (t' := s.toks) (fun b o e => Heap.get?_push_of_some _ e) (Nat.le_refl _) (show ObjOk X.prog X.w _ _ _ (.tup ys) from ⟨hz, its, r', IsTup.new _ _⟩)
    exact ⟨.ref h'.objs.size, _, I2, rfl, q _ (I1.hok.fresh (Nat.le_refl _))⟩
  · obtain ⟨its, r', pl, hz⟩ := I.tuple hq
    exact call_tuple_same pl ⟨.ref p, H, I, rfl, q⟩

/-- the value is of that builtin type -/
def tyV (K : PySem.W.Frag) (T : String) (x : V) (H : Hp) : Prop := match x with
  | .str _ => T = "str"
  | .int _ => T = "int"
  | .ref p => (T = "list" ∧ ∃ xs, SqL K H p xs) ∨ (T = "tuple" ∧ ∃ o, K.lookup p = some o ∧ o.cls = .type "tuple" ∧ o.dict = none) ∨
      (T = "dict" ∧ ((∃ kvs, H p = some (.dK kvs)) ∨ ∃ kvs, H p = some (.dT kvs))) ∨ (T = "set" ∧ ∃ S n, H p = some (.set S n))
  | _ => False
theorem tyV_is {pins : List (Addr × Obj)} {σ : St} {H : Hp} {s : Shared} {T : String} {x : V} {v : Value} (I : Inv X pins σ H s) (r : RelV x v) (ty : tyV X.K T x H) :
    s.TypeIs v T ∧ ∀ a, v = .ref a → ∃ ob, s.heap.get? a = some ob ∧ ob.dict = none := by
  cases x with
  | str z =>
    obtain ⟨t, rfl⟩ := r
    cases (show T = "str" from ty)
    exact ⟨typeIs_str s z t, fun _ e => nomatch e⟩
  | int i =>
    obtain ⟨t, rfl⟩ := r
    cases (show T = "int" from ty)
    exact ⟨typeIs_int s i t, fun _ e => nomatch e⟩
  | ref p =>
    cases r
    rcases ty with ⟨rfl, xs, hq⟩ | ⟨rfl, o, hk, hc, hd⟩ | ⟨rfl, hk⟩ | ⟨rfl, S, n, hk⟩
    · obtain ⟨its, _, pl, _⟩ := I.list hq
      refine ⟨pl.isList.typeIs, fun a e => ?_⟩
      cases e
      obtain ⟨o, n, e, c, hd, _⟩ := pl
      exact ⟨o, e, hd⟩
    · refine ⟨⟨o, I.kIn p o hk, hc⟩, fun a e => ?_⟩
      cases e
      exact ⟨o, I.kIn _ o hk, hd⟩
    · have z : ∃ o, s.heap.get? p = some o ∧ o.ExactDict := by
        rcases hk with ⟨kvs, hk⟩ | ⟨kvs, hk⟩
        · obtain ⟨_, _, _, _, o, _, _, e, ex, _⟩ := I.hok p _ hk
          exact ⟨o, e, ex⟩
        · obtain ⟨_, _, _, _, o, _, _, e, ex, _⟩ := I.hok p _ hk
          exact ⟨o, e, ex⟩
      obtain ⟨o, e, ex⟩ := z
      refine ⟨⟨o, e, ex.1⟩, fun a e2 => ?_⟩
      cases e2
      exact ⟨o, e, ex.2.1⟩
    · obtain ⟨o, _, _, _, e, ex, _⟩ := I.hok p _ hk
      refine ⟨⟨o, e, ex.1⟩, fun a e2 => ?_⟩
      cases e2
      exact ⟨o, e, ex.2.1⟩
  | _ => exact False.elim ty
variable {o e : Expr} {es : List Expr} {to : TE} {t : TA} {name : Str} {apos cpos : Pos} {T id : String} {r : V → List V → Hp → VK → Prop}
/- xs.append(e), list.index on a module's tuple .. are MtR facts of 06m -/
end
end L2

namespace L2
open PySem PySem.Spec PyProof.Rows

def MtM (X : Cx) (id : String) (r : V → List V → Hp → VK → Prop) : Prop :=
  ∀ (pins : List (Addr × Obj)) (s : Shared) (σ : St) (H : Hp) (x : V) (xs : List V) (v : Value) (us : List Value) (Q : VK), Inv X pins σ H s → RelV x v → Vals xs us → r x xs H Q →
    wpAny (model X.prog X.w) X.A (call (.builtin id) (v :: us)) (EP X pins σ Q) X.xe s

theorem Vals.one : ∀ {x : V} {us : List Value}, Vals [x] us → ∃ u, us = [u] ∧ RelV x u
  | _, _, .cons r .nil => ⟨_, rfl, r⟩
theorem Vals.two : ∀ {x y : V} {us : List Value}, Vals [x, y] us → ∃ u v, us = [u, v] ∧ RelV x u ∧ RelV y v
  | _, _, _, .cons r (.cons q .nil) => ⟨_, _, rfl, r, q⟩
theorem Vals.rep {xs : List V} {us : List Value} (h : Vals xs us) : ∀ k : Nat, Vals (List.replicate k xs).flatten (List.replicate k us).flatten
  | 0 => .nil
  | k + 1 => by
    rw [List.replicate_succ, List.replicate_succ, List.flatten_cons, List.flatten_cons]
    exact Vals.append h (Vals.rep h k)
theorem foldl_rep (its : List Value) : ∀ (k : Nat) (acc : List Value),
    List.foldl (fun x1 x2 => x1 ++ x2) acc.toArray (List.replicate k its.toArray) = (acc ++ (List.replicate k its).flatten).toArray
  | 0, acc => by simp
  | k + 1, acc => by
    have e : acc.toArray ++ its.toArray = (acc ++ its).toArray := by simp
    have e2 : (acc ++ its) ++ (List.replicate k its).flatten = acc ++ (List.replicate (k + 1) its).flatten := by
      rw [List.replicate_succ, List.flatten_cons, List.append_assoc]
    rw [← e2, ← foldl_rep its k (acc ++ its), ← e, List.replicate_succ, List.foldl_cons]

section
variable {X : Cx} {pins : List (Addr × Obj)} {σ : St} {H : Hp} {s : Shared} {l b : Addr} {xs ys zs : List V}

theorem Inv.lset {its its' : List Value} {n : Nat} {f : Array Value → Array Value} {t' : Nat} (I : Inv X pins σ H s) (hH : H l = some (.lst xs))
    (e : s.heap.get? l = some { cls := .type "list", data := .seq its.toArray n }) (hf : f its.toArray = its'.toArray) (hv : Vals ys its') (hz : ys.length ≤ sizeLine) :
    Inv X pins σ (upd H l (.lst ys)) { s with heap := s.heap.update l (Obj.mapSeq f), toks := t' } := by
  have q := PySem.IsL.update e f
  rw [hf] at q
  refine I.write (x := l) (e := l) (by rw [hH]; exact trivial) (.inl rfl) (fun b' u hb hu => (Heap.get?_update_other s.heap (Obj.mapSeq f) (Ne.symm hb)).trans hu) ⟨_, q⟩ ?_
  exact ⟨hz, its', _, hv, q⟩
theorem Inv.lnew {its : List Value} {t' : Nat} (I : Inv X pins σ H s) (hv : Vals ys its) (hz : ys.length ≤ sizeLine) :
    Inv X pins σ (upd H s.heap.objs.size (.lst ys)) { s with heap := s.heap.push { cls := .type "list", data := .seq its.toArray }, toks := t' } :=
  I.laid (fun _ _ q => Heap.get?_push_of_some _ q) (Nat.le_refl _) ⟨hz, its, 0, hv, Heap.get?_push_size _ rfl⟩
theorem Inv.fresh (I : Inv X pins σ H s) : H s.heap.objs.size = none := I.hok.fresh (Nat.le_refl _)
theorem Inv.lstM (I : Inv X pins σ H s) (hH : H l = some (.lst xs)) : xs.length ≤ sizeLine ∧ ∃ (its : List Value) (n : Nat), Vals xs its ∧ xs.length = its.length ∧ s.heap.get? l = some { cls := .type "list", data := .seq its.toArray n } := by
  obtain ⟨z, its, n, r, e⟩ := I.hok l _ hH
  exact ⟨z, its, n, r, r.length, e⟩

theorem notLongL {n : Nat} (h : n ≤ sizeLine) : Builtin.List.listTooLong n = false := by
  unfold Builtin.List.listTooLong
  exact decide_eq_false (by omega)
end

section
variable {X : Cx}

def rAppend : V → List V → Hp → VK → Prop := fun x vs H Q => ∃ l xs y, x = .ref l ∧ vs = [y] ∧ H l = some (.lst xs) ∧ xs.length < sizeLine ∧ Q .non (upd H l (.lst (xs ++ [y])))
theorem mt_append : MtM X "list.append" rAppend := by
  intro pins s σ H x vs v us Q I rx rv h
  obtain ⟨l, xs, y, rfl, rfl, hH, hz, q⟩ := h
  cases rx
  obtain ⟨u, rfl, ru⟩ := rv.one
  obtain ⟨z, its, n, r, hl, e⟩ := I.lstM hH
  refine call_meets F.slot_list_append ⟨_, e, rfl⟩ F.entry_list_append (F.args_list_append_2 _ _) (PySem.list_append l its.toArray n u (by rw [List.size_toArray]; omega)) ⟨e, ?_⟩
  refine ⟨.non, _, I.lset (its' := its ++ [u]) hH e (by simp) (r.append (.cons ru .nil)) ?_, rfl, q⟩
  rw [List.length_append, List.length_singleton]
  omega

def rCat : R2 := fun x y H Q => ∃ l b xs zs, x = .ref l ∧ y = .ref b ∧ H l = some (.lst xs) ∧ H b = some (.lst zs) ∧ xs.length + zs.length ≤ sizeLine ∧ ∀ p, H p = none → Q (.ref p) (upd H p (.lst (xs ++ zs)))
theorem op_cat : OpR X (binaryOp .Add) rCat := by
  intro pins s σ H x y v u Q I rx ry h
  obtain ⟨l, b, xs, zs, rfl, rfl, hH, hB, hz, q⟩ := h
  cases rx
  cases ry
  obtain ⟨z, its, n, r, hl, e⟩ := I.lstM hH
  obtain ⟨z2, its2, n2, r2, hl2, e2⟩ := I.lstM hB
  refine PySem.P.add_list e e2 ?_ (by rw [List.size_toArray, List.size_toArray]; omega)
  have ea : its.toArray ++ its2.toArray = (its ++ its2).toArray := by simp
  rw [ea]
  exact ⟨.ref _, _, I.lnew (t' := s.toks) (r.append r2) (by rw [List.length_append]; omega), rfl, q _ I.fresh⟩
/-- a list times an int (a negative one is nothing) -/
def rRep : R2 := fun x y H Q => ∃ l k xs, x = .ref l ∧ y = .int k ∧ H l = some (.lst xs) ∧ -(2 ^ 63) ≤ k ∧ k < 2 ^ 63 ∧ xs.length * k.toNat ≤ sizeLine ∧
  ∀ p, H p = none → Q (.ref p) (upd H p (.lst (List.replicate k.toNat xs).flatten))
theorem len_rep {α : Type} (xs : List α) (k : Nat) : (List.replicate k xs).flatten.length = k * xs.length := by
  induction k with
  | zero => simp
  | succ k ih => rw [List.replicate_succ, List.flatten_cons, List.length_append, ih, Nat.succ_mul, Nat.add_comm]
theorem op_rep : OpR X (binaryOp .Mult) rRep := by
  intro pins s σ H x y v u Q I rx ry h
  obtain ⟨l, k, xs, rfl, rfl, hH, h1, h2, hz, q⟩ := h
  cases rx
  obtain ⟨t, rfl⟩ := ry
  obtain ⟨z, its, n, r, hl, e⟩ := I.lstM hH
  have hlen : its.toArray.size * k.toNat ≤ sizeLine := by rw [List.size_toArray, ← hl]; exact hz
  have hcap : ¬ its.toArray.size * k.toNat > (2 ^ 63 - 1) / 8 := by
    have : (sizeLine : Nat) ≤ (2 ^ 63 - 1) / 8 := by decide
    omega
  have hfit : ¬ (!Builtin.List.listFitsIndex k) = true := by
    rw [fitsIndex_both h1 h2]
    exact Bool.false_ne_true
  have hlong : ¬ Builtin.List.listTooLong (its.toArray.size * k.toNat) = true := by
    rw [notLongL hlen]
    exact Bool.false_ne_true
  have hnew : List.foldl (fun x1 x2 => x1 ++ x2) #[] (List.replicate (if its.toArray.isEmpty = true then 0 else k.toNat) its.toArray) = (List.replicate k.toNat its).flatten.toArray := by
    have f0 : ∀ m : Nat, List.foldl (fun x1 x2 => x1 ++ x2) #[] (List.replicate m its.toArray) = (List.replicate m its).flatten.toArray := fun m => by
      have := foldl_rep its m []
      rw [List.nil_append] at this
      exact this
    rw [f0]
    cases its with
    | nil => simp
    | cons a r' => rw [if_neg (by simp)]
  refine wpAny_binaryOp_repeat_ref (T := "list") (U := "int") (by decide) ⟨_, e, rfl⟩ (fun s' => typeIs_int s' k t) noFill_list_mul F.fills_int_mul F.slot_int_rmul repeat_list F.slot_int_index.lookup
    (call_meets F.slot_int_rmul (typeIs_int s k t) F.entry_int_rmul (F.args_int_rmul_2 _ _) (int___rmul___int_list k t l its.toArray n)
      ⟨e, rfl, ⟨_, e, rfl⟩, call_meets F.slot_list_mul ⟨_, e, rfl⟩ F.entry_list_mul (F.args_list_mul_2 _ _) (AutoListH.list___mul___list_int_3 l its.toArray n k t hfit hcap hlong) ⟨e, ?_⟩⟩)
  rw [hnew]
  exact ⟨.ref _, _, I.lnew (t' := s.toks) (r.rep k.toNat) (by rw [len_rep, Nat.mul_comm]; exact hz), rfl, q _ I.fresh⟩

end

section
variable {prog : Program} {w : World} {A : Around} {E : Value → Shared → Prop} {s : Shared}
set_option maxRecDepth 100000 in
end

section
variable {X : Cx}
end
end L2

namespace Att
open PySem PySem.W PySem.Calls PyProof.Rows

theorem ints_of_wellAll {P : Params} {h : Heap} : ∀ (ns : List Int) (vs : List Value), WellAll P h vs (ns.map WData.int) → IntsAre vs ns := by
  intro ns
  induction ns with
  | nil =>
    intro vs w
    rw [List.map_nil] at w
    cases w
    exact .nil
  | cons n ns ih =>
    intro vs w
    rw [List.map_cons] at w
    cases w with
    | cons a b =>
      cases a
      exact .cons _ _ (ih _ b)

theorem script_of {l : OpenLaw} {n : Nat} (hn : l.most = some n) {P : Params} {h : Heap} {args : List WData} {vals : List Value}
    (hpre : l.row.toRowW.claim.pre args = true) (hwl : WellAll P h vals args) :
    ∃ a vs ns, vals = [Value.ref a] ∧ args = [WData.list (ns.map WData.int)] ∧ h.get? a = some { cls := .type "list", data := .seq vs.toArray } ∧ IntsAre vs ns ∧ ns.length ≤ n := by
  have hsh : WShape.hasAll [] args [.list .int] = true := (pre_splitW hpre).1
  have hc : l.pre.holds [] { args := args } = true := (pre_splitW hpre).2
  obtain ⟨d, r, rfl, h1, h2⟩ := hasAllW_cons hsh
  obtain rfl := hasAllW_nil h2
  obtain ⟨xs, rfl, h3⟩ := hasW_list h1
  obtain ⟨ns, rfl⟩ := items_int h3
  have hlen : ns.length ≤ n := by
    unfold OpenLaw.pre at hc
    have h4 : (WTm.not (.lt (.lit (.int (n : Int))) (.len (.arg 0)))).holds [] { args := [.list (ns.map .int)] } = true := by
      have h4 := (holds_andW hc).1
      rw [hn] at h4
      exact h4
    have h5 := condW_of h4 (w_not (w_lt w_lit (w_len_list (w_arg rfl))))
    rw [List.length_map] at h5
    refine Nat.le_of_not_lt fun q => ?_
    have q' : (n : Int) < ((ns.length : Nat) : Int) := by omega
    first
      | (rw [decide_eq_true q'] at h5; exact absurd h5 (by decide))
      | (simp at h5; omega)
  cases hwl with
  | cons w1 w2 =>
    cases w2
    cases w1 with
    | list ho hall => exact ⟨_, _, ns, rfl, rfl, ho, ints_of_wellAll ns _ hall, hlen⟩

theorem post_true (l : OpenLaw) (args : List WData) : l.row.toRowW.claim.post args (.bool true) args = true :=
  postW_of (r := l.row.toRowW) (X := (true == true))
    (show WShape.has [] (.bool true) .bool = true by first | rfl | decide | simp [WShape.has, WShape.arms, WShape.armsAll])
    (show (WTm.eq .res (.lit (.bool true))).value [] { args := args, res := some (.bool true), after := args } = some (.bool (true == true)) from w_eq_bool (w_res rfl) w_lit) rfl

/-- the same from a codeAny of the CALL (for a layer whose function contracts speak of calls) -/
theorem attach_call {l : OpenLaw} {n : Nat} {q : Program} {loose : List Str} {XP : (Str → Option Value) → Heap → Prop} {YP : World → Heap → Prop} {d : DefRec}
    (hn : l.most = some n) (hdf : d.params.defaults = [])
    (call : ∀ (w : World) (s₀ s₁ : Shared) (mg mb : Str → Option Value) (fa : Addr) (o : Obj) (pm cd doc : Value) (a : Addr) (vs : List Value) (ns : List Int),
      Ground q loose [] XP w s₀ mg mb s₁.heap → YP w s₁.heap →
      s₁.heap.get? fa = some o → o.data = .func (docDef d.name d.params d.body d.scope pm cd doc) → s₁.heap.CodeRec cd d.name → mg d.name = some (.ref fa) →
      s₁.heap.get? a = some { cls := .type "list", data := .seq vs.toArray } → IntsAre vs ns → ns.length ≤ n → s₁.gens = #[] →
      codeAny (model l.prog w) callerA (.call (.ref fa) ⟨[.ref a], []⟩) (fun r s' => r = .ok (.ret (.bool true)) ∧ OldK s₁.heap s'.heap ∧ s'.os = s₁.os ∧ AllBare s'.gens) s₁) :
    WalkO q loose XP YP l.row.toRowW d [] (fun f vs => PySem.call f vs) := by
  intro w s₀ s₁ mg mb G Y fa o pm cd doc dV kV ho hd hcd hD hmg hg args vals as hpre hlay hrd hwl hlo
  obtain rfl : dV = .none := Dflts.none hD hdf
  obtain rfl : kV = .none := Dflts.noKw hD
  obtain ⟨a, vs, ns, rfl, rfl, hobj, hints, hlen⟩ := script_of hn hpre hwl
  refine enter_call (codeAny_mono (call w s₀ s₁ mg mb fa o pm cd doc a vs ns G Y ho (fd_plain hd) hcd hmg hobj hints hlen hg) fun r s' hq => ?_)
  obtain ⟨rfl, h2, h3, h4⟩ := hq
  exact ⟨.inl ⟨.bool true, .bool true, [], rfl, fun _ => rfl, .bool true, post_true l _, fun _ => ⟨List.Pairwise.nil, fun _ hm => (nomatch hm)⟩⟩, h2, h3, h4⟩

section
variable {prog : Program} {w : World} {A : Around} {E : Value → Shared → Prop} {s : Shared} {K : Frag}

end
end Att

namespace L2
open PySem PySem.Spec PyProof.Rows

theorem vals_ints : ∀ {vs : List Value} {ns : List Int}, IntsAre vs ns → Vals (ns.map V.int) vs
  | _, _, .nil => .nil
  | _, _, .cons n t h => .cons ⟨t, rfl⟩ (vals_ints h)

/-- nothing is tracked but the script, known to the object (or it is an object of the module) -/
def Only (H : Hp) : Prop := ∀ b, H b = none ∨ ∃ o xs, H b = some (.frz o (.lst xs))

/-- THE HEAD: the law's promise, at the heap behind the top. F, the promise of the law's def, may use that base is part of the heap (so K.In base, base.Ns mainGlobals mg stand in Mod) -/
theorem law_call {P : Program} {w : World} {K : PySem.W.Frag} {mg mb : Str → Option Value} {CX : CXT} {k : Nat} {fa a : Addr} {fd : FuncData} {x : Str} {sp : Sp} {s₁ : Shared} {vs : List Value} {ns : List Int}
    (KX : K.In s₁.heap) (hns : s₁.heap.Ns mainGlobals mg) (hb : s₁.heap.Ns builtinsNs mb) (hbb : ∀ x : Str, x ≠ "__name__" → mb x = bootBuiltins x) (hlim : s₁.heap.NoLimit) (hg : s₁.gens = #[])
    (ha : s₁.heap.get? a = some { cls := .type "list", data := .seq vs.toArray }) (hi : IntsAre vs ns) (hl : ns.length ≤ sizeLine) (hr : Room k callerA)
    (F : ∀ base : Heap, K.In base → base.Ns mainGlobals mg → FnOk P w K mg base CX k fa fd [x] sp) (hbind : ∀ (s : Shared) (u : Value), BindsTo s fd ⟨[u], []⟩ [(x, u)])
    (hsp : ∀ H : Hp, Only H → SqL K H a (ns.map V.int) → sp [.ref a] H (fun v _ => v = .bl true) fun _ _ _ => False)
    (hCX : ∀ H e s', CX [] H s₁ (fun _ _ _ => False) e s' → False) :
    codeAny (model P w) callerA (.call (.ref fa) ⟨[.ref a], []⟩) (fun r s' => r = .ok (.ret (.bool true)) ∧ OldK s₁.heap s'.heap ∧ s'.os = s₁.os ∧ AllBare s'.gens) s₁ := by
  have rv := vals_ints hi
  have lenV := hi.length
  -- from an abstract heap in which nothing but the script may be tracked
  have core : ∀ H : Hp, Only H → SqL K H a (ns.map V.int) → HOk P w H s₁.heap → (∀ b, H b ≠ none → b = a) → (H a ≠ none → K.lookup a = none) →
      codeAny (model P w) callerA (.call (.ref fa) ⟨[.ref a], []⟩) (fun r s' => r = .ok (.ret (.bool true)) ∧ OldK s₁.heap s'.heap ∧ s'.os = s₁.os ∧ AllBare s'.gens) s₁ := by
    intro H hO hS hok hA hK
    have base_of : ∀ {b : Addr} {o : Obj}, s₁.heap.get? b = some o → H b = none → (hidT s₁.heap H).get? b = some o := fun e n => hidT_get e n
    have noA : ∀ {b : Addr} {o : Obj} {es : Array DictEntry} {ep : Nat}, s₁.heap.get? b = some o → o.data = .dict es ep → H b = none := fun {b o es ep} e d => by
      cases q : H b with
      | none => rfl
      | some u =>
        have e' : b = a := hA b (by rw [q]; simp)
        subst e'
        rw [ha] at e; cases e
        have d' : Data.seq vs.toArray _ = Data.dict es ep := d
        cases d'
    have nsK : ∀ {b : Addr} {m : Str → Option Value}, s₁.heap.Ns b m → (hidT s₁.heap H).Ns b m := fun {b m} ⟨o, es, ep, e, d, r⟩ => ⟨o, es, ep, base_of e (noA e d), d, r⟩
    have hKb : K.In (hidT s₁.heap H) := fun b o e => base_of (KX b o e) (by
      cases q : H b with
      | none => rfl
      | some u =>
        have e' : b = a := hA b (by rw [q]; simp)
        subst e'
        rw [hK (by rw [q]; simp)] at e; cases e)
    have hM : Mod K mg (hidT s₁.heap H) := ⟨hKb, nsK hns, ⟨mb, nsK hb, hbb⟩, let ⟨mc, h1, h2⟩ := hlim; ⟨mc, nsK h1, h2⟩⟩
    have e0 : Env0 P w K mg (hidT s₁.heap H) callerA [] s₁ H := ⟨rfl, hM, fun b o e => of_hidT e, Nat.le_of_eq (hidT_size _ _), trivial, fun b hb => absurd (show b ∈ ([] : List Addr) from hb) (by simp), hok, .of_eq hg⟩
    refine codeAny_mono ((F _ hKb (nsK hns)).run callerA [] s₁ H ⟨[.ref a], []⟩ [.ref a] [.ref a] _ _ hr e0 (hbind s₁ (.ref a)) (.cons rfl .nil) (hsp H hO hS)) fun r s' h => ?_
    cases r with
    | error e => exact (hCX H e s' h).elim
    | ok fl =>
      cases fl with
      | next => exact False.elim h
      | brk => exact False.elim h
      | cont => exact False.elim h
      | ret u =>
        obtain ⟨v, H', os, bare, un, hok', r', q⟩ := h
        have q' : v = .bl true := q
        subst q'
        obtain rfl : u = Value.bool true := r'
        refine ⟨rfl, OldK.of_keep fun b o e => ?_, os, bare⟩
        cases q : H b with
        | none => exact un.keep b o e q (by intro z; exact absurd (show b ∈ ([] : List Addr) from z) (by simp)) (by simp)
        | some u =>
          rcases hO b with z | ⟨ob, xs, z⟩
          · rw [q] at z; cases z
          · have z2 := un.frzs b ob _ z
            obtain ⟨e1, _⟩ := hok b _ z
            obtain ⟨e2, _⟩ := hok' b _ z2
            rw [e] at e1; cases e1
            exact e2
  cases hk : K.lookup a with
  | some o =>
    -- the script is one of the module's own objects
    have e := KX a o hk
    rw [ha] at e
    cases e
    refine core (fun _ => none) (fun _ => .inl rfl) (.inr ⟨_, vs.toArray, _, hk, rfl, rfl, rfl, by rw [List.size_toArray, lenV]; exact hl, by simpa using rv⟩) (fun b u z => by have z' : (none : Option HO) = some u := z; cases z') (fun b z => absurd rfl z) fun z => absurd rfl z
  | none =>
    refine core (fun b => if b = a then some (.frz { cls := .type "list", data := .seq vs.toArray } (.lst (ns.map V.int))) else none) (fun b => ?_) (.inl (.inr ⟨{ cls := .type "list", data := .seq vs.toArray }, if_pos rfl⟩)) (fun b u z => ?_) (fun b z => ?_) fun _ => hk
    · by_cases hb : b = a
      · exact .inr ⟨_, _, if_pos hb⟩
      · exact .inl (if_neg hb)
    · by_cases hb : b = a
      · have z' := (if_pos hb).symm.trans z
        cases z'
        subst hb
        exact ⟨ha, by rw [List.length_map]; exact hl, vs, _, rv, ha⟩
      · have z' := (if_neg hb).symm.trans z
        cases z'
    · by_cases hb : b = a
      · exact hb
      · exact absurd (if_neg hb) z
end L2

namespace L2
open PySem PySem.Spec PyProof.Rows

/-- the goal that k_head leaves (case hc), from the law's promise. F gives the function object fd (K's own) once, then the promise over every base -/
theorem walk_of {l : PySem.W.OpenLaw} {n k : Nat} {q : Program} {loose : List Str} {XP : (Str → Option Value) → Heap → Prop} {YP : World → Heap → Prop} {d : DefRec} {K : Params → PySem.W.Frag} {CX : World → CXT} {sp : World → Sp} {x : Str}
    (hn : l.most = some n) (hn2 : n ≤ sizeLine) (hdf : d.params.defaults = []) (hr : Room k callerA)
    (hY : ∀ (w : World) (h : Heap), YP w h → (K w.params).In h)
    (F : ∀ (w : World) (mg : Str → Option Value) (fa : Addr) (h : Heap), (K w.params).In h → h.Ns mainGlobals mg → mg d.name = some (.ref fa) →
      ∃ fd : FuncData, (∀ (s : Shared) (u : Value), BindsTo s fd ⟨[u], []⟩ [(x, u)]) ∧
        ∀ base : Heap, (K w.params).In base → base.Ns mainGlobals mg → FnOk l.prog w (K w.params) mg base (CX w) k fa fd [x] (sp w))
    (hsp : ∀ (w : World) (H : Hp) (a : Addr) (ns : List Int), ns.length ≤ n → Only H → SqL (K w.params) H a (ns.map V.int) → sp w [.ref a] H (fun v _ => v = .bl true) fun _ _ _ => False)
    (hCX : ∀ (w : World) (H : Hp) (s : Shared) (e : Value) (s' : Shared), CX w [] H s (fun _ _ _ => False) e s' → False) :
    PySem.W.WalkO q loose XP YP l.row.toRowW d [] (fun f vs => PySem.call f vs) := by
  refine Att.attach_call hn hdf fun w s₀ s₁ mg mb fa o pm cd doc a vs ns G Y ho hd hcd hmg hobj hints hlen hg => ?_
  have KX := hY w _ Y
  obtain ⟨fd, hb, hF⟩ := F w mg fa _ KX G.T.g hmg
  exact law_call KX G.T.g G.T.b G.T.builtins G.T.nolimit hg hobj hints (Nat.le_trans hlen hn2) hr hF hb (fun H hO hS => hsp w H a ns hlen hO hS) fun H e s' => hCX w H s₁ e s'
end L2

/- THE LAST THEOREM (shape; LID, My.* are yours):
   My.Adr: a structure of the addresses that your layer names (classes, functions); My.Txt K t: a structure (Prop) of the equations over K;
   My.txt_mk : {K} {implicit addresses ..} (e1 : nsIn K mainGlobals "law" = some (some (.ref f))) (e2 : K.lookup f = some ⟨oc, od, .func (fnOf "law" "law" params body scope dV kV doc pm an cdv ct), sl⟩) (e3 : codeIn K cdv "law" = true) .. : ∃ t, My.Txt K t

set_option maxRecDepth 100000 in
set_option maxHeartbeats 0 in
theorem PySem.Challenge.cw_LID_holds : PySem.Challenge.rw_LID.Holds := by
  w_on; o_law; k_head; (case hw => w_witness2)
  k_fill
  refine L2.walk_of (l := PySem.Challenge.rw_LID) (n := 63) (k := 40) (x := "script") (CX := fun w => ..) (sp := fun _ => My.sp_law) rfl (by decide) rfl ⟨rfl, by decide, by decide⟩ (fun w h Y => PySem.W.kIn_of Y) ?F ?S ?C
  case F =>
    intro w mg fa h KX G hmg
    have T : ∃ t, My.Txt (L2.KOf KX) t := by
      dsimp only [L2.KOf]                          -- K must stand as «<heap const> w.params» for k_is
      refine' My.txt_mk ?e1 ?e2 ?e3 ..
      (case e1 => PySem.W.k_is)                    -- in the order: a name -> its address -> its object -> its parts
      (case e2 => PySem.W.k_is)
      ..
    obtain ⟨t, T⟩ := T
    have e0 := hmg.symm.trans (PySem.W.mg_of KX G T.law)
    cases e0                                       -- fa is the law's own address
    exact ⟨_, fun s u => .of_eq rfl, fun base kb nb => My.law_fn T kb nb⟩     -- if «.of_eq rfl» comes too early: refine' ⟨_, ?b, fun base kb nb => My.law_fn T kb nb⟩; exact fun s u => .of_eq rfl
  case S => exact fun w H a ns hl hO hS => ..
  case C => exact ..
(the tactic k_is has no namespace: write k_is) -/

namespace L2
open PySem PySem.Spec PyProof.Rows

/-- the j-th statement of a class's body -/
def inClass (s : Stmt) (j : Nat) : Stmt := match s with
  | .ClassDef _ _ _ body _ _ _ _ _ _ _ => body.getD j (.Pass ⟨0, 0, 0, 0⟩)
  | _ => .Pass ⟨0, 0, 0, 0⟩
def defArgs (s : Stmt) : Arguments := match s with
  | .FunctionDef _ a _ _ _ _ _ _ _ _ => a
  | _ => { posonlyargs := [], args := [], vararg := none, kwonlyargs := [], kw_defaults := [], kwarg := none, defaults := [] }
def defBody (s : Stmt) : List Stmt := match s with
  | .FunctionDef _ _ b _ _ _ _ _ _ _ => b
  | _ => []
def defScope (s : Stmt) : Scope := match s with
  | .FunctionDef _ _ _ _ _ _ sc _ _ _ => sc
  | _ => { kind := .function, names := [], isGenerator := false, isCoroutine := false }

abbrev CX0 : CXT := fun _ _ _ _ _ _ => False

structure Fun (K : PySem.W.Frag) (x qual : Str) (st : Stmt) (f : Addr) (fd : FuncData) : Prop where
  ex : ∃ (oc : Value) (od : Option Addr) (kV doc pm : Value) (an : Option Addr) (cdv ct : Value) (osl : Array (Option Value)),
    fd = PySem.W.fnOf x qual (defArgs st) (defBody st) (defScope st) .none kV doc pm an cdv ct ∧ K.lookup f = some ⟨oc, od, .func fd, osl⟩ ∧ PySem.W.codeIn K cdv qual = true
  kp : PySem.W.keepIn K (.ref f) = true
section
variable {P : Program} {w : World} {K : PySem.W.Frag} {mg : Str → Option Value} {base : Heap}
/-- how its arguments bind (no defaults): h is «fun _ _ _ _ _ _ us hl => match us, hl with | [_, _], _ => rfl», one _ a parameter -/
theorem Fun.binds {x qual : Str} {st : Stmt} {f : Addr} {fd : FuncData} {ps : List Str} (F : Fun K x qual st f fd)
    (h : ∀ (kV doc pm : Value) (an : Option Addr) (cdv ct : Value) (us : List Value), us.length = ps.length → bindArgs (PySem.W.fnOf x qual (defArgs st) (defBody st) (defScope st) .none kV doc pm an cdv ct) ⟨us, []⟩ = pure (ps.zip us)) : Binds K fd ps [] := by
  obtain ⟨oc, od, kV, doc, pm, an, cdv, ct, osl, rfl, lk, hcd⟩ := F.ex
  exact .all (h kV doc pm an cdv ct)
theorem fun_mk {x qual : Str} {st : Stmt} {f : Addr} {oc : Value} {od an : Option Addr} {osl : Array (Option Value)} {kV doc pm cdv ct : Value} (l : K.lookup f = some ⟨oc, od, .func (PySem.W.fnOf x qual (defArgs st) (defBody st) (defScope st) .none kV doc pm an cdv ct), osl⟩)
    (c : PySem.W.codeIn K cdv qual = true) (k : PySem.W.keepIn K (.ref f) = true) : Fun K x qual st f (PySem.W.fnOf x qual (defArgs st) (defBody st) (defScope st) .none kV doc pm an cdv ct) := ⟨⟨oc, od, kV, doc, pm, an, cdv, ct, osl, rfl, l, c⟩, k⟩
end

section
variable {X : Cx}
end

theorem iteF {A B : Prop} (h : B) : if false = true then A else B := by
  rw [if_neg Bool.false_ne_true]
  exact h
theorem ite2 {c A B : Prop} [Decidable c] (h1 : c → A) (h2 : ¬ c → B) : if c then A else B := by
  by_cases h : c
  · rw [if_pos h]
    exact h1 h
  · rw [if_neg h]
    exact h2 h

/-- all that was tracked is as it was -/
def Same (H H' : Hp) : Prop := ∀ b o, H b = some o → H' b = some o
theorem Same.refl (H : Hp) : Same H H := fun _ _ h => h
theorem Same.trans {H H1 H2 : Hp} (a : Same H H1) (b : Same H1 H2) : Same H H2 := fun c o h => b c o (a c o h)
theorem Same.free {H H' : Hp} (e : Same H H') {l : Addr} (h : H' l = Option.none) : H l = Option.none := by
  cases q : H l with
  | none => rfl
  | some o =>
    rw [e l o q] at h
    cases h
theorem Same.seq {K : PySem.W.Frag} {H H' : Hp} {a : Addr} {xs : List V} (e : Same H H') (h : SqL K H a xs) : SqL K H' a xs := by
  rcases h with (h | ⟨o, h⟩) | h
  · exact .inl (.inl (e _ _ h))
  · exact .inl (.inr ⟨o, e _ _ h⟩)
  · exact .inr h

end L2

set_option maxRecDepth 100000
namespace L2
open PySem PySem.Spec PyProof.Rows

/-- the context of a comprehension's block -/
def Cx.comp (X : Cx) (N' : List Str) (scope : Scope) (cl : List (Str × Addr)) (fp : List Addr) (C : Addr) (s : Shared) (H : Hp) : Cx :=
  { prog := X.prog, w := X.w, K := X.K, mg := X.mg, base := X.base, A := X.A, N := N', s₀ := s, H₀ := H, env := compEnvC scope cl C X.env, outer := X.stack, stack := X.stack,
    ex := fp, fn := fun x => (cl.lookup x).isNone, calm := X.calm, pn := [], xe := fun _ _ => False }

/-- the block's slots at its entry: the captured ones by their outer slots -/
def capt (srcs : List (Option Nat)) (σ : St) : St := srcs.map fun o => o.bind fun j => (σ[j]?).join

structure CompSc (X : Cx) (N' : List Str) (srcs : List (Option Nat)) (scope : Scope) (cl : List (Str × Addr)) : Prop where
  clos : closureFor scope X.env = pure cl
  nocell : ∀ y ∈ scope.names, y.2 ≠ .cell
  kind : scope.kind = .function
  names : ∀ y ∈ scope.names, y.2 = .local → scope.names.lookup y.1 = some .local
  sub : ∀ x c, cl.lookup x = some c → X.env.cells.lookup x = some c
  has : ∀ x, ((relabel scope X.env).names.lookup x = some .cell ∨ (relabel scope X.env).names.lookup x = some .free) → ∃ c, cl.lookup x = some c
  len : srcs.length = N'.length
  src : ∀ (k j : Nat) (x : Str), N'[k]? = some x → srcs[k]? = some (some j) → X.N[j]? = some x ∧ (X.env.scope.names.lookup x = some .cell ∨ X.env.scope.names.lookup x = some .free) ∧
    ((relabel scope X.env).names.lookup x = some .cell ∨ (relabel scope X.env).names.lookup x = some .free)

/-- the tests of a clause -/
def PIfs (X : Cx) (ifs : List Expr) (t : TT) : Prop :=
  ∀ (pins : List (Addr × Obj)) (s : Shared) (σ : St) (H : Hp) (Q : Bool → Hp → Prop), Inv X pins σ H s → t σ H Q →
    wpAny (model X.prog X.w) X.A (forIn ifs true fun c r => if r = true then do let ok ← isTrue c X.env (eval c X.env); pure (ForInStep.yield ok) else pure (ForInStep.yield r)) (TP X pins σ Q) X.xe s
def tYes : TT := fun _ H Q => Q true H
theorem pifs_nil {X : Cx} : PIfs X [] tYes := fun _ _ _ H _ I h => wpAny_tests_nil ⟨H, I, h⟩
theorem pifs_one {X : Cx} {c : Expr} {t : TT} (h : PT X c t) : PIfs X [c] t := fun pins s σ H Q I q => wpAny_tests_one (h pins s σ H Q I q)

/-- what is wanted of the comprehension: the new list at D, an invariant W by turn and measure -/
def tComp (srcs : List (Option Nat)) (wi : TI) (g : TG) (tc : TT) (te : TE) : TE := fun σ H Q => wi σ H fun J H1 => ∀ D, H1 D = none →
  ∃ W : Nat → Nat → St → Hp → Prop, (∃ m, W 0 m (capt srcs σ) (upd H1 D (.lst []))) ∧ ∀ i m σ' H', W i m σ' H' →
    (J.stop i H' ∧ Q (.ref D) H') ∨ (J.go i H' ∧ ∃ N : St → Hp → Prop, (∀ σ2 H2, N σ2 H2 → ∃ m', m' < m ∧ W (i + 1) m' σ2 H2) ∧ ∀ x H2, J.yld i H' x H2 → g x σ' H2 fun σ3 H3 => tc σ3 H3 fun b H4 => if b = true then
        te σ3 H4 fun v H5 => ∃ ys, H5 D = some (.lst ys) ∧ ys.length < sizeLine ∧ N σ3 (upd H5 D (.lst (ys ++ [v])))
      else N σ3 H4)

section
variable {g : TG} {tc : TT} {te : TE} {D : Addr} {R : Hp → Prop} {σ : St} {H : Hp}
end

theorem noxW {α : Type} {t : Sem α} {Q : α → Shared → Prop} {M : Model} {A : Around} {E : Value → Shared → Prop} {s : Shared} (h : wpAny M A t Q (fun _ _ => False) s) : wpAny M A t Q E s :=
  wpAny_mono h (fun _ _ q => q) fun _ _ f => f.elim

section
variable {prog : Program} {w : World} {A : Around} {E : Value → Shared → Prop} {R : Result → Shared → Prop} {s : Shared}
/-- the loop, with the step ahead of the store -/
theorem compLoop_any {elt target iter : Expr} {ifs : List Expr} {scope : Scope} {pos : Pos} {it acc : Value} {env : Env} (I : Nat → Shared → Prop)
    (turn : ∀ n s, I n s → wpAny (model prog w) A (pyNext it) (fun r s₁ => match r with
      | none => R (.ok .next) s₁
      | some v => wpAny (model prog w) A (letOwnedTupleGo target it v) (fun _ s₀ => wpAny (model prog w) A (assign target env v) (fun _ s₂ =>
          wpAny (model prog w) A (forIn ifs true fun c r => if r = true then do let ok ← isTrue c env (eval c env); pure (ForInStep.yield ok) else pure (ForInStep.yield r)) (fun ok s₃ =>
            if ok = true then wpAny (model prog w) A (eval elt env) (fun x s₄ =>
              wpAny (model prog w) A (call (.builtin "list.append") [acc, x]) (fun _ s₅ => ∃ m, m < n ∧ I m s₅) (fun _ _ => False) s₄) (fun _ _ => False) s₃
            else ∃ m, m < n ∧ I m s₃) (fun _ _ => False) s₂) (fun _ _ => False) s₀) (fun _ _ => False) s₁) (fun _ _ => False) s)
    (n : Nat) (h : I n s) :
    codeAny (model prog w) A (.compLoop (.ListComp elt [⟨target, iter, ifs, 0⟩] scope pos) 0 it acc env) R s := by
  refine codeAny_loop rfl I (fun n s hI => ?_) n h
  show wpAny _ A ((compTurn (.ListComp elt [⟨target, iter, ifs, 0⟩] scope pos) 0 it acc env).onRaise (fun x => do noteFrame x env; theTreesLotGoes x)) _ _ s
  refine wpAny_noted (noxW ?_)
  rw [compTurn_list]
  refine wpAny_bind (wpAny_standAt (wpAny_bind (wpAny_mono (turn n s hI) (fun r s₁ h₁ => ?_) fun _ _ h' => h')))
  cases r with
  | none => exact wpAny_pure h₁
  | some v =>
    refine wpAny_bind (wpAny_mono h₁ (fun _ s₀ h₀ => ?_) fun _ _ h' => h')
    refine wpAny_bind (wpAny_mono h₀ (fun _ s₂ h₂ => wpAny_bind (wpAny_mono h₂ (fun ok s₃ h₃ => ?_) fun _ _ h' => h')) fun _ _ h' => h')
    cases ok with
    | false => exact wpAny_pure ⟨rfl, h₃⟩
    | true =>
      exact wpAny_bind (wpAny_bind (wpAny_mono h₃ (fun x s₄ h₄ => wpAny_bind (wpAny_mono h₄ (fun _ s₅ h₅ => wpAny_pure (wpAny_pure ⟨rfl, h₅⟩)) fun _ _ h' => h')) fun _ _ h' => h'))
end

section
variable {X : Cx} {elt tg iter : Expr} {ifs : List Expr} {scope : Scope} {pos : Pos} {N' : List Str} {srcs : List (Option Nat)} {cl : List (Str × Addr)} {wi : TI} {g : TG} {tc : TT} {te : TE}

/-- the block's invariant at its entry -/
theorem comp_start {pins : List (Addr × Obj)} {σ : St} {H : Hp} {s : Shared} {fp : List Addr} {C D : Addr} {h₁ : Heap} {tk : Nat} (S : CompSc X N' srcs scope cl) (I : Inv X pins σ H s) (f : ∀ b ∈ fp, FpOk X pins H b) (fo : ∀ b ∈ fp, b < s.heap.objs.size)
    (hD : s.heap.objs.size ≤ D) (hC : s.heap.objs.size ≤ C) (hDC : C ≠ D) (hns : ∃ m, h₁.Ns C m) (old : ∀ b o, s.heap.get? b = some o → h₁.get? b = some o) (hacc : ∃ n, h₁.get? D = some { cls := .type "list", data := .seq ([] : List Value).toArray n }) :
    Inv (X.comp N' scope cl fp C s H) [] (capt srcs σ) (upd H D (.lst [])) { s with heap := h₁, toks := tk } := by
  have hfD := I.hok.fresh hD
  have ok : (X.comp N' scope cl fp C s H).Ok := by
    refine ⟨I.ok.mod, S.kind, I.ok.glob, I.ok.blt, hC, fun x y c a b => I.ok.inj x y c (S.sub x c a) (S.sub y c b), S.has, fun x c hf hl => ?_, I.ok.hd, I.ok.frames, .inl rfl, fun b hb => ⟨?_, fun x c hl => ?_⟩, I.bs, Nat.le_trans I.ok.bsz I.sz, fun b o e hb => ?_, fun b hb hfs => ?_, I.stack, I.stkFree⟩
    · have hl' : cl.lookup x = some c := hl
      have hf' : (cl.lookup x).isNone = true := hf
      rw [hl'] at hf'
      cases hf'
    · exact Nat.ne_of_lt (Nat.lt_of_lt_of_le (fo b hb) hC)
    · exact (f b hb).2.2.2.2.1 x c (S.sub x c hl)
    · rcases (f b hb).2.2.2.1 with z | z
      · exact I.ok.noex b o e z
      · exact absurd (Nat.lt_of_lt_of_le (Heap.lt_size e) (Nat.le_trans I.ok.bsz z)) (Nat.lt_irrefl _)
    · rcases List.mem_cons.mp (I.stkSub b hfs) with z | z
      · exact (f b hb).2.1 z
      · exact (f b hb).2.2.1 z
  obtain ⟨m0, hns⟩ := hns
  obtain ⟨nn, hacc⟩ := hacc
  refine ⟨ok, rfl, I.bare, Un.laid old hD hfD, ⟨m0, hns, fun k x v e1 e2 e3 => ?_⟩, fun x c hl => ?_, ?_, fun x c hl => ?_, fun p hp => absurd (show p ∈ ([] : List (Addr × Obj)) from hp) (by simp), I.hok.laid old hD ⟨Nat.zero_le _, [], nn, .nil, hacc⟩, ?_⟩
  · -- the captured names
    have e1 : N'[k]? = some x := e1
    have e2 : (srcs.map fun o => o.bind fun j => (σ[j]?).join)[k]? = some (some v) := e2
    rw [List.getElem?_map] at e2
    cases hk : srcs[k]? with
    | none => rw [hk] at e2; cases e2
    | some o =>
      rw [hk] at e2
      cases o with
      | none => cases e2
      | some j =>
        have e2' : (σ[j]?).join = some v := Option.some.inj e2
        have e3' : σ[j]? = some (some v) := by
          cases hj : σ[j]? with
          | none => rw [hj] at e2'; cases e2'
          | some y => rw [hj] at e2'; exact congrArg some e2'
        obtain ⟨a1, a2, a3⟩ := S.src k j x e1 hk
        obtain ⟨m, hn, hl⟩ := I.loc
        obtain ⟨u, r, l⟩ := hl j x v a1 e3' (a2.elim (fun z => .inr (.inl z)) fun z => .inr (.inr z))
        refine ⟨u, r, .inr ⟨a3, ?_⟩⟩
        obtain ⟨c, hc⟩ := S.has x a3
        refine ⟨c, hc, ?_⟩
        rcases l with ⟨z, _⟩ | ⟨_, c', hc', o, ho, hd⟩
        · have z' : X.env.scope.names.lookup x = some .local := z
          rcases a2 with q | q <;> rw [q] at z' <;> cases z'
        · have e := S.sub x c hc
          rw [hc'] at e
          cases e
          exact ⟨o, old _ o ho, hd⟩
  · obtain ⟨v, o, ho, hd⟩ := I.cell x c (S.sub x c hl)
    exact ⟨v, o, old _ o ho, hd⟩
  · show upd H D (.lst []) C = none
    rw [upd_ne hDC]
    exact I.hok.fresh hC
  · have hx := S.sub x c hl
    obtain ⟨v, o, ho, hd⟩ := I.cell x c hx
    rw [upd_ne (Nat.ne_of_lt (Nat.lt_of_lt_of_le (Heap.lt_size ho) hD))]
    exact I.freeC x c hx
  · show (capt srcs σ).length = N'.length
    unfold capt
    rw [List.length_map, S.len]

/-- the whole, whatever is done with the list behind the loop -/
theorem comp_core {pins : List (Addr × Obj)} {s : Shared} {σ : St} {H : Hp} {Q : VK} {use : Option (Value → Sem Unit)} {Q2 : Value → Shared → Prop} (hc : X.calm = true) (S : CompSc X N' srcs scope cl) (hi : PI X tg iter wi)
    (hg : ∀ fp C s H, PG (X.comp N' scope cl fp C s H) tg g) (ht : ∀ fp C s H, PIfs (X.comp N' scope cl fp C s H) ifs tc) (he : ∀ fp C s H, PE (X.comp N' scope cl fp C s H) elt te)
    (I : Inv X pins σ H s) (h : tComp srcs wi g tc te σ H Q)
    (fin : ∀ (D C : Addr) (H' : Hp) (s' : Shared), Inv X pins σ H' s' → (∃ m, s'.heap.Ns C m) → FpOk X pins H' C → Q (.ref D) H' → compPost (model X.prog X.w) X.A X.xe use Q2 (.ref D) C (.ok .next) s')
    (hs : ∀ x, foldedSetIterable iter X.env x = pure x) :
    wpAny (model X.prog X.w) X.A (comprehension (.ListComp elt [⟨tg, iter, ifs, 0⟩] scope pos) scope X.env (firstIterPos [⟨tg, iter, ifs, 0⟩] pos) (newList []) false (eval iter X.env) use) Q2 X.xe s := by
  refine wpAny_comprehension_free rfl hs S.clos S.kind S.names (thn (hi pins s σ H _ I h) fun v s1 h1 => thn h1 fun itv s2 h2 => ?_)
  obtain ⟨it, fp, tn, J, H2, e, I2, T, st2, f2, q2⟩ := h2
  subst e
  refine wpAny_newObj_type (wpAny_newFunctionEnv S.nocell (by intro y hy; simp at hy) (fun h₁ hns₁ hsb₁ => ?_) S.kind)
  dsimp only at hns₁ hsb₁ ⊢
  generalize hH2 : s2.heap.push { cls := .type "list", dict := none, data := .seq ([] : List Value).toArray } = G2 at hns₁ hsb₁ ⊢
  have hCe : G2.objs.size = s2.heap.objs.size + 1 := by rw [← hH2, Heap.size_push]
  have hDC : G2.objs.size ≠ s2.heap.objs.size := by rw [hCe]; exact Nat.ne_of_gt (Nat.lt_succ_self _)
  have hCle : s2.heap.objs.size ≤ G2.objs.size := by rw [hCe]; exact Nat.le_succ _
  have old : ∀ b o, s2.heap.get? b = some o → h₁.get? b = some o := fun b o e =>
    hsb₁.extBut b o (Nat.ne_of_lt (Nat.lt_of_lt_of_le (Heap.lt_size e) hCle)) (Heap.get?_push_of_some _ (hH2 ▸ Heap.get?_push_of_some _ e))
  have hacc : ∃ n, h₁.get? s2.heap.objs.size = some { cls := .type "list", data := .seq ([] : List Value).toArray n } := ⟨_, hsb₁.extBut _ _ (Ne.symm hDC) (Heap.get?_push_of_some _ (hH2 ▸ Heap.get?_push_size _ rfl))⟩
  have fo : ∀ b ∈ fp, b < s2.heap.objs.size := fun b hb => by
    obtain ⟨o, ho, _⟩ := T.obj _ _ st2 b hb
    exact Heap.lt_size ho
  have st3 : tn 0 h₁ := T.keep _ _ _ st2 fun b _ o e => old b o e
  obtain ⟨W, ⟨m0, w0⟩, turn⟩ := q2 s2.heap.objs.size (I2.hok.fresh (Nat.le_refl _))
  have loop : ∀ s3 : Shared, s3 = { s2 with heap := h₁, toks := s2.toks + ([] : List (Str × Value)).length } →
      codeAny (model X.prog X.w) X.A (.compLoop (.ListComp elt [⟨tg, iter, ifs, 0⟩] scope pos) 0 (.ref it) (.ref s2.heap.objs.size) (compEnvC scope cl G2.objs.size X.env))
        (compPost (model X.prog X.w) X.A X.xe use Q2 (.ref s2.heap.objs.size) G2.objs.size) s3 := by
    rintro s3 rfl
    have I3 : Inv (X.comp N' scope cl fp G2.objs.size s2 H2) [] (capt srcs σ) (upd H2 s2.heap.objs.size (.lst [])) { s2 with heap := h₁, toks := s2.toks + ([] : List (Str × Value)).length } :=
      comp_start S I2 f2 fo (Nat.le_refl _) hCle hDC ⟨_, hns₁⟩ old hacc
    have stat : ∀ {H' : Hp}, (∀ b ∈ fp, H' b = none) → ∀ b ∈ fp, FpOk (X.comp N' scope cl fp G2.objs.size s2 H2) [] H' b := fun hn b hb =>
      ⟨hn b hb, Nat.ne_of_lt (Nat.lt_of_lt_of_le (fo b hb) hCle), (fun z => (List.mem_cons.mp (I2.stkSub b z)).elim (f2 b hb).2.1 (f2 b hb).2.2.1), .inl hb, fun x c hl => (f2 b hb).2.2.2.2.1 x c (S.sub x c hl), fun p hp => absurd (show p ∈ ([] : List (Addr × Obj)) from hp) (by simp)⟩
    refine compLoop_any (fun n s' => ∃ i σ' H', Inv (X.comp N' scope cl fp G2.objs.size s2 H2) [] σ' H' s' ∧ tn i s'.heap ∧ (∀ b ∈ fp, H' b = none) ∧ W i n σ' H') ?_ m0
      ⟨0, _, _, I3, st3, fun b hb => by rw [upd_ne (Nat.ne_of_lt (fo b hb))]; exact (f2 b hb).1, w0⟩
    rintro n s4 ⟨i, σ4, H4, I4, st4, fr4, w4⟩
    rcases turn i n σ4 H4 w4 with ⟨stop, qn⟩ | ⟨go, NN, hNN, step⟩
    · refine thn (T.done (X.comp N' scope cl fp G2.objs.size s2 H2) rfl rfl rfl hc i [] s4 σ4 H4 (fun _ _ => False) I4 (stat fr4) st4 stop) fun r s5 ⟨hr, I5⟩ => ?_
      subst hr
      obtain ⟨m5, hn5, _⟩ := id I5.loc
      have I6 : Inv X pins σ H4 s5 := I2.call' (ch := fp) I5.os I5.base I5.hok I5.bare fun b hb => ⟨(f2 b hb).2.2.2.1, (f2 b hb).2.1, (f2 b hb).2.2.2.2.1, (f2 b hb).2.2.2.2.2⟩
      exact fin _ _ H4 s5 I6 ⟨m5, hn5⟩ (I2.fpOk hCle I5.free) qn
    · refine thn (T.item (X.comp N' scope cl fp G2.objs.size s2 H2) rfl rfl rfl hc i [] s4 σ4 H4 (fun _ _ => False) I4 (stat fr4) st4 go) fun r s5 ⟨u, hr, h5⟩ => ?_
      subst hr
      refine thn h5 fun _ s6 ⟨x, H6, I6, r6, y6, st6, fr6⟩ => ?_
      have I6' := I6.pinned (stat fr6) (T.obj _ _ st6)
      refine thn (hg fp G2.objs.size s2 H2 _ s6 σ4 H6 x u _ I6' r6 (step x H6 y6)) fun _ s7 ⟨σ7, H7, I7, q7⟩ => ?_
      have again : ∀ {s9 : Shared} {H9 : Hp}, Inv (X.comp N' scope cl fp G2.objs.size s2 H2) ([] ++ pinsAt fp s6.heap) σ7 H9 s9 → NN σ7 H9 →
          ∃ m, m < n ∧ ∃ i σ' H', Inv (X.comp N' scope cl fp G2.objs.size s2 H2) [] σ' H' s9 ∧ tn i s9.heap ∧ (∀ b ∈ fp, H' b = none) ∧ W i m σ' H' := fun {s9 H9} I9 n9 => by
        obtain ⟨m', hm, w9⟩ := hNN σ7 H9 n9
        refine ⟨m', hm, i + 1, σ7, H9, I9.unpinned, T.keep _ _ _ st6 fun b hb o e => (I9.pin (b, o) (List.mem_append_right _ (List.mem_append_right _ (mem_pinsAt hb e)))).1, fun b hb => ?_, w9⟩
        obtain ⟨o, e, d⟩ := T.obj _ _ st6 b hb
        exact (I9.pin (b, o) (List.mem_append_right _ (List.mem_append_right _ (mem_pinsAt hb e)))).2.1
      refine thn (ht fp G2.objs.size s2 H2 _ s7 σ7 H7 _ I7 q7) fun b s8 ⟨H8, I8, q8⟩ => ?_
      cases b with
      | false =>
        rw [if_neg Bool.false_ne_true] at q8
        exact again I8 q8
      | true =>
        rw [if_pos rfl] at q8
        refine thn (he fp G2.objs.size s2 H2 _ s8 σ7 H8 _ I8 q8) fun y s9 ⟨v9, H9, I9, r9, ys, hD, hlen, w9⟩ => ?_
        refine thn (mt_append (X := X.comp N' scope cl fp G2.objs.size s2 H2) ([] ++ pinsAt fp s6.heap) s9 σ7 H9 (.ref s2.heap.objs.size) [v9] (.ref s2.heap.objs.size) [y] (fun _ H' => H' = upd H9 s2.heap.objs.size (.lst (ys ++ [v9]))) I9 rfl (.cons r9 .nil)
          ⟨_, ys, v9, rfl, rfl, hD, hlen, rfl⟩) fun _ s10 ⟨_, H10, I10, _, e10⟩ => ?_
        subst e10
        exact again I10 w9
  exact codeAny_compStart_list (loop _ rfl) (T.self X.A 0 _ _ _ st3 (loop _ rfl))

/-- [elt for tg in iter if ..], as a value -/
theorem pe_comp (hc : X.calm = true) (S : CompSc X N' srcs scope cl) (hi : PI X tg iter wi) (hg : ∀ fp C s H, PG (X.comp N' scope cl fp C s H) tg g)
    (ht : ∀ fp C s H, PIfs (X.comp N' scope cl fp C s H) ifs tc) (he : ∀ fp C s H, PE (X.comp N' scope cl fp C s H) elt te) (hs : ∀ x, foldedSetIterable iter X.env x = pure x := by intro _; rfl) :
    PE X (.ListComp elt [⟨tg, iter, ifs, 0⟩] scope pos) (tComp srcs wi g tc te) := by
  intro pins s σ H Q I h
  rw [eval_ListComp]
  refine comp_core (use := none) hc S hi hg ht he I h (fun D C H' s' I' ns fo q => ?_) hs
  obtain ⟨m, hn⟩ := ns
  obtain ⟨f0, f1, f2, f3, f4, f5⟩ := fo
  exact ⟨m, hn, fun h' sb => ⟨.ref D, H', I'.turned (t' := s'.toks) (fun b o hb e => (sb.2 b hb).trans e) f0 f1 f3 f4 f5, rfl, q⟩⟩

/-- x = [elt for tg in iter if ..], stored ahead of the block's end -/
theorem ps_setComp {i : Nat} {x : Str} {pos' spos : Pos} (hc : X.calm = true) (hN : X.N.Nodup) (hx : X.N[i]? = some x) (hl : X.env.scope.names.lookup x = some .local) (S : CompSc X N' srcs scope cl) (hi : PI X tg iter wi) (hg : ∀ fp C s H, PG (X.comp N' scope cl fp C s H) tg g)
    (ht : ∀ fp C s H, PIfs (X.comp N' scope cl fp C s H) ifs tc) (he : ∀ fp C s H, PE (X.comp N' scope cl fp C s H) elt te)
    (hsw : swapsWith (.ListComp elt [⟨tg, iter, ifs, 0⟩] scope pos) (some (.Name x pos')) spos.line X.env = pure true := by rfl) (hs : ∀ x, foldedSetIterable iter X.env x = pure x := by intro _; rfl) :
    PS X (.Assign [.Name x pos'] (.ListComp elt [⟨tg, iter, ifs, 0⟩] scope pos) spos) (tAsg (tComp srcs wi g tc te) (gName i)) := by
  intro pins s σ H D I h
  rw [exec_Assign_Name_used _ _ _ _ hsw]
  refine wpAny_bind (wpAny_standAt (wpAny_bind ?_))
  show wpAny _ X.A (do let _ ← comprehension (.ListComp elt [⟨tg, iter, ifs, 0⟩] scope pos) scope X.env _ (newList []) false (eval iter X.env) (some (assign (.Name x pos') X.env))) _ _ s
  refine wpAny_bind (thn (comp_core (use := some (assign (.Name x pos') X.env)) (Q := fun v H' => D.nx (σ.set i (some v)) H') (Q2 := fun _ s' => SP X pins D .next s') hc S hi hg ht he I h (fun L C H' s' I' ns fo q => ?_) hs) fun _ s' hq => wpAny_pure (wpAny_pure hq))
  obtain ⟨m, hn⟩ := ns
  obtain ⟨f0, f1, f2, f3, f4, f5⟩ := fo
  obtain ⟨oC, es, ep, hoC, hd, hr⟩ := id hn
  have I2 : Inv X (pins ++ [(C, oC)]) σ H' s' := I'.pins_of fun p hp => (List.mem_append.mp hp).elim (fun z => I'.pin p (List.mem_append_right _ z)) fun z => by
    have z' : p = (C, oC) := by simpa using z
    subst z'
    exact ⟨hoC, f0, f1, f2, fun v e => by rw [hd] at e; cases e⟩
  refine wpAny_assign_Name (store_ok (i := i) (v := .ref L) I2 hN hx (.inl hl) rfl (fun s2 I3 => ?_) (.inr hl))
  have hoC' := (I3.pin (C, oC) (List.mem_append_right _ (List.mem_append_right _ (by simp)))).1
  refine ⟨m, ⟨oC, es, ep, hoC', hd, hr⟩, fun h' sb => ?_⟩
  exact ⟨_, H', (I3.unpinned).turned (t' := s2.toks) (fun b o hb e => (sb.2 b hb).trans e) f0 f1 f3 f4 f5, q⟩
end
end L2

set_option maxRecDepth 100000
namespace L2
open PySem PySem.Spec PyProof.Rows

def Its (x : Str) : It := ⟨fun i _ => i < x.cps.size, fun i H v H' => H' = H ∧ ∃ c, x.cps[i]? = some c ∧ v = .str ⟨#[c]⟩, fun i _ => i = x.cps.size⟩
theorem turn_str {P : Program} {w : World} {K : PySem.W.Frag} {tg : Expr} (it : Addr) (x : Str) (t : Tok) (ty : String) (hty : ty = "str_ascii_iterator" ∨ ty = "str_iterator") :
    Turn P w K tg (Its x) [it] it (fun i h => h.IsStrIter it ty x t i) where
  mem := by simp
  obj := fun i h st b hb => by
    have e : b = it := by simpa using hb
    subst e
    obtain ⟨o, e, c, d⟩ := st
    exact ⟨o, e, fun v z => by rw [d] at z; cases z⟩
  keep := fun i h h' st k => by
    obtain ⟨o, e, r⟩ := st
    exact ⟨o, k it (by simp) o e, r⟩
  item := by
    intro X hP hw hK hc i pins s σ H E I hf st hg
    subst hP hw hK
    obtain ⟨f0, f1, f2, f3, f4, f5⟩ := hf it (by simp)
    have W : Walks X.prog X.w X.A it [it] [it] x.cps.size (SignAt x) (fun i h => h.IsStrIter it ty x t i) := by
      rcases hty with rfl | rfl
      · exact Walks.strAscii (I.ok.hd hc) it x t
      · exact Walks.strWide (I.ok.hd hc) it x t
    refine W.item i s _ _ hg st fun v h' tk hv st' kk => ?_
    obtain ⟨c, u, hcp, rfl⟩ := hv
    have I1 : Inv X pins σ H { s with heap := h', toks := tk } := I.turned (fun b o hb e => kk b o (by simpa using hb) e) f0 f1 f3 f4 f5
    obtain ⟨o, e, cc, d⟩ := id st'
    exact ⟨_, rfl, go_of (s := { s with heap := h', toks := tk }) e cc d (by rcases hty with rfl | rfl <;> decide) ⟨.str ⟨#[c]⟩, H, I1, ⟨_, rfl⟩, ⟨rfl, c, hcp, rfl⟩, st', fun b hb => (hf b hb).1⟩⟩
  done := by
    intro X hP hw hK hc i pins s σ H E I hf st hg
    subst hP hw hK
    obtain ⟨f0, f1, f2, f3, f4, f5⟩ := hf it (by simp)
    have hg : i = x.cps.size := hg
    subst hg
    have W : Walks X.prog X.w X.A it [it] [it] x.cps.size (SignAt x) (fun i h => h.IsStrIter it ty x t i) := by
      rcases hty with rfl | rfl
      · exact Walks.strAscii (I.ok.hd hc) it x t
      · exact Walks.strWide (I.ok.hd hc) it x t
    exact W.done s _ _ st fun h' tk kk => ⟨rfl, I.turned (fun b o hb e => kk b o (by simpa using hb) e) f0 f1 f3 f4 f5⟩
  self := by
    intro A i s Q E st h
    rcases hty with rfl | rfl
    · exact wpAny_pyIter_striter_ascii st h
    · exact wpAny_pyIter_striter_wide st h
section
variable {X : Cx} {tg : Expr}
end

section
variable {X : Cx} {pins : List (Addr × Obj)} {σ : St} {H : Hp} {s : Shared} {h' : Heap} {ch : List Addr} {t' : Nat}
theorem Inv.turnedL (I : Inv X pins σ H s) (hf : ∀ b ∈ ch, FpOk X pins H b) (k : ∀ b o, b ∉ ch → s.heap.get? b = some o → h'.get? b = some o) : Inv X pins σ H { s with heap := h', toks := t' } := by
  have tr : ∀ b ob, H b = some ob → b ∉ ch := fun b ob e hb => by rw [(hf b hb).1] at e; cases e
  refine I.step (g' := s.gens) (d' := s.drawn) (ch := ch) (fun b hb => ⟨(hf b hb).2.2.2.1, (hf b hb).2.1, (hf b hb).2.2.2.2.1, (hf b hb).2.2.2.2.2⟩) (fun b o _ _ hb e _ => k b o hb e) (fun b o _ _ hb e _ => ⟨o.slots, k b o hb e⟩) (fun _ _ _ _ n => n) (fun b o hb e => ⟨o, k b o hb e⟩)
    (fun _ _ e => e) (fun _ _ _ e => e) (fun b ps e => ⟨#[], by rw [e]; simp⟩) (fun m hm => ?_) (fun b ob e => ?_) I.bare
  · obtain ⟨o, es, ep, ho, r⟩ := hm
    exact ⟨o, es, ep, k _ o (fun z => (hf _ z).2.1 rfl) ho, r⟩
  · refine (I.hok b ob e).stay (fun b' w' hc' q => k b' w' ?_ q) (fun _ q => q) fun _ _ q => q
    rcases hc' with rfl | hc'
    · exact tr _ _ e
    · exact tr _ _ hc'
theorem Inv.turnedN {T : Addr} {o : HO} (I : Inv X pins σ H s) (hf : ∀ b ∈ ch, FpOk X pins H b) (k : ∀ b o, b ∉ ch → s.heap.get? b = some o → h'.get? b = some o) (hT : s.heap.objs.size ≤ T) (new : ObjOk X.prog X.w (upd H T o) h' T o) :
    Inv X pins σ (upd H T o) { s with heap := h', toks := t' } := by
  have tr : ∀ b ob, H b = some ob → b ∉ ch := fun b ob e hb => by rw [(hf b hb).1] at e; cases e
  have hn := I.hok.fresh hT
  have nT : ∀ {b o}, s.heap.get? b = some o → b ≠ T := fun e => Nat.ne_of_lt (Nat.lt_of_lt_of_le (Heap.lt_size e) hT)
  refine I.step (g' := s.gens) (d' := s.drawn) (ch := ch) (fun b hb => ⟨(hf b hb).2.2.2.1, (hf b hb).2.1, (hf b hb).2.2.2.2.1, (hf b hb).2.2.2.2.2⟩) (fun b o _ _ hb e _ => k b o hb e) (fun b o _ _ hb e _ => ⟨o.slots, k b o hb e⟩) (fun b o _ e n => by rw [upd_ne (nT e)]; exact n) (fun b o hb e => ⟨o, k b o hb e⟩)
    (fun b zs e => by rw [upd_ne (ne_of_none e hn)]; exact e) (fun b o zs e => by rw [upd_ne (ne_of_none e hn)]; exact e) (fun b ps e => ⟨#[], by rw [upd_ne (ne_of_none e hn), e]; simp⟩) (fun m hm => ?_) (fun b ob e => ?_) I.bare
  · obtain ⟨o, es, ep, ho, r⟩ := hm
    exact ⟨o, es, ep, k _ o (fun z => (hf _ z).2.1 rfl) ho, r⟩
  · by_cases hb : b = T
    · subst hb
      rw [upd_same] at e
      cases e
      exact new
    · rw [upd_ne hb] at e
      refine (I.hok b ob e).stay (fun b' w' hc' q => k b' w' ?_ q) (fun b' q => by rw [upd_ne (ne_of_none q hn)]; exact q) fun b' zs q => by rw [upd_ne (ne_of_none q hn)]; exact q
      rcases hc' with rfl | hc'
      · exact tr _ _ e
      · exact tr _ _ hc'
end

def Itz (K : PySem.W.Frag) (l1 l2 : Addr) : It :=
  ⟨fun i H => ∃ xs ys x y, SqL K H l1 xs ∧ SqL K H l2 ys ∧ xs[i]? = some x ∧ ys[i]? = some y,
   fun i H v H' => ∃ T x y, H T = none ∧ v = .ref T ∧ (∀ xs, SqL K H l1 xs → xs[i]? = some x) ∧ (∀ ys, SqL K H l2 ys → ys[i]? = some y) ∧ H' = upd H T (.tup [x, y]),
   fun i H => ∃ xs ys, SqL K H l1 xs ∧ SqL K H l2 ys ∧ (xs.length ≤ i ∨ ys.length ≤ i)⟩
theorem turn_zip {P : Program} {w : World} {K : PySem.W.Frag} {elts : List Expr} {kt : Nat} {pt : Pos} {z TI TO i1 i2 l1 l2 : Addr} (D : ZipApart z TI TO i1 i2 l1 l2) :
    Turn P w K (.Tuple elts kt pt) (Itz K l1 l2) [z, TI, TO, i1, i2] z
      (fun i h => IsZip h z TI TO .none ∧ IsPair h TI (.ref i1) (.ref i2) ∧ (∃ a b, IsPair h TO a b) ∧ h.IsListIter i1 l1 i ∧ h.IsListIter i2 l2 i) where
  mem := by simp
  obj := fun i h st b hb => by
    obtain ⟨hz, hTI, ⟨a, c, hTO⟩, ⟨o1, e1, c1, d1⟩, ⟨o2, e2, c2, d2⟩⟩ := st
    have hb : b = z ∨ b = TI ∨ b = TO ∨ b = i1 ∨ b = i2 := by simpa using hb
    rcases hb with rfl | rfl | rfl | rfl | rfl
    · exact ⟨_, hz, fun v q => nomatch q⟩
    · exact ⟨_, hTI, fun v q => nomatch q⟩
    · exact ⟨_, hTO, fun v q => nomatch q⟩
    · exact ⟨o1, e1, fun v q => by rw [d1] at q; cases q⟩
    · exact ⟨o2, e2, fun v q => by rw [d2] at q; cases q⟩
  keep := fun i h h' st k => by
    obtain ⟨hz, hTI, ⟨a, c, hTO⟩, h1, h2⟩ := st
    exact ⟨k z (by simp) _ hz, k TI (by simp) _ hTI, ⟨a, c, k TO (by simp) _ hTO⟩, h1.at fun o e => k i1 (by simp) o e, h2.at fun o e => k i2 (by simp) o e⟩
  item := by
    intro X hP hw hK hc i pins s σ H E I hf st hg
    subst hP hw hK
    obtain ⟨xs, ys, x, y, q1, q2, hx, hy⟩ := hg
    obtain ⟨its1, r1, p1, z1⟩ := I.list q1
    obtain ⟨its2, r2, p2, z2⟩ := I.list q2
    obtain ⟨u, hu, ru⟩ := r1.get hx
    obtain ⟨v, hv, rv⟩ := r2.get hy
    obtain ⟨hz, hTI, ⟨a, c, hTO⟩, h1, h2⟩ := st
    refine wpAny_pyNext_zip_item D hz hTI hTO h1 h2 p1.isList p2.isList (x := u) (y := v) (by simpa using hu) (by simpa using hv) fun h' a1 a2 a3 a4 a5 a6 hk => ?_
    refine ⟨_, rfl, wpAny_letOwnedTupleGo_zip a1 fun h'' hz' hs' => ?_⟩
    have hT := I.hok.fresh (Nat.le_refl s.heap.objs.size)
    have up' : ∀ b o, b ∉ [z, TO, i1, i2] → s.heap.get? b = some o → h''.get? b = some o := fun b o hb e => by
      have b1 : b ≠ z := by rintro rfl; exact hb (by simp)
      have b2 : b ≠ TO := by rintro rfl; exact hb (by simp)
      have b3 : b ≠ i1 := by rintro rfl; exact hb (by simp)
      have b4 : b ≠ i2 := by rintro rfl; exact hb (by simp)
      exact hs'.extBut b o b1 (hk b o b1 b2 b3 b4 e)
    have nT : ∀ {b o}, s.heap.get? b = some o → b ≠ s.heap.objs.size := fun e => Nat.ne_of_lt (Heap.lt_size e)
    have Tnew : h''.get? s.heap.objs.size = some { cls := .type "tuple", data := .seq #[u, v] } := hs'.extBut _ _ (Ne.symm (nT hz)) a5
    have I1 : Inv X pins σ (upd H s.heap.objs.size (.tup [x, y])) { s with heap := h'' } :=
      I.turnedN (t' := s.toks) (ch := [z, TO, i1, i2]) (fun b hb => hf b (by
        have hb : b = z ∨ b = TO ∨ b = i1 ∨ b = i2 := by simpa using hb
        rcases hb with rfl | rfl | rfl | rfl <;> simp)) up' (Nat.le_refl _) ⟨by show 2 ≤ sizeLine; decide, [u, v], .cons ru (.cons rv .nil), ⟨_, Tnew, rfl, _, rfl⟩⟩
    refine ⟨.ref s.heap.objs.size, _, I1, rfl, ⟨s.heap.objs.size, x, y, hT, rfl, fun xs' h' => by rw [I.list_inj h' q1]; exact hx, fun ys' h' => by rw [I.list_inj h' q2]; exact hy, rfl⟩,
      ⟨hz', hs'.extBut _ _ D.TIz (hk _ _ D.TIz D.TITO D.TIi1 D.TIi2 hTI), ⟨_, _, hs'.extBut _ _ D.TOz a2⟩, a3.at fun o e => hs'.extBut _ o D.i1z e, a4.at fun o e => hs'.extBut _ o D.i2z e⟩, fun b hb => ?_⟩
    have q := (hf b hb).1
    rw [upd_ne ?_]
    · exact q
    · have hb : b = z ∨ b = TI ∨ b = TO ∨ b = i1 ∨ b = i2 := by simpa using hb
      rcases hb with rfl | rfl | rfl | rfl | rfl
      · exact nT hz
      · exact nT hTI
      · exact nT hTO
      · obtain ⟨_, e, _⟩ := h1; exact nT e
      · obtain ⟨_, e, _⟩ := h2; exact nT e
  done := by
    intro X hP hw hK hc i pins s σ H E I hf st hg
    subst hP hw hK
    obtain ⟨xs, ys, q1, q2, hx⟩ := hg
    obtain ⟨its1, r1, p1, z1⟩ := I.list q1
    obtain ⟨its2, r2, p2, z2⟩ := I.list q2
    have e1 := r1.length
    have e2 := r2.length
    obtain ⟨hz, hTI, ⟨a, c, hTO⟩, h1, h2⟩ := st
    have hend : its1.toArray[i]? = none ∨ its2.toArray[i]? = none := by
      rcases hx with hx | hx
      · exact .inl (by simp; omega)
      · exact .inr (by simp; omega)
    refine wpAny_pyNext_zip_end (I.ok.hd hc) D hz hTI hTO h1 h2 p1.isList p2.isList hend fun h' hk => ⟨rfl, ?_⟩
    refine I.turnedL (t' := s.toks) (ch := [z, TO, i1, i2]) (fun b hb => hf b (by
        have hb : b = z ∨ b = TO ∨ b = i1 ∨ b = i2 := by simpa using hb
        rcases hb with rfl | rfl | rfl | rfl <;> simp)) fun b o hb e => ?_
    have b1 : b ≠ z := by rintro rfl; exact hb (by simp)
    have b2 : b ≠ TO := by rintro rfl; exact hb (by simp)
    have b3 : b ≠ i1 := by rintro rfl; exact hb (by simp)
    have b4 : b ≠ i2 := by rintro rfl; exact hb (by simp)
    exact hk b o b1 b2 b3 b4 e
  self := fun A i s Q E st h => wpAny_pyIter_zip st.1 h
section
variable {X : Cx}
end

theorem range_all {bs : List Bool} : (List.range bs.length).all (fun i => bs.getD i true) = bs.all fun b => b := by
  rw [Bool.eq_iff_iff, List.all_eq_true, List.all_eq_true]
  constructor
  · intro h b hb
    obtain ⟨i, hi, e⟩ := List.mem_iff_getElem.mp hb
    have q := h i (List.mem_range.mpr hi)
    rw [List.getD_eq_getElem?_getD, List.getElem?_eq_getElem hi, e] at q
    exact q
  · intro h i hi
    have hi := List.mem_range.mp hi
    rw [List.getD_eq_getElem?_getD, List.getElem?_eq_getElem hi]
    exact h _ (List.getElem_mem hi)
section
variable {X : Cx}
theorem call_all (hc : X.calm = true) : CallR X (.builtin "all") (fun xs H Q => ∃ (p : Addr) (bs : List Bool), xs = [.ref p] ∧ SqL X.K H p (bs.map V.bl) ∧ Q (.bl (bs.all fun b => b)) H) := by
  intro pins s σ H xs us Q I r h
  obtain ⟨p, bs, rfl, hq, q⟩ := h
  obtain ⟨u, rfl, ru⟩ := r.one
  cases ru
  obtain ⟨its, rv, pl, hz⟩ := I.list hq
  have hlen := rv.length
  rw [List.length_map] at hlen
  obtain ⟨o, n, e, c, hd, ds⟩ := id pl
  have plt := Heap.lt_size e
  refine call_all_walk (wpAny_pyIter_list pl.isList ?_)
  refine ⟨s.heap.objs.size, _, _, _, _, _, (fun i => bs.getD i true), rfl, Walks.list (A := X.A.in1) (show X.A.in1.handled = none from I.ok.hd hc) s.heap.objs.size p (Nat.ne_of_lt plt) its.toArray, ⟨⟨_, Heap.get?_push_size _ rfl, rfl, rfl⟩, pl.isList.push _⟩, ?_, fun h' tk kk => ?_⟩
  · intro i v s' Q' E' hv hq'
    have hv : its[i]? = some v := by simpa using hv
    have hi : i < bs.length := by rw [hlen]; exact (List.getElem?_eq_some_iff.mp hv).1
    have e1 : (bs.map V.bl)[i]? = some (.bl bs[i]) := by simp [hi]
    obtain ⟨u', hu', ru'⟩ := rv.get e1
    rw [hv] at hu'
    cases hu'
    cases ru'
    have e2 : bs.getD i true = bs[i] := by simp [List.getD_eq_getElem?_getD, hi]
    have hq' : Q' (bs.getD i true) s' := hq'
    rw [e2] at hq'
    exact wpAny_truthy_bool hq'
  · have e3 : (List.range its.toArray.size).all (fun i => bs.getD i true) = bs.all fun b => b := by
      rw [List.size_toArray, ← hlen]
      exact range_all
    rw [e3]
    refine ⟨.bl _, H, I.kept (t' := tk) fun b o' eb => kk b o' ?_ (Heap.get?_push_of_some _ eb), rfl, q⟩
    have hb : b ≠ s.heap.objs.size := Nat.ne_of_lt (Heap.lt_size eb)
    simpa using hb

theorem call_isT : CallR X (.builtin "isinstance") (fun xs H Q => ∃ x T t b, xs = [x, .ty T] ∧ TyOf X.K H x t ∧ PySem.W.kitOne X.K t (.type T) = some b ∧ Q (.bl b) H) := by
  intro pins s σ H xs us Q I r h
  obtain ⟨x, T, t, b, rfl, ty, e, q⟩ := h
  obtain ⟨u, v, rfl, ru, rv⟩ := r.two
  cases rv
  exact isinst_ok I ru ty e fun tk => ⟨.bl b, H, I.tok tk, rfl, q⟩

theorem op_le_str : OpR X (compareOp .LtE) (fun x y H Q => ∃ i j, x = .str i ∧ y = .str j ∧ Q (.bl (!decide (j.cps.toList < i.cps.toList))) H) := by
  intro pins s σ H x y v u Q I rx ry h
  obtain ⟨i, j, rfl, rfl, q⟩ := h
  obtain ⟨t, rfl⟩ := rx
  obtain ⟨t', rfl⟩ := ry
  exact PySem.P.le_str ⟨.bl _, H, I, rfl, q⟩

theorem mt_bits : MtR X "int.bit_length" (fun x xs H Q => ∃ i, x = .int i ∧ xs = [] ∧ Q (.int (Builtin.Int.intBits i : Nat)) H) := by
  intro pins s σ H x xs v us Q I rx rs h
  obtain ⟨i, rfl, rfl, q⟩ := h
  obtain ⟨t, rfl⟩ := rx
  cases rs
  exact call_gives F.slot_int_bit_length (typeIs_int s i t) F.entry_int_bit_length (F.args_int_bit_length_1 _) (AutoIntG2.int_bit_length_int_0 i t) ⟨.int _, H, I.tok _, ⟨_, rfl⟩, q⟩
end
def eqVs (xs ys : List V) : Bool := decide (xs.length = ys.length) && (List.range xs.length).all fun j => eqV (xs.getD j .non) (ys.getD j .non)
theorem eqVs_len {xs ys : List V} (h : xs.length ≠ ys.length) : eqVs xs ys = false := by
  unfold eqVs
  rw [decide_eq_false h]
  rfl
def rEqL (K : PySem.W.Frag) (neg : Bool) : R2 := fun x y H Q => ∃ a b xs ys, x = .ref a ∧ y = .ref b ∧ SqL K H a xs ∧ SqL K H b ys ∧ xs.all flatV = true ∧ ys.all flatV = true ∧ Q (.bl (if neg then !eqVs xs ys else eqVs xs ys)) H
section
variable {X : Cx}
theorem items_eqAt {A : Around} {s : Shared} {xs ys : List V} {us ws : List Value} (rx : Vals xs us) (ry : Vals ys ws) (fx : xs.all flatV = true) (fy : ys.all flatV = true) (j : Nat) (h1 : j < us.toArray.size) (h2 : j < ws.toArray.size) :
    SeqAt.EqAt A s us.toArray[j] ws.toArray[j] (eqV (xs.getD j .non) (ys.getD j .non)) := by
  have e1 := rx.length
  have e2 := ry.length
  have h1' : j < us.length := by simpa using h1
  have h2' : j < ws.length := by simpa using h2
  have a1 : xs[j]? = some (xs[j]'(by omega)) := by simp
  have a2 : ys[j]? = some (ys[j]'(by omega)) := by simp
  obtain ⟨u, hu, ru⟩ := rx.get a1
  obtain ⟨v, hv, rv⟩ := ry.get a2
  have b1 : us.toArray[j] = u := by
    have : us[j]? = some us[j] := by simp
    rw [this] at hu
    simpa using Option.some.inj hu
  have b2 : ws.toArray[j] = v := by
    have : ws[j]? = some ws[j] := by simp
    rw [this] at hv
    simpa using Option.some.inj hv
  have c1 : xs.getD j .non = xs[j]'(by omega) := by rw [List.getD_eq_getElem?_getD, a1]; rfl
  have c2 : ys.getD j .non = ys[j]'(by omega) := by rw [List.getD_eq_getElem?_getD, a2]; rfl
  rw [b1, b2, c1, c2]
  exact eqAt_V ru rv (List.all_eq_true.mp fx _ (List.getElem_mem _)) (List.all_eq_true.mp fy _ (List.getElem_mem _))
theorem op_eqL (hu : X.A.units < cLine) : OpR X (compareOp .Eq) (rEqL X.K false) := by
  intro pins s σ H x y v u Q I rx ry h
  obtain ⟨a, b, xs, ys, rfl, rfl, qa, qb, fx, fy, q⟩ := h
  cases rx
  cases ry
  obtain ⟨its, r, pl, hz⟩ := I.list qa
  obtain ⟨its2, r2, pl2, hz2⟩ := I.list qb
  have e1 := r.length
  have e2 := r2.length
  by_cases hl : xs.length = ys.length
  · refine SeqAt.eq_listAt (e := fun j => eqV (xs.getD j .non) (ys.getD j .non)) pl.isList pl2.isList (by simp; omega) hu (fun j h1 h2 => items_eqAt r r2 fx fy j h1 h2) ⟨.bl _, H, I, rfl, ?_⟩
    have e : eqVs xs ys = (List.range its.toArray.size).all fun j => eqV (xs.getD j .non) (ys.getD j .non) := by
      unfold eqVs
      rw [decide_eq_true hl, List.size_toArray, ← e1]
      rfl
    rw [← e]
    exact q
  · refine SeqAt.eq_list_lengthsAt pl.isList pl2.isList (by simp; omega) hu ⟨.bl _, H, I, rfl, ?_⟩
    rw [eqVs_len hl] at q
    exact q
theorem op_neL (hu : X.A.units < cLine) : OpR X (compareOp .NotEq) (rEqL X.K true) := by
  intro pins s σ H x y v u Q I rx ry h
  obtain ⟨a, b, xs, ys, rfl, rfl, qa, qb, fx, fy, q⟩ := h
  cases rx
  cases ry
  obtain ⟨its, r, pl, hz⟩ := I.list qa
  obtain ⟨its2, r2, pl2, hz2⟩ := I.list qb
  have e1 := r.length
  have e2 := r2.length
  by_cases hl : xs.length = ys.length
  · refine SeqAt.RcNeAt.lists (e := fun j => eqV (xs.getD j .non) (ys.getD j .non)) pl.isList pl2.isList (by simp; omega) hu (fun j h1 h2 => items_eqAt r r2 fx fy j h1 h2) _ _ _ _ ⟨.bl _, H, I, rfl, ?_⟩
    have e : eqVs xs ys = (List.range its.toArray.size).all fun j => eqV (xs.getD j .non) (ys.getD j .non) := by
      unfold eqVs
      rw [decide_eq_true hl, List.size_toArray, ← e1]
      rfl
    rw [← e]
    exact q
  · refine SeqAt.RcNeAt.lists_lengths pl.isList pl2.isList (by simp; omega) hu _ _ _ _ ⟨.bl _, H, I, rfl, ?_⟩
    rw [eqVs_len hl] at q
    exact q
end

theorem mem_look {cl : List (Str × Addr)} {x : Str} (h : x ∈ cl.map (·.1)) : ∃ c, cl.lookup x = some c := by
  induction cl with
  | nil => simp at h
  | cons p r ih =>
    obtain ⟨n, a⟩ := p
    rw [List.lookup_cons]
    cases e : x == n with
    | true => exact ⟨a, rfl⟩
    | false =>
      refine ih ?_
      rcases List.mem_cons.mp h with q | q
      · rw [show x = n from q] at e; simp at e
      · exact q
end L2

set_option maxRecDepth 100000
namespace L2
open PySem PySem.Spec PyProof.Rows
section
variable {X : Cx} {e : Expr} {te : TE} {lo hi : Option Expr} {tl th : TO} {pos p2 : Pos}
theorem strsAre_of {ys : List Str} : ∀ {us : List Value}, Vals (ys.map V.str) us → StrsAre us ys := by
  induction ys with
  | nil => intro us r; rw [List.map_nil] at r; cases r; exact .nil
  | cons y ys ih =>
    intro us r
    rw [List.map_cons] at r
    cases r with
    | cons r1 r2 =>
      obtain ⟨t, e⟩ := r1
      subst e
      exact .cons y t (ih r2)
theorem mt_join : MtR X "str.join" (fun x xs H Q => ∃ z p ys, x = .str z ∧ xs = [.ref p] ∧ SqL X.K H p (ys.map V.str) ∧ (ys.map (·.length)).sum + ys.length * z.length ≤ 16777216 ∧ Q (.str (Txt.join z ys)) H) := by
  intro pins s σ H x xs v us Q I rx rs h
  obtain ⟨z, p, ys, rfl, rfl, hq, hz, q⟩ := h
  obtain ⟨t, rfl⟩ := rx
  obtain ⟨u, rfl, ru⟩ := rs.one
  cases ru
  obtain ⟨its, rv, pl, _⟩ := I.list hq
  exact PyProof.Rows.join_list pl.isList (by simpa using strsAre_of rv) hz fun t' k => ⟨.str _, H, I.tok k, ⟨_, rfl⟩, q⟩
end
end L2

set_option maxRecDepth 100000
set_option maxHeartbeats 4000000
namespace L2
open PySem PySem.Spec PyProof.Rows

abbrev EK := Addr → Hp → Prop
abbrev DE := St → Hp → VK → EK → Prop
abbrev DT := St → Hp → (Bool → Hp → Prop) → EK → Prop
abbrev DA := St → Hp → (List V → Hp → Prop) → EK → Prop
structure Outs where
  nx : St → Hp → Prop
  rt : VK
  bk : St → Hp → Prop
  ct : St → Hp → Prop
  ex : St → EK
abbrev DS := Outs → St → Hp → Prop

abbrev excObj (C : Addr) (dx : Option Addr) (vs : Array Value) : Obj := { cls := .ref C, dict := dx, data := .fields vs }
/-- an exception of the own class at C, its dict at dx: made, never raised -/
def excO (a C : Addr) (dx : Option Addr) : HO := .ext fun h => ∃ vs : Array Value, h.get? a = some (excObj C dx vs) ∧ vs.size = 6 ∧ vs[1]? = some .none
/-- .. that was raised -/
def flO (a C : Addr) (dx : Option Addr) : HO := .ext fun h => ∃ vs : Array Value, h.get? a = some (excObj C dx vs) ∧ vs.size = 6
/-- the dict of an exception, its fields -/
def xdO (dx : Addr) (fs : List (Str × V)) : HO := .ext fun h => fs.length ≤ 1000 ∧ ∃ mA, h.Ns1 dx mA ∧ (∀ f, RelO (fs.lookup f) (mA f)) ∧ PySem.Within mA (fs.map (·.1))
/-- an exception stands ready at a: it was just made, or it has left a callee's frame -/
def FlyAt (X : Cx) (pins : List (Addr × Obj)) (H : Hp) (a : Addr) (s : Shared) : Prop :=
  ∃ (C : Addr) (dx : Option Addr) (vs : Array Value), H a = some (flO a C dx) ∧ s.heap.get? a = some (excObj C dx vs) ∧ vs.size = 6 ∧
    (vs[1]? = some .none ∨ ∃ (T : Addr) (oT : Obj) (ts : Array Value), vs[1]? = some (.ref T) ∧ T ≠ a ∧ s.heap.get? T = some oT ∧ oT.data = .fields ts ∧ ts[3]? = some .none ∧ FpOk X pins H T)
/-- the context's wish takes every exception that Ex tells -/
def Meets (X : Cx) (Ex : St → EK) : Prop :=
  ∀ (pins : List (Addr × Obj)) (σ : St) (H : Hp) (s : Shared) (a : Addr), Inv X pins σ H s → FlyAt X pins H a s → Ex σ a H → X.xe (.ref a) s
def QE (X : Cx) (e : Expr) (t : DE) : Prop := ∀ Ex, Meets X Ex → PE X e (fun σ H Q => t σ H Q (Ex σ))
def QT (X : Cx) (e : Expr) (t : DT) : Prop := ∀ Ex, Meets X Ex → PT X e (fun σ H Q => t σ H Q (Ex σ))
def QW (X : Cx) (e : Expr) (t : DT) : Prop := ∀ Ex, Meets X Ex → PW X e (fun σ H Q => t σ H Q (Ex σ))
def QA (X : Cx) (es : List Expr) (t : DA) : Prop := ∀ Ex, Meets X Ex → PA X es (fun σ H Q => t σ H Q (Ex σ))
def outs (Ex : St → EK) (D : Ends) : Outs := ⟨D.nx, D.rt, D.bk, D.ct, Ex⟩
def QS (X : Cx) (st : Stmt) (t : DS) : Prop := ∀ Ex, Meets X Ex → PS X st (fun D σ H => t (outs Ex D) σ H)
def QSs (X : Cx) (st : List Stmt) (t : DS) : Prop := ∀ Ex, Meets X Ex → PSs X st (fun D σ H => t (outs Ex D) σ H)

def dNo : DE := fun _ _ _ _ => False
def dVar (i : Nat) : DE := fun σ H Q _ => match σ[i]? with
  | some (some v) => Q v H
  | _ => False
def dC (v : V) : DE := fun _ H Q _ => Q v H
def dBin (r : R2) (a b : DE) : DE := fun σ H Q E => a σ H (fun x H1 => b σ H1 (fun y H2 => r x y H2 Q) E) E
def dUn (r : V → Hp → VK → Prop) (a : DE) : DE := fun σ H Q E => a σ H (fun x H1 => r x H1 Q) E
def dChain (r r' : R2) (a b c : DE) : DE := fun σ H Q E => a σ H (fun x H1 => b σ H1 (fun y H2 => r x y H2 fun z H3 => match z with
  | .bl k => if k = true then c σ H3 (fun w H4 => r' y w H4 Q) E else Q (.bl false) H3
  | _ => False) E) E
def dAnd (a b : DT) : DT := fun σ H Q E => a σ H (fun k H1 => if k = true then b σ H1 Q E else Q false H1) E
def dOr (a b : DT) : DT := fun σ H Q E => a σ H (fun k H1 => if k = true then Q true H1 else b σ H1 Q E) E
def dNot (a : DT) : DT := fun σ H Q E => a σ H (fun k H1 => Q (!k) H1) E
def dIfE (t : DT) (a b : DE) : DE := fun σ H Q E => t σ H (fun k H1 => if k = true then a σ H1 Q E else b σ H1 Q E) E
/-- a value's truth -/
def truD (K : PySem.W.Frag) (x : V) (H : Hp) (Q : Bool → Hp → Prop) : Prop := match x with
  | .bl k => Q k H
  | .non => Q false H
  | .int i => Q (i != 0) H
  | .str y => y.length ≤ sizeLine ∧ Q ((y.length : Int) != 0) H
  | .ref p => ∃ k, TruV K (.ref p) H k ∧ Q k H
  | _ => False
def dAndV (K : PySem.W.Frag) (a b : DE) : DE := fun σ H Q E => a σ H (fun x H1 => truD K x H1 fun k H2 => if k = true then b σ H2 Q E else Q x H2) E
def dOrV (K : PySem.W.Frag) (a b : DE) : DE := fun σ H Q E => a σ H (fun x H1 => truD K x H1 fun k H2 => if k = true then Q x H2 else b σ H2 Q E) E
def dNotV (K : PySem.W.Frag) (a : DE) : DE := fun σ H Q E => a σ H (fun x H1 => truD K x H1 fun k H2 => Q (.bl (!k)) H2) E
def dTru (K : PySem.W.Frag) (a : DE) : DT := fun σ H Q E => a σ H (fun x H1 => truD K x H1 Q) E
def dTst (a : DE) : DT := fun σ H Q E => a σ H (fun x H1 => match x with
  | .bl k => Q k H1
  | _ => False) E
def dNil : DA := fun _ H Q _ => Q [] H
def dCons (a : DE) (r : DA) : DA := fun σ H Q E => a σ H (fun x H1 => r σ H1 (fun xs H2 => Q (x :: xs) H2) E) E
def dTup (t : DA) : DE := fun σ H Q E => t σ H (fun xs H1 => xs.length ≤ sizeLine ∧ ∀ p, H1 p = none → Q (.ref p) (upd H1 p (.tup xs))) E
def dLst (t : DA) : DE := fun σ H Q E => t σ H (fun xs H1 => xs.length ≤ sizeLine ∧ ∀ p, H1 p = none → Q (.ref p) (upd H1 p (.lst xs))) E
def dFn (r : List V → Hp → VK → EK → Prop) (t : DA) : DE := fun σ H Q E => t σ H (fun vs H1 => r vs H1 Q E) E
def dMt (r : V → Hp → (Hp → (List V → Hp → Prop) → Prop) → VK → Prop) (o : DE) (t : DA) : DE := fun σ H Q E => o σ H (fun x H1 => r x H1 (fun H2 R => t σ H2 R E) Q) E

def dNext : DS := fun D σ H => D.nx σ H
def dNever : DS := fun _ _ _ => False
def dSeq (t u : DS) : DS := fun D σ H => t { D with nx := u D } σ H
def dRet (e : DE) : DS := fun D σ H => e σ H D.rt (D.ex σ)
def dRetN : DS := fun D _ H => D.rt .non H
def dDrop (e : DE) : DS := fun D σ H => e σ H (fun _ H1 => D.nx σ H1) (D.ex σ)
def dIf (c : DT) (t u : DS) : DS := fun D σ H => c σ H (fun b H1 => if b = true then t D σ H1 else u D σ H1) (D.ex σ)
def dBrk : DS := fun D σ H => D.bk σ H
def dCnt : DS := fun D σ H => D.ct σ H
def dSet (i : Nat) (e : DE) : DS := fun D σ H => e σ H (fun v H1 => D.nx (σ.set i (some v)) H1) (D.ex σ)
abbrev DG := TG
abbrev DI := St → Hp → (It → Hp → Prop) → EK → Prop
def dWhile (c : DT) (tb : DS) : DS := fun D σ H => ∃ W : Nat → St → Hp → Prop, (∃ m, W m σ H) ∧ ∀ m σ H, W m σ H →
  c σ H (fun b H1 => if b = true then ∃ N : St → Hp → Prop, (∀ σ' H', N σ' H' → ∃ m', m' < m ∧ W m' σ' H') ∧ tb { D with nx := N, ct := N, bk := D.nx } σ H1 else D.nx σ H1) (D.ex σ)
def ForW (J : It) (g : DG) (tb : DS) (D : Outs) (σ : St) (H : Hp) : Prop := ∃ W : Nat → Nat → St → Hp → Prop, (∃ m, W 0 m σ H) ∧ ∀ i m σ H, W i m σ H →
  (J.stop i H ∧ D.nx σ H) ∨ (J.go i H ∧ ∃ N : St → Hp → Prop, (∀ σ' H', N σ' H' → ∃ m', m' < m ∧ W (i + 1) m' σ' H') ∧ ∀ x H', J.yld i H x H' → g x σ H' (fun σ2 H2 => tb { D with nx := N, ct := N, bk := D.nx } σ2 H2))
def dFor (wi : DI) (g : DG) (tb : DS) : DS := fun D σ H => wi σ H (fun J H1 => ForW J g tb D σ H1) (D.ex σ)
def CmpW (J : It) (g : DG) (tc : DT) (te : DE) (D : Addr) (R : Hp → Prop) (σ : St) (H : Hp) : Prop :=
  ∃ W : Nat → Nat → St → Hp → Prop, (∃ m, W 0 m σ H) ∧ ∀ i m σ' H', W i m σ' H' →
    (J.stop i H' ∧ R H') ∨ (J.go i H' ∧ ∃ N : St → Hp → Prop, (∀ σ2 H2, N σ2 H2 → ∃ m', m' < m ∧ W (i + 1) m' σ2 H2) ∧ ∀ x H2, J.yld i H' x H2 → g x σ' H2 (fun σ3 H3 => tc σ3 H3 (fun b H4 => if b = true then
        te σ3 H4 (fun v H5 => ∃ ys, H5 D = some (.lst ys) ∧ ys.length < sizeLine ∧ N σ3 (upd H5 D (.lst (ys ++ [v])))) (fun _ _ => False)
      else N σ3 H4) (fun _ _ => False)))
def dComp (srcs : List (Option Nat)) (wi : DI) (g : DG) (tc : DT) (te : DE) : DE := fun σ H Q E => wi σ H (fun J H1 => ∀ D, H1 D = none → CmpW J g tc te D (fun H' => Q (.ref D) H') (capt srcs σ) (upd H1 D (.lst []))) E
def dYes : DT := fun _ H Q _ => Q true H
def gdN (i : Nat) : DG := fun v σ H Q => Q (σ.set i (some v)) H
end L2

set_option maxRecDepth 100000
set_option maxHeartbeats 4000000
namespace L2
open PySem PySem.Spec PyProof.Rows PySem.W
section
variable {prog : Program} {w : World} {A : Around} {E : Value → Shared → Prop} {s : Shared} {K : PySem.W.Frag} {x C : Addr} {ox : Obj} {od : Option Obj} {name : Str} {expr : Bool} {Q : Value → Shared → Prop}
theorem bga_bind (self : Value) : bindSpecial (.builtin "BaseException.__getattribute__") self = pure (.builtin "BaseException.__getattribute__", [self]) := by
  have hop : withoutEnding? "BaseException.__getattribute__" "#opaque" = none := by decide +kernel
  have hdat : withoutEnding? "BaseException.__getattribute__" "#data" = none := by decide +kernel
  have hk : builtinKind "BaseException.__getattribute__" = some .slot := by decide +kernel
  simp only [bindSpecial, typeOf, builtinType, hop, hdat, hk]; rfl
theorem get_exc {v : Value} (X : K.In s.heap) (I : PySem.W.InstAt s.heap x ox C od) (hga : PySem.W.findIn K (.ref C) "__getattribute__" = some (some (.builtin "BaseException.__getattribute__"))) (hgt : PySem.W.findIn K (.ref C) "__getattr__" = some none)
    (hB : PySem.W.mroIn K C (.type "BaseException") = some true) (hf : PySem.W.findObj K C od name = some (.value v)) (hh : PySem.W.handedIn v = true) (h : Q v { s with toks := s.toks + 1 }) :
    wpAny (model prog w) A (getAttr (.ref x) name expr) Q E s := by
  obtain ⟨hp, g, d, t, os⟩ := s
  have L0 := I.type (M := model prog w)
  have L1 := PySem.W.looks_findIn (M := model prog w) X hga
  have L2 := PySem.W.looks_findIn (M := model prog w) X hgt
  have L3 := PySem.W.looks_find (M := model prog w) X I hf
  have L4 := PySem.W.looks_mroIn (M := model prog w) X hB
  unfold getAttr getAttrBy
  refine wpAny_bind (wpAny_mkText (wpAny_holding (wpAny_bind (L0.at (wpAny_bind (L1.at ?_))))))
  have hx2 : (Value.builtin "BaseException.__getattribute__" == Value.builtin "object.__getattribute__") = false := by decide +kernel
  have hx1 : (onTheHeap (Value.ref C) && Value.builtin "BaseException.__getattribute__" == Value.builtin "object.__getattribute__") = false := by rw [hx2]; rfl
  dsimp only
  rw [hx1, if_neg Bool.false_ne_true]
  unfold getAttrByItsOwn
  refine wpAny_bind (show wpAny _ _ (typeLookup (.ref C) "__getattr__") _ _ _ from L2.at ?_)
  refine wpAny_bind (wpAny_attempt (wpAny_holding ?_))
  have hx0 : (expr && onTheHeap (Value.builtin "BaseException.__getattribute__")) = false := by cases expr <;> rfl
  unfold callGetattribute
  rw [hx0, if_neg Bool.false_ne_true]
  unfold boundAndCalled
  rw [bga_bind]
  refine wpAny_bind (wpAny_pure ?_)
  refine wpAny_call (codeAny_call_builtin (by decide +kernel) F.entry_bexc_ga (check_slot (i := "BaseException.__getattribute__") (owner := "BaseException") (n := "__getattribute__") (by decide +kernel) (by decide +kernel) (L0.andThen L4) (F.args_bexc_ga _ _) ?_))
  unfold Builtin.«object.__getattribute__»
  refine wpAny_bind (wpAny_pure (wpAny_bind (wpAny_pure (wpAny_bind (L0.at (wpAny_bind (L3.at ?_)))))))
  refine wpAny_pure ?_
  show wpAny _ _ (handedOut v) _ _ _
  rw [PySem.W.handedOut_of hh]
  exact wpAny_pure h
end
end L2

set_option maxRecDepth 100000
set_option maxHeartbeats 4000000
namespace L2
open PySem PySem.Spec PyProof.Rows PySem.W Builtin Builtin.ObjectAttr
def excTail : List Value → Bool
  | [.type a, .type b, .type c, .type d] => a == "ValueError" && b == "Exception" && c == "BaseException" && d == "object"
  | .ref _ :: r => excTail r
  | _ => false
def valTail : List Value := [.type "ValueError", .type "Exception", .type "BaseException", .type "object"]
theorem refuse_val (self : Value) : refuseLoop self "__setattr__" valTail = pure () := by kernel_rfl
theorem excTail_eq : ∀ {l : List Value}, excTail l = true → ∃ rs : List Addr, l = rs.map Value.ref ++ valTail
  | [.type a, .type b, .type c, .type d], e => by
    have e : (a == "ValueError" && b == "Exception" && c == "BaseException" && d == "object") = true := e
    simp only [Bool.and_eq_true, beq_iff_eq] at e
    obtain ⟨⟨⟨rfl, rfl⟩, rfl⟩, rfl⟩ := e
    exact ⟨[], rfl⟩
  | .ref a :: r, e => by
    have e : excTail r = true := by cases r <;> first | exact e | cases e
    obtain ⟨rs, h⟩ := excTail_eq e
    exact ⟨a :: rs, by rw [h]; rfl⟩
theorem refuse_exc (self : Value) (rs : List Addr) : refuseLoop self "__setattr__" (rs.map Value.ref ++ valTail) = pure () := by
  induction rs with
  | nil => exact refuse_val self
  | cons a r ih => rw [List.map_cons, List.cons_append, refuseLoop_ref]; exact ih
theorem tail_has (rs : List Addr) {T : String} (h : valTail.contains (.type T) = true) : (rs.map Value.ref ++ valTail).contains (.type T) = true := by
  induction rs with
  | nil => exact h
  | cons a r ih => rw [List.map_cons, List.cons_append, List.contains_cons, ih, Bool.or_true]
section
variable {prog : Program} {w : World} {A : Around} {s : Shared} {K : PySem.W.Frag} {x C : Addr} {R : Result → Shared → Prop}
theorem osa_openX {ox : Obj} {od : Option Obj} {name : Str} {tk : Tok} {v : Value} {cd : ClassData} (X : K.In s.heap) (I : PySem.W.InstAt s.heap x ox C od) (hc : clsIn K C = some cd) (hp : excTail cd.mro = true) (ht : findIn K (.ref C) name = some none)
    (h : wpAny (model prog w) A.in1 (storeInOwnDict (.ref x) (.ref C) (.str name tk) name v false)
      (fun fin s' => match fin with | .done f => R (.ok f) s' | .again c' => c'.quiet = true ∧ codeAny (model prog w) A c' R s') (fun e s' => R (.error e) s') s) :
    codeAny (model prog w) A (.call (.builtin "object.__setattr__") ⟨[.ref x, .str name tk, v], []⟩) R s := by
  have SF := PySem.F.store_object
  obtain ⟨rs, hm⟩ := excTail_eq hp
  have ne : cd.mro.isEmpty = false := by rw [hm]; cases rs <;> rfl
  have sub : Looks (model prog w) s.heap (isInstance (.ref x) (.type "object")) true := I.type.andThen (looks_mroIn X (by unfold mroIn; rw [hc, Option.bind_some, if_neg (by rw [ne]; decide), hm, tail_has rs (by decide +kernel)]))
  refine codeAny_call_builtin SF.slot.plain SF.entry (@check_slot (model prog w) _ _ s "object.__setattr__" "object" "__setattr__" (.ref x) [.str name tk, v] [] _ SF.kind SF.split sub (SF.args (.ref x) (.str name tk) v) ?_)
  have hmr : Looks (model prog w) s.heap (mroOf (.ref C)) cd.mro := (looks_clsIn X hc).andThen .now
  rw [osa_eq, refuse_eq]
  refine wpAny_bind (wpAny_bind (I.type.here (wpAny_bind (hmr.here ?_))))
  rw [hm, refuse_exc]
  refine wpAny_pure (wpAny_bind (I.type.here (wpAny_bind ((looks_findIn X ht).here (wpAny_bind (wpAny_pure ?_))))))
  exact h
end
section
variable {prog : Program} {w : World} {A : Around} {E : Value → Shared → Prop} {s : Shared} {K : PySem.W.Frag} {x dx C f : Addr} {mA : Str → Option Value} {name : Str} {v : Value} {vs : Array Value}
/-- a field of an exception that has fields -/
theorem set_exc {ns : List Str} {Q : Unit → Shared → Prop} {cd : ClassData} (X : K.In s.heap) (hx : s.heap.get? x = some (excObj C (some dx) vs)) (hn : s.heap.Ns1 dx mA) (hne : dx ≠ x)
    (hs : findIn K (.ref C) "__setattr__" = some (some (.builtin "object.__setattr__"))) (hc : clsIn K C = some cd) (hp : excTail cd.mro = true) (hd' : cd.hasDict = true) (ht : findIn K (.ref C) name = some none)
    (hw : PySem.Within mA ns) (hsz : ns.length ≤ sizeLine)
    (h : ∀ h', h'.get? x = some (excObj C (some dx) vs) → h'.Ns1 dx (fun y => if y = name then some v else mA y) → Heap.SameBut dx s.heap h' → Q () { s with heap := h', toks := s.toks + 2 }) :
    wpAny (model prog w) A (setAttr (.ref x) name v) Q E s := by
  obtain ⟨od, ho, hl⟩ := lookIn_ns hn
  have J : PySem.W.InstAt s.heap x (excObj C (some dx) vs) C (some od) := ⟨hx, rfl, rfl, ho⟩
  refine set_plain X J hs (osa_openX (s := { s with toks := s.toks + 1 }) X J hc hp ht ?_)
  refine wpAny_bind (wpAny_pure (wpAny_bind (wpAny_bind (wpAny_loadPart hx (wpAny_bind (Looks.here (s := { s with toks := s.toks + 1 }) (looks_clsIn X hc) ?_))))))
  rw [hd']
  refine wpAny_pure (a := some dx) (wpAny_bind (wpAny_pure (wpAny_bind ?_)))
  refine wpAny_nsSet1 (s := { s with toks := s.toks + 1 }) hn fun h' hn2 hs2 => ?_
  obtain ⟨oD, esD, epD, hoD, hdD, hcD⟩ := hn2.count (PySem.Within.cons name v hw)
  refine wpAny_bind (wpAny_lookBehind hoD (by rw [hdD]; exact pastItsLine_dict (Nat.le_trans hcD (by rw [List.length_cons]; omega))) ?_)
  exact wpAny_pure (h _ ((hs2.2 _ (Ne.symm hne)).trans hx) hn2 hs2)
/-- the first field: the dict is made -/
theorem set_exc0 {Q : Unit → Shared → Prop} {cd : ClassData} (X : K.In s.heap) (hx : s.heap.get? x = some (excObj C none vs))
    (hs : findIn K (.ref C) "__setattr__" = some (some (.builtin "object.__setattr__"))) (hc : clsIn K C = some cd) (hp : excTail cd.mro = true) (hd' : cd.hasDict = true) (ht : findIn K (.ref C) name = some none)
    (h : ∀ h', h'.get? x = some (excObj C (some s.heap.objs.size) vs) → h'.Ns1 s.heap.objs.size (fun y => if y = name then some v else none) → (∀ b o, b ≠ x → s.heap.get? b = some o → h'.get? b = some o) → Q () { s with heap := h', toks := s.toks + 2 }) :
    wpAny (model prog w) A (setAttr (.ref x) name v) Q E s := by
  have J : PySem.W.InstAt s.heap x (excObj C none vs) C none := ⟨hx, rfl, rfl, True.intro⟩
  refine set_plain X J hs (osa_openX (s := { s with toks := s.toks + 1 }) X J hc hp ht ?_)
  refine wpAny_bind (wpAny_pure (wpAny_bind (wpAny_bind (wpAny_loadPart hx (wpAny_bind (Looks.here (s := { s with toks := s.toks + 1 }) (looks_clsIn X hc) ?_))))))
  rw [hd']
  rw [if_neg (by decide)]
  refine wpAny_bind (wpAny_alloc (wpAny_bind (wpAny_update (Heap.get?_push_of_some _ hx) ?_)))
  refine wpAny_pure (a := some s.heap.objs.size) (wpAny_bind (wpAny_pure (wpAny_bind ?_)))
  have e1 : (s.heap.push emptyDict).get? s.heap.objs.size = some emptyDict := Heap.get?_push_size s.heap rfl
  have hne : x ≠ s.heap.objs.size := Nat.ne_of_lt (Heap.lt_size hx)
  have e2 : ((s.heap.push emptyDict).update x fun o => { o with dict := some s.heap.objs.size }).get? s.heap.objs.size = some emptyDict := by rw [Heap.get?_update_other _ _ hne]; exact e1
  have e3 : ((s.heap.push emptyDict).update x fun o => { o with dict := some s.heap.objs.size }).get? x = some (excObj C (some s.heap.objs.size) vs) := Heap.get?_update_self _ (Heap.get?_push_of_some _ hx) rfl
  have n0 : ((s.heap.push emptyDict).update x fun o => { o with dict := some s.heap.objs.size }).Ns s.heap.objs.size (fun _ => none) := ⟨emptyDict, #[], _, e2, rfl, (fun e he => absurd he (by simp)), fun _ => rfl⟩
  refine wpAny_nsSet1 (s := { s with heap := (s.heap.push emptyDict).update x fun o => { o with dict := some s.heap.objs.size }, toks := s.toks + 1 }) (Heap.Ns1.of_empty n0) fun h' hn2 hs2 => ?_
  obtain ⟨oD, esD, epD, hoD, hdD, hcD⟩ := hn2.count (ns := [name]) (fun y hy => by
    by_cases e : y = name
    · rw [e]; simp
    · exact absurd (by rw [if_neg e]) hy)
  refine wpAny_bind (wpAny_lookBehind hoD (by rw [hdD]; exact pastItsLine_dict (Nat.le_trans hcD (by show 1 ≤ sizeLine + 1; decide))) ?_)
  refine wpAny_pure (h _ ((hs2.2 _ hne).trans e3) hn2 fun b o hb e => ?_)
  have hbs : b ≠ s.heap.objs.size := Nat.ne_of_lt (Heap.lt_size e)
  refine (hs2.2 b hbs).trans ?_
  show ((s.heap.push emptyDict).update x _).get? b = some o
  rw [Heap.get?_update_other _ _ (Ne.symm hb)]
  exact Heap.get?_push_of_some _ e
end
end L2

set_option maxRecDepth 100000
set_option maxHeartbeats 4000000
namespace L2
open PySem PySem.Spec PySem.W Builtin Builtin.ObjectAttr
open Sem (wp)
/-- what an own class of refusals is -/
structure ECls (K : PySem.W.Frag) (C : Addr) : Prop where
  obj : ∃ nm q N bs bm hdct sn sub ab col dd k0 k1 k2 k3 k5, K.lookup C = some (excClassObj nm q C N bs bm hdct sn sub ab col dd k0 k1 k2 k3 k5 "ValueError.__new__") ∧ excTail bm = true ∧ hdct = true
  sa : findIn K (.ref C) "__setattr__" = some (some (.builtin "object.__setattr__"))
  ga : findIn K (.ref C) "__getattribute__" = some (some (.builtin "BaseException.__getattribute__"))
  gt : findIn K (.ref C) "__getattr__" = some none
  ca : findIn K (.ref C) "__class__" = some (some (.builtin "object.__class__"))
  hn : specialIn K (.builtin "object.__class__") "__get__" = some (some (.builtin "getset_descriptor.__get__"))
  htk : takesIn K (.builtin "object.__class__") = some true
theorem excTail_has {bm : List Value} (h : excTail bm = true) {T : String} {b : Bool} (hb : valTail.contains (.type T) = b) : bm.contains (.type T) = b := by
  obtain ⟨rs, rfl⟩ := excTail_eq h
  induction rs with
  | nil => exact hb
  | cons a r ih =>
    have h' : excTail (r.map Value.ref ++ valTail) = true := by
      cases r <;> exact h
    rw [List.map_cons, List.cons_append, List.contains_cons, ih h']
    rfl
section
variable {M : Model} {A : Around} {E : Value → Shared → Prop} {h : Heap} {g : Array GenState} {d : Drawn} {t : Nat} {os : OsState}
variable {nm q : Str} {C N : Addr} {bs bm : List Value} {hdct : Bool} {sn : List Str} {sub : List Value} {ab : Bool} {col : Option Bool} {dd : Option Addr} {k0 k1 k2 k3 k5 : Option Value}
theorem wpAny_check_new_X (T : excTail bm = true) {rest : List Value} {Q : Unit → Shared → Prop} (hC : h.get? C = some (excClassObj nm q C N bs bm hdct sn sub ab col dd k0 k1 k2 k3 k5 "ValueError.__new__"))
    (hq : Q () ⟨h, g, d, t, os⟩) : wpAny M A (checkBuiltinCall "ValueError.__new__" ⟨.ref C :: rest, []⟩) Q E ⟨h, g, d, t, os⟩ := by
  have F := PySem.F.excBase_ValueError
  have hcont : (Value.ref C :: bm).contains (.type "ValueError") = true := by rw [List.contains_cons, excTail_has T (show valTail.contains (.type "ValueError") = true by decide +kernel), Bool.or_true]
  have hstar := F.noStar
  simp only [checkBuiltinCall, F.newKind, F.newSplit, F.newRow]
  repeat (first | refine wpAny_loadPart_at hC ?_ | (refine wpAny_isSubtype_exc hC ?_; rw [hcont]) | refine wpAny_staticBase_exc hC ?_ | refine wpAny_madeBy_exc hC ?_ | simp only [bne_self_eq_false, Bool.false_eq_true, if_false] | wp_step)
  exact hq
end
section
variable {prog : Program} {w : World} {A : Around} {R : Result → Shared → Prop} {h : Heap} {g : Array GenState} {d : Drawn} {t : Nat} {os : OsState}
variable {nm q : Str} {C N : Addr} {bs bm : List Value} {hdct : Bool} {sn : List Str} {sub : List Value} {ab : Bool} {col : Option Bool} {dd : Option Addr} {k0 k1 k2 k3 k5 : Option Value}
theorem codeAny_exc_new_X (T : excTail bm = true) {rest : List Value} (hC : h.get? C = some (excClassObj nm q C N bs bm hdct sn sub ab col dd k0 k1 k2 k3 k5 "ValueError.__new__"))
    (hq : R (.ok (.ret (.ref (h.objs.size + 1)))) ⟨(h.push { cls := .type "tuple", data := .seq rest.toArray }).push
      { cls := .ref C, data := .fields #[.ref h.objs.size, .none, .none, .none, .bool false, .none] }, g, d, t, os⟩) (hrest : rest.length ≤ sizeLine) :
    codeAny (model prog w) A (.builtin "ValueError.__new__" ⟨.ref C :: rest, []⟩) R ⟨h, g, d, t, os⟩ := by
  have F := PySem.F.excBase_ValueError
  have hends := F.ends
  have hcB : (Value.ref C :: bm).contains (.type "ValueError") = true := by rw [List.contains_cons, excTail_has T (show valTail.contains (.type "ValueError") = true by decide +kernel), Bool.or_true]
  have hcA : (Value.ref C :: bm).contains (.type "AttributeError") = false := by rw [List.contains_cons, excTail_has T (show valTail.contains (.type "AttributeError") = false by decide +kernel)]; rfl
  have hcN : (Value.ref C :: bm).contains (.type "NameError") = false := by rw [List.contains_cons, excTail_has T (show valTail.contains (.type "NameError") = false by decide +kernel)]; rfl
  refine codeAny_builtinAt F.entry ?_
  unfold Builtin.«BaseException.__new__»
  refine wpAt_bind ?_
  show wpAt _ _ _ (stack >>= _) _ _ _
  refine wpAt_bind (wpAt_stack fun p below => wpAt_of_wpAny ?_)
  wp_walk
  refine wpAt_of_wpAny ?_
  rw [F.owner]
  repeat (first | with_reducible refine wpAny_madeHere_exc F.canon hC ?_ | with_reducible refine wpAny_loadPart_at hC ?_ | (with_reducible refine wpAny_isSubtype_exc hC ?_; first | rw [hcB] | rw [hcA] | rw [hcN]) | wp_step)
  show R _ _
  rw [Heap.size_push]
  exact hq
end
end L2

set_option maxRecDepth 100000
set_option maxHeartbeats 4000000
namespace L2
open PySem PySem.Spec PySem.W Builtin Builtin.ObjectAttr
open Sem (wp)
section
variable {prog : Program} {w : World} {A : Around} {E : Value → Shared → Prop} {h : Heap} {g : Array GenState} {d : Drawn} {t : Nat} {os : OsState}
variable {nm q : Str} {C N f : Addr} {bs bm : List Value} {hdct : Bool} {sn : List Str} {sub : List Value} {ab : Bool} {col : Option Bool} {dd : Option Addr} {k0 k1 k2 k3 k5 : Option Value}
/-- the heap with a new exception -/
abbrev excHeap (h : Heap) (C : Addr) (rest : List Value) : Heap := (h.push { cls := .type "tuple", data := .seq rest.toArray }).push { cls := .ref C, data := .fields #[.ref h.objs.size, .none, .none, .none, .bool false, .none] }
theorem wpAny_type_call_X (T : excTail bm = true) {rest : List Value} {Q : Fin → Shared → Prop}
    (hC : h.get? C = some (excClassObj nm q C N bs bm hdct sn sub ab col dd k0 k1 k2 k3 k5 "ValueError.__new__"))
    (hi : Looks (model prog w) h (typeLookup (.ref C) "__init__") (some (.ref f))) (hb : ∀ self, Looks (model prog w) h (bindSpecial (.ref f) self) (.ref f, [self]))
    (hq : wpAny (model prog w) A (call (.ref f) (.ref (h.objs.size + 1) :: rest)) (fun v s' => v = .none ∧ Q (.done (.ret (.ref (h.objs.size + 1)))) s') E ⟨excHeap h C rest, g, d, t, os⟩) (hrest : rest.length ≤ sizeLine) :
    wpAny (model prog w) A (Builtin.«type.__call__» ⟨.ref C :: rest, []⟩) Q E ⟨h, g, d, t, os⟩ := by
  have F := PySem.F.excBase_ValueError
  repeat (first | with_reducible refine wpAny_loadPart_at hC ?_ | with_reducible refine wpAny_madeBy_exc hC ?_ | wp_step)
  refine codeAny_call_builtin_code (Code.quiet_builtin _ F.quiet) (wpAny_check_new_X T hC ?_)
  refine codeAny_exc_new_X T hC ?_ hrest
  show wpAny _ _ _ _ _ _
  have kp : ∀ b o, h.get? b = some o → (excHeap h C rest).get? b = some o := fun b o e => Heap.get?_push_of_some _ (Heap.get?_push_of_some _ e)
  have hC₁ := kp _ _ hC
  have hget : (excHeap h C rest).get? (h.objs.size + 1) = some { cls := .ref C, data := .fields #[.ref h.objs.size, .none, .none, .none, .bool false, .none] } := by heap_get
  have hcC : (Value.ref C :: bm).contains (.ref C) = true := by simp
  unfold isInstance
  repeat (first | with_reducible refine wpAny_loadPart_at hget ?_ | (with_reducible refine wpAny_isSubtype_exc hC₁ ?_; rw [hcC]) | wp_step)
  show wpAny _ _ (typeLookup (.ref C) _) _ _ _
  refine (hi.keeps kp).at ?_
  refine wpAny_holding (wpAny_bind (((hb _).keeps kp).at ?_))
  refine wpAny_bind (wpAny_mono hq (fun v s' z => ?_) fun _ _ z => z)
  obtain ⟨rfl, z⟩ := z
  exact wpAny_pure (wpAny_pure z)
theorem make_exc (T : excTail bm = true) {rest : List Value} {R : Result → Shared → Prop}
    (hC : h.get? C = some (excClassObj nm q C N bs bm hdct sn sub ab col dd k0 k1 k2 k3 k5 "ValueError.__new__"))
    (hi : Looks (model prog w) h (typeLookup (.ref C) "__init__") (some (.ref f))) (hb : ∀ self, Looks (model prog w) h (bindSpecial (.ref f) self) (.ref f, [self]))
    (hq : codeAny (model prog w) (A.under (.builtin "type.__call__" ⟨.ref C :: rest, []⟩)) (.call (.ref f) ⟨.ref (h.objs.size + 1) :: rest, []⟩) (InitBack (h.objs.size + 1) R) ⟨excHeap h C rest, g, d, t, os⟩) (hrest : rest.length ≤ sizeLine) :
    codeAny (model prog w) A (.call (.ref C) ⟨rest, []⟩) R ⟨h, g, d, t, os⟩ := by
  have f1 := tc_lookup
  have f2 := tc_bind (.ref C)
  have hT : (⟨h, g, d, t, os⟩ : Shared).TypeIs (.ref C) "type" := ⟨_, hC, rfl⟩
  refine codeAny_of_tree ?_
  show wpAny _ _ (callAny (.ref C) _) _ _ _
  repeat (any_goals (first | assumption | with_reducible refine wpAny_loadPart_at hC ?_ | wp_step))
  refine ⟨rfl, ?_⟩
  refine codeAny_call_builtin_at (Code.quiet_builtin _ (by decide +kernel)) entry_typeCall (wpAny_check_type_call_sub hC (wpAny_type_call_X T hC hi hb (wpAny_call (codeAny_mono hq fun r s' z => ?_)) hrest))
  rcases r with e | (v | _ | _ | _) <;> first | exact z | exact z.elim
/-- without an __init__ of its own -/
theorem wpAny_type_call_X0 (T : excTail bm = true) {rest : List Value} {Q : Fin → Shared → Prop}
    (hC : h.get? C = some (excClassObj nm q C N bs bm hdct sn sub ab col dd k0 k1 k2 k3 k5 "ValueError.__new__"))
    (hi : Looks (model prog w) h (typeLookup (.ref C) "__init__") (some (.builtin "ValueError.__init__")))
    (hq : ∀ h' e, Heap.MadeExcOf h h' e (.ref C) rest → e = h.objs.size + 1 → Q (.done (.ret (.ref e))) ⟨h', g, d, t, os⟩) (hrest : rest.length ≤ sizeLine) :
    wpAny (model prog w) A (Builtin.«type.__call__» ⟨.ref C :: rest, []⟩) Q E ⟨h, g, d, t, os⟩ := by
  have F := PySem.F.excBase_ValueError
  repeat (first | with_reducible refine wpAny_loadPart_at hC ?_ | with_reducible refine wpAny_madeBy_exc hC ?_ | wp_step)
  refine codeAny_call_builtin_code (Code.quiet_builtin _ F.quiet) (wpAny_check_new_X T hC ?_)
  refine codeAny_exc_new_X T hC ?_ hrest
  show wpAny _ _ _ _ _ _
  have kp : ∀ b o, h.get? b = some o → (excHeap h C rest).get? b = some o := fun b o e => Heap.get?_push_of_some _ (Heap.get?_push_of_some _ e)
  have hC₁ := kp _ _ hC
  have hget : (excHeap h C rest).get? (h.objs.size + 1) = some { cls := .ref C, data := .fields #[.ref h.objs.size, .none, .none, .none, .bool false, .none] } := by heap_get
  have hcC : (Value.ref C :: bm).contains (.ref C) = true := by simp
  have hcB : (Value.ref C :: bm).contains (.type "ValueError") = true := by rw [List.contains_cons, excTail_has T (show valTail.contains (.type "ValueError") = true by decide +kernel), Bool.or_true]
  unfold isInstance
  repeat (first | with_reducible refine wpAny_loadPart_at hget ?_ | (with_reducible refine wpAny_isSubtype_exc hC₁ ?_; rw [hcC]) | wp_step)
  show wpAny _ _ (typeLookup (.ref C) _) _ _ _
  refine (hi.keeps kp).at ?_
  refine wpAny_holding (wpAny_bind (wpAny_of_eq (F.init.bind _) ?_))
  have chk : ∀ {Q' : Unit → Shared → Prop} {E' : Value → Shared → Prop} {A' : Around}, Q' () ⟨excHeap h C rest, g, d, t, os⟩ → wpAny (model prog w) A' (checkBuiltinCall "ValueError.__init__" ⟨.ref (h.objs.size + 1) :: rest, []⟩) Q' E' ⟨excHeap h C rest, g, d, t, os⟩ := fun {Q' E' A'} hq' => by
    have hshort := F.noStar
    simp only [checkBuiltinCall, F.initKind, F.initSplit, F.initRow]
    repeat (first | with_reducible refine wpAny_loadPart_at hget ?_ | with_reducible refine wpAny_loadPart_at hC₁ ?_ | (with_reducible refine wpAny_isSubtype_exc hC₁ ?_; rw [hcB]) | wp_step)
    refine wpAny_onRaise ?_
    rw [show ∀ (a b : String) (n : Nat), Bind.check ⟨.positional, "*", "ValueError", .self, [⟨"args", .varPos, false⟩]⟩ a b n (List.map (fun x => x.fst) ({ pos := Value.ref (h.objs.size + 1) :: rest } : Args).kw) = pure () from
      fun a b n => check_star_args _ _ _ _ _ _]
    exact wpAny_pure hq'
  refine wpAny_bind (wpAny_call (codeAny_call_builtin F.init.plain F.initEntry (chk ?_)))
  wp_walk
  refine hq _ _ ⟨fun b o hb => ?_, Heap.get?_none_of_le (Nat.le_succ _), h.objs.size + 2, ?_, Heap.get?_none_of_le (by omega), ?_⟩ rfl
  · rw [Heap.get?_update_other _ _ (Nat.ne_of_gt (Nat.lt_succ_of_lt (Heap.lt_size hb)))]
    exact Heap.get?_push_of_some _ (Heap.get?_push_of_some _ (Heap.get?_push_of_some _ hb))
  · rw [Heap.get?_update_self _ (Heap.get?_push_of_some _ hget) rfl]
    simp only [Heap.size_push]
    rfl
  · rw [Heap.get?_update_other _ _ (show h.objs.size + 1 ≠ h.objs.size + 2 by omega)]
    exact Heap.get?_push_at (by simp only [Heap.size_push]) rfl
theorem make_exc0 (T : excTail bm = true) {rest : List Value} {R : Result → Shared → Prop}
    (hC : h.get? C = some (excClassObj nm q C N bs bm hdct sn sub ab col dd k0 k1 k2 k3 k5 "ValueError.__new__"))
    (hi : Looks (model prog w) h (typeLookup (.ref C) "__init__") (some (.builtin "ValueError.__init__")))
    (hq : ∀ h' e, Heap.MadeExcOf h h' e (.ref C) rest → e = h.objs.size + 1 → R (.ok (.ret (.ref e))) ⟨h', g, d, t, os⟩) (hrest : rest.length ≤ sizeLine) :
    codeAny (model prog w) A (.call (.ref C) ⟨rest, []⟩) R ⟨h, g, d, t, os⟩ := by
  have f1 := tc_lookup
  have f2 := tc_bind (.ref C)
  have hT : (⟨h, g, d, t, os⟩ : Shared).TypeIs (.ref C) "type" := ⟨_, hC, rfl⟩
  refine codeAny_of_tree ?_
  show wpAny _ _ (callAny (.ref C) _) _ _ _
  repeat (any_goals (first | assumption | with_reducible refine wpAny_loadPart_at hC ?_ | wp_step))
  refine ⟨rfl, ?_⟩
  exact codeAny_call_builtin_at (Code.quiet_builtin _ (by decide +kernel)) entry_typeCall (wpAny_check_type_call_sub hC (wpAny_type_call_X0 T hC hi hq hrest))
end
end L2

set_option maxRecDepth 100000
set_option maxHeartbeats 4000000
namespace L2
open PySem PySem.Spec PySem.W PyProof.Rows
theorem ECls.cls {K : PySem.W.Frag} {C : Addr} (c : ECls K C) : ∃ cd, clsIn K C = some cd ∧ excTail cd.mro = true ∧ cd.hasDict = true := by
  obtain ⟨nm, q, N, bs, bm, hdct, sn, sub, ab, col, dd, k0, k1, k2, k3, k5, hl, ht, hd⟩ := c.obj
  refine ⟨_, by unfold clsIn; rw [hl], ?_, hd⟩
  obtain ⟨rs, e⟩ := excTail_eq ht
  show excTail (Value.ref C :: bm) = true
  rw [e]
  clear e
  show excTail (List.map Value.ref (C :: rs) ++ valTail) = true
  have : ∀ l : List Addr, excTail (List.map Value.ref l ++ valTail) = true := fun l => by
    induction l with
    | nil => decide +kernel
    | cons a r ih => cases r <;> exact ih
  exact this _
theorem ECls.sub {K : PySem.W.Frag} {C : Addr} (c : ECls K C) {T : String} (h : valTail.contains (.type T) = true) : mroIn K C (.type T) = some true := by
  obtain ⟨cd, h1, h2, _⟩ := c.cls
  obtain ⟨rs, e⟩ := excTail_eq h2
  unfold mroIn
  rw [h1, Option.bind_some, e, tail_has rs h, if_neg]
  cases rs <;> exact Bool.false_ne_true
section
variable {prog : Program} {w : World} {A : Around} {E : Value → Shared → Prop} {s : Shared} {K : PySem.W.Frag} {x C : Addr} {ox : Obj} {od : Option Obj} {name : Str}
theorem get_excB {g a v : Value} {Q : Option Value → Shared → Prop} (X : K.In s.heap) (I : PySem.W.InstAt s.heap x ox C od) (hga : PySem.W.findIn K (.ref C) "__getattribute__" = some (some (.builtin "BaseException.__getattribute__"))) (hgt : PySem.W.findIn K (.ref C) "__getattr__" = some none)
    (hB : PySem.W.mroIn K C (.type "BaseException") = some true) (hf : PySem.W.findObj K C od name = some (.bind g a)) (hh : PySem.W.handedIn v = true)
    (h : ∀ {A' : Around} {R : Result → Shared → Prop}, R (.ok (.ret v)) { s with toks := s.toks + 1 } → codeAny (model prog w) A' (.call g ⟨[a, .ref x, .ref C], []⟩) R { s with toks := s.toks + 1 }) (hq : Q (some v) { s with toks := s.toks + 1 }) :
    wpAny (model prog w) A (getAttr? (.ref x) name) Q E s := by
  obtain ⟨hp, gg, d, t, os⟩ := s
  have L0 := I.type (M := model prog w)
  have L1 := PySem.W.looks_findIn (M := model prog w) X hga
  have L2 := PySem.W.looks_findIn (M := model prog w) X hgt
  have L3 := PySem.W.looks_find (M := model prog w) X I hf
  have L4 := PySem.W.looks_mroIn (M := model prog w) X hB
  unfold getAttr? getAttrBy? getAttrBy
  refine wpAny_bind (wpAny_mkText (wpAny_bind (wpAny_attempt (wpAny_holding (wpAny_bind (L0.at (wpAny_bind (L1.at ?_))))))))
  have hx2 : (Value.builtin "BaseException.__getattribute__" == Value.builtin "object.__getattribute__") = false := by decide +kernel
  have hx1 : (onTheHeap (Value.ref C) && Value.builtin "BaseException.__getattribute__" == Value.builtin "object.__getattribute__") = false := by rw [hx2]; rfl
  dsimp only
  rw [hx1, if_neg Bool.false_ne_true]
  unfold getAttrByItsOwn
  refine wpAny_bind (show wpAny _ _ (typeLookup (.ref C) "__getattr__") _ _ _ from L2.at ?_)
  refine wpAny_bind (wpAny_attempt (wpAny_holding ?_))
  have hx0 : (false && onTheHeap (Value.builtin "BaseException.__getattribute__")) = false := rfl
  unfold callGetattribute
  rw [hx0, if_neg Bool.false_ne_true]
  unfold boundAndCalled
  rw [bga_bind]
  refine wpAny_bind (wpAny_pure ?_)
  refine wpAny_call (codeAny_call_builtin (by decide +kernel) F.entry_bexc_ga (check_slot (i := "BaseException.__getattribute__") (owner := "BaseException") (n := "__getattribute__") (by decide +kernel) (by decide +kernel) (L0.andThen L4) (F.args_bexc_ga _ _) ?_))
  unfold Builtin.«object.__getattribute__»
  refine wpAny_bind (wpAny_pure (wpAny_bind (wpAny_pure (wpAny_bind (L0.at (wpAny_bind (L3.at ?_)))))))
  refine wpAny_bind (wpAny_holding (wpAny_call (h ?_)))
  refine wpAny_pure ?_
  show wpAny _ _ (handedOut v) _ _ _
  rw [PySem.W.handedOut_of hh]
  exact wpAny_pure (wpAny_pure hq)
theorem findObj_dataO {a g : Value} (hc : (clsIn K C).isSome = true) (ha : findIn K (.ref C) name = some (some a)) (hg : specialIn K a "__get__" = some (some g)) (ht : takesIn K a = some true) : findObj K C od name = some (.bind g a) := by
  obtain ⟨cd, hc⟩ := Option.isSome_iff_exists.mp hc
  unfold findObj
  rw [hc, Option.bind_some, ha, Option.bind_some]
  simp [hg, ht]
theorem exc_class {Q : Option Value → Shared → Prop} (c : ECls K C) (X : K.In s.heap) (I : InstAt s.heap x ox C od) (h : Q (some (.ref C)) { s with toks := s.toks + 1 }) : wpAny (model prog w) A (getAttr? (.ref x) "__class__") Q E s := by
  have hf : findObj K C od "__class__" = some (.bind (.builtin "getset_descriptor.__get__") (.builtin "object.__class__")) := findObj_dataO (by obtain ⟨cd, hc, _⟩ := c.cls; rw [hc]; rfl) c.ca c.hn c.htk
  exact get_excB (v := .ref C) X I c.ga c.gt (c.sub (by decide +kernel)) hf rfl (fun q => class_get (s := { s with toks := s.toks + 1 }) (ox := ox) (od := od) X I (c.sub (by decide +kernel)) q) h
end
theorem kitx_exc {K : PySem.W.Frag} {x D : Addr} (c : ECls K D) : KitX K (.ref x) (.ref D) (fun h => ∃ ox od, InstAt h x ox D od) where
  ty := fun _ _ _ ⟨_, _, I⟩ => I.type
  it := fun _ _ X _ => by
    obtain ⟨cdD, hcD, _⟩ := c.cls
    unfold clsIn at hcD
    split at hcD
    · rename_i c' d' cd' sl' ho
      intro A' Q' E' s' k q
      unfold isType loadHead
      exact wpAny_bind (wpAny_loadPart (k _ _ (X _ _ ho)) (wpAny_pure q))
    · cases hcD
  ne := fun h tp dd its n sl X htp => by
    obtain ⟨cdD, hcD, _⟩ := c.cls
    refine Bool.eq_false_iff.mpr fun q => ?_
    have e : D = tp := Value.ref.inj (beq_iff_eq.mp q)
    subst e
    unfold clsIn at hcD
    split at hcD
    · rename_i c' d' cd' sl' ho
      have z := (X _ _ ho).symm.trans htp
      cases z
    · cases hcD
  ca := fun X ⟨_, _, I⟩ k => exc_class c X I k
/-- an exception and its fields -/
def ExcAt (H : Hp) (a C : Addr) (fs : List (Str × V)) : Prop := (fs = [] ∧ (H a = some (excO a C none) ∨ H a = some (flO a C none))) ∨ ∃ dx, dx ≠ a ∧ (H a = some (excO a C (some dx)) ∨ H a = some (flO a C (some dx))) ∧ H dx = some (xdO dx fs)
/-- the type of a value, exceptions among them -/
inductive TyX (K : PySem.W.Frag) (H : Hp) (x : V) (t : Value) : Prop where
  | of (h : TyOf K H x t)
  | exc {a C : Addr} {fs : List (Str × V)} (ex : x = .ref a) (e : ExcAt H a C fs) (c : ECls K C) (et : t = .ref C)
section
variable {X : Cx} {pins : List (Addr × Obj)} {σ : St} {H : Hp} {s : Shared} {A : Around} {E : Value → Shared → Prop} {a C : Addr} {fs : List (Str × V)}
theorem exc_at {dx : Option Addr} (I : Inv X pins σ H s) (e : H a = some (excO a C dx)) : ∃ vs : Array Value, s.heap.get? a = some (excObj C dx vs) ∧ vs.size = 6 ∧ vs[1]? = some .none := (I.hok a _ e).1
theorem fl_at {dx : Option Addr} (I : Inv X pins σ H s) (e : H a = some (flO a C dx)) : ∃ vs : Array Value, s.heap.get? a = some (excObj C dx vs) ∧ vs.size = 6 := (I.hok a _ e).1
theorem ex_at {dx : Option Addr} (I : Inv X pins σ H s) (e : H a = some (excO a C dx) ∨ H a = some (flO a C dx)) : ∃ vs : Array Value, s.heap.get? a = some (excObj C dx vs) ∧ vs.size = 6 := by
  rcases e with e | e
  · obtain ⟨vs, h1, h2, _⟩ := exc_at I e; exact ⟨vs, h1, h2⟩
  · exact fl_at I e
theorem xd_at {dx : Addr} (I : Inv X pins σ H s) (e : H dx = some (xdO dx fs)) : fs.length ≤ 1000 ∧ ∃ mA, s.heap.Ns1 dx mA ∧ (∀ f, RelO (fs.lookup f) (mA f)) ∧ PySem.Within mA (fs.map (·.1)) := (I.hok dx _ e).1
/-- the exception in the heap itself -/
theorem ExcAt.inst (I : Inv X pins σ H s) (e : ExcAt H a C fs) : ∃ vs dx od, InstAt s.heap a (excObj C dx vs) C od ∧ (∀ o, od = some o → ∀ name, ∃ v, lookIn name o = some v ∧ RelO (fs.lookup name) v) ∧ (od = none → fs = []) := by
  rcases e with ⟨rfl, e⟩ | ⟨dx, ne, e, ed⟩
  · obtain ⟨vs, h1, _⟩ := ex_at I e
    exact ⟨vs, none, none, ⟨h1, rfl, rfl, True.intro⟩, fun o z => (nomatch z), fun _ => rfl⟩
  · obtain ⟨vs, h1, _⟩ := ex_at I e
    obtain ⟨_, mA, hn, hr, _⟩ := xd_at I ed
    obtain ⟨od, ho, hl⟩ := lookIn_ns hn
    refine ⟨vs, some dx, some od, ⟨h1, rfl, rfl, ho⟩, fun o z name => ?_, fun z => nomatch z⟩
    cases z
    exact ⟨_, hl name, hr name⟩
theorem isinst_okX {Q : Value → Shared → Prop} {c : Value} {b : Bool} {x : V} {u t : Value} (I : Inv X pins σ H s) (rx : RelV x u) (ty : TyX X.K H x t) (e : PySem.W.kitOne X.K t c = some b) (h : ∀ tk, Q (.bool b) { s with toks := tk }) :
    wpAny (model X.prog X.w) A (call (.builtin "isinstance") [u, c]) Q E s := by
  cases ty with
  | of ty => exact isinst_ok I rx ty e h
  | @exc a C fs ex ea cl et =>
    subst ex et
    cases (show u = Value.ref a from rx)
    obtain ⟨vs, dx, od, J, _⟩ := ea.inst I
    exact PySem.W.kia_one (kitx_exc cl) I.kIn ⟨_, _, J⟩ e (fun z => nomatch z) h
theorem getexc_ok {b : Bool} {f : Str} {v : V} {Q : Value → Shared → Prop} (I : Inv X pins σ H s) (e : ExcAt H a C fs) (c : ECls X.K C) (n : NoAttr X.K C f) (l : fs.lookup f = some v)
    (h : ∀ u s', Inv X pins σ H s' → RelV v u → Q u s') : wpAny (model X.prog X.w) A (getAttr (.ref a) f b) Q E s := by
  obtain ⟨vs, dx, od, J, hl, hn⟩ := e.inst I
  obtain ⟨cd, hc, _, hd⟩ := c.cls
  cases od with
  | none => rw [hn rfl] at l; cases l
  | some o =>
    obtain ⟨u?, h1, h2⟩ := hl o rfl f
    rw [l] at h2
    obtain ⟨u, hu, ru⟩ := RelO.some_of h2
    subst hu
    refine get_exc I.kIn J c.ga c.gt (c.sub (by decide +kernel)) (PySem.W.findObj_own (by unfold hasDictIn; rw [hc]; exact hd) n rfl h1) (handed_of ru) (h u _ (I.tok _) ru)
/-- what a field's assignment makes of the abstract heap -/
def SetX (H : Hp) (a C : Addr) (f : Str) (y : V) (N : Hp → Prop) : Prop :=
  (H a = some (excO a C none) ∧ ∀ dx, H dx = none → dx ≠ a → N (upd (upd H dx (xdO dx [(f, y)])) a (excO a C (some dx)))) ∨
  ∃ dx fs, dx ≠ a ∧ H a = some (excO a C (some dx)) ∧ H dx = some (xdO dx fs) ∧ fs.length < 1000 ∧ N (upd H dx (xdO dx (putF f y fs)))
theorem excO_ok {P : Program} {w : World} {H : Hp} {h : Heap} {dx : Option Addr} {vs : Array Value} (h1 : h.get? a = some (excObj C dx vs)) (h2 : vs.size = 6) (h3 : vs[1]? = some .none) : ObjOk P w H h a (excO a C dx) :=
  ⟨⟨vs, h1, h2, h3⟩, ⟨_, h1⟩, fun _ _ ⟨vs', q1, q2⟩ k => ⟨vs', k _ q1, q2⟩⟩
theorem flO_ok {P : Program} {w : World} {H : Hp} {h : Heap} {dx : Option Addr} {vs : Array Value} (h1 : h.get? a = some (excObj C dx vs)) (h2 : vs.size = 6) : ObjOk P w H h a (flO a C dx) :=
  ⟨⟨vs, h1, h2⟩, ⟨_, h1⟩, fun _ _ ⟨vs', q1, q2⟩ k => ⟨vs', k _ q1, q2⟩⟩
theorem xdO_ok {P : Program} {w : World} {H : Hp} {h : Heap} {dx : Addr} {mA : Str → Option Value} (z : fs.length ≤ 1000) (h1 : h.Ns1 dx mA) (h2 : ∀ f, RelO (fs.lookup f) (mA f)) (h3 : PySem.Within mA (fs.map (·.1))) : ObjOk P w H h dx (xdO dx fs) :=
  ⟨⟨z, mA, h1, h2, h3⟩, (let ⟨o, _, _, e, _⟩ := h1; ⟨o, e⟩), fun _ _ ⟨z', mB, q1, q2, q3⟩ k => ⟨z', mB, q1.at k, q2, q3⟩⟩
theorem setexc_ok {f : Str} {y : V} {u : Value} {Q : Unit → Shared → Prop} {N : Hp → Prop} (I : Inv X pins σ H s) (c : ECls X.K C) (n : NoAttr X.K C f) (ry : RelV y u) (h0 : SetX H a C f y N)
    (h : ∀ H' s', Inv X pins σ H' s' → N H' → Q () s') : wpAny (model X.prog X.w) A (setAttr (.ref a) f u) Q E s := by
  obtain ⟨cd, hc, hp, hd⟩ := c.cls
  rcases h0 with ⟨e, hN⟩ | ⟨dx, fs, ne, e, ed, hz, hN⟩
  · obtain ⟨vs, h1, h2, h3⟩ := exc_at I e
    refine set_exc0 I.kIn h1 c.sa hc hp hd n fun h' q1 q2 q3 => ?_
    have fr : H s.heap.objs.size = none := I.hok.fresh (Nat.le_refl _)
    have ane : s.heap.objs.size ≠ a := fun z => by rw [z, e] at fr; cases fr
    refine h _ _ ?_ (hN _ fr ane)
    obtain ⟨o, es, ep, eo, hrest⟩ := id q2
    have eo1 : (s.heap.push o).get? s.heap.objs.size = some o := Heap.get?_push_size s.heap (Heap.get?_some_iff.mp eo).2
    have I1 := I.laid (a := s.heap.objs.size) (o := xdO s.heap.objs.size [(f, y)]) (h' := s.heap.push o) (t' := s.toks + 2) (fun b u e => Heap.get?_push_of_some _ e) (Nat.le_refl _)
      (xdO_ok (by simp) (q2.at fun o' e' => by rw [eo] at e'; cases e'; exact eo1) (fun g => by
        show RelO (List.lookup g [(f, y)]) (if g = f then some u else none)
        by_cases q : g = f
        · rw [if_pos q, q]; simp only [List.lookup, beq_self_eq_true]; exact ry
        · rw [if_neg q]; simp only [List.lookup, beq_eq_false_iff_ne.mpr q]; exact True.intro) (fun g hg => by
        by_cases q : g = f
        · rw [q]; simp
        · exact absurd (by show (if g = f then some u else none) = none; rw [if_neg q]) hg))
    exact I1.write (x := a) (e := a) (t' := s.toks + 2) (by rw [upd_ne (Ne.symm ane), e]; exact True.intro) (.inl rfl) (fun b u hb eb => by
      by_cases hs : b = s.heap.objs.size
      · rw [hs] at eb ⊢
        rw [eo1] at eb
        cases eb
        exact eo
      · refine q3 b u hb ?_
        rcases Heap.get?_push_cases eb with z | z
        · exact absurd z.1 hs
        · exact z) ⟨_, q1⟩ (excO_ok q1 h2 h3)
  · obtain ⟨vs, h1, h2, h3⟩ := exc_at I e
    obtain ⟨z, mA, hn, hr, wi⟩ := xd_at I ed
    refine set_exc (ns := fs.map (·.1)) I.kIn h1 hn ne c.sa hc hp hd n wi (by rw [List.length_map, sizeLine_eq]; omega) fun h' q1 q2 q3 => ?_
    refine h _ _ ?_ hN
    refine I.write (x := dx) (e := dx) (by rw [ed]; exact True.intro) (.inl rfl) (fun b q hb z => (q3.2 b hb).trans z) (let ⟨o, _, _, e', _⟩ := q2; ⟨o, e'⟩) ?_
    refine xdO_ok ?_ q2 (fun g => ?_) (fun g hg => ?_)
    · have := length_putF f y fs; omega
    · show RelO ((putF f y fs).lookup g) (if g = f then some u else mA g)
      rw [lookup_putF]
      by_cases q : g = f
      · rw [if_pos q, if_pos q]; exact ry
      · rw [if_neg q, if_neg q]; exact hr g
    · by_cases q : g = f
      · rw [q]; exact (keys_putF f y fs).1
      · refine (keys_putF f y fs).2 g (wi g fun z => hg ?_)
        show (if g = f then some u else mA g) = none
        rw [if_neg q]; exact z
theorem Inv.madeX (I : Inv X pins σ H s) (C : Addr) (rest : List Value) : Inv X pins σ (upd H (s.heap.objs.size + 1) (excO (s.heap.objs.size + 1) C none)) { s with heap := excHeap s.heap C rest } := by
  have hget : (excHeap s.heap C rest).get? (s.heap.objs.size + 1) = some (excObj C none #[.ref s.heap.objs.size, .none, .none, .none, .bool false, .none]) := by heap_get
  exact I.laid (t' := s.toks) (fun b u e => Heap.get?_push_of_some _ (Heap.get?_push_of_some _ e)) (Nat.le_succ _) (excO_ok hget rfl rfl)
variable {CX : CXT} {k : Nat} {f : Addr} {fd : FuncData} {ps : List Str} {sp : Sp} {dvs : List V} {ds us : List Value} {vs : List V} {Q : VK}
theorem run_makeX0 (c : ECls X.K C) (hi : findIn X.K (.ref C) "__init__" = some (some (.builtin "ValueError.__init__"))) (I : Inv X pins σ H s) (r : Vals vs us) (hl : vs.length ≤ 1000) (h : ∀ a, H a = none → Q (.ref a) (upd H a (excO a C none))) :
    wpAny (model X.prog X.w) X.A (call (.ref C) us) (EP X pins σ Q) X.xe s := by
  obtain ⟨nm, q, N, bs, bm, hdct, sn, sub, ab, col, dd, k0, k1, k2, k3, k5, hC, ht, _⟩ := c.obj
  obtain ⟨hh, g, d, t, os⟩ := s
  refine wpAny_call (make_exc0 ht (I.kIn _ _ hC) (looks_findIn I.kIn hi) (fun h' e M ee => ?_) (by rw [← r.length, sizeLine_eq]; omega))
  subst ee
  obtain ⟨kp, _, t0, q1, _, _⟩ := M
  refine ⟨.ref (hh.objs.size + 1), upd H (hh.objs.size + 1) (excO (hh.objs.size + 1) C none), ?_, rfl, h _ (I.hok.fresh (Nat.le_succ _))⟩
  exact I.laid (t' := t) kp (Nat.le_succ _) (excO_ok q1 rfl rfl)
theorem run_makeX (c : ECls X.K C) (hi : findIn X.K (.ref C) "__init__" = some (some (.ref f))) (hf : isFn X.K (.ref f) = true) (F : FnOk X.prog X.w X.K X.mg X.base CX k f fd ps sp) (hr : Room (k + 1) X.A) (hb : Binds X.K fd ps ds) (hd : Vals dvs ds)
    (I : Inv X pins σ H s) (r : Vals vs us) (hl : vs.length ≤ 1000) {EX : XK} (hx : ∀ e s1 s' H1, Inv X pins σ H1 s1 → CX X.stack H1 s1 EX e s' → X.xe e s')
    (h : ∀ a, H a = none → sp (.ref a :: (vs ++ dvs)) (upd H a (excO a C none)) (fun v H2 => v = .non ∧ Q (.ref a) H2) EX) :
    wpAny (model X.prog X.w) X.A (call (.ref C) us) (EP X pins σ Q) X.xe s := by
  obtain ⟨nm, q, N, bs, bm, hdct, sn, sub, ab, col, dd, k0, k1, k2, k3, k5, hC, ht, _⟩ := c.obj
  have hq := h (s.heap.objs.size + 1) (I.hok.fresh (Nat.le_succ _))
  have I2 := I.madeX C us
  have r2 : Vals (V.ref (s.heap.objs.size + 1) :: (vs ++ dvs)) (Value.ref (s.heap.objs.size + 1) :: (us ++ ds)) := .cons rfl (r.append hd)
  have hlen : (Value.ref (s.heap.objs.size + 1) :: us ++ ds).length = ps.length := by
    have e := r2.length
    rw [F.len _ _ _ _ hq] at e
    exact e.symm
  refine wpAny_call (make_exc (f := f) ht (I.kIn _ _ hC) (looks_findIn I.kIn hi) (fun self => PySem.W.bind_fn I.kIn self (beq_iff_eq.mp hf)) (codeAny_mono (F.run _ X.stack { s with heap := excHeap s.heap C us } _ ⟨Value.ref (s.heap.objs.size + 1) :: us, []⟩ (Value.ref (s.heap.objs.size + 1) :: (us ++ ds)) _ _ EX (hr.make C us [])
    (I2.env0.make C us []) (hb _ (Value.ref (s.heap.objs.size + 1) :: us) I2.kIn hlen) r2 hq) fun r s' hq' => ?_) (by rw [← r.length, sizeLine_eq]; omega))
  cases r with
  | error e => exact hx e _ s' _ I2 hq'
  | ok fl =>
    cases fl with
    | ret u =>
      obtain ⟨v, H', I3, rv, ev, q3⟩ := I2.after hq'
      subst ev
      exact ⟨rv, ⟨V.ref (s.heap.objs.size + 1), H', I3, rfl, q3⟩⟩
    | next => exact False.elim hq'
    | brk => exact False.elim hq'
    | cont => exact False.elim hq'
end
end L2

set_option maxRecDepth 100000
set_option maxHeartbeats 4000000
namespace L2
open PySem PySem.Spec PyProof.Rows
def Ite (K : PySem.W.Frag) (l : Addr) : It :=
  ⟨fun i H => ∃ xs x, SqL K H l xs ∧ xs[i]? = some x,
   fun i H v H' => ∃ T x, H T = none ∧ v = .ref T ∧ (∀ xs, SqL K H l xs → xs[i]? = some x) ∧ H' = upd H T (.tup [.int i, x]),
   fun i H => ∃ xs, SqL K H l xs ∧ xs.length ≤ i⟩
theorem turn_enum {P : Program} {w : World} {K : PySem.W.Frag} {elts : List Expr} {kt : Nat} {pt : Pos} {e it l : Addr} (ne : e ≠ it) :
    Turn P w K (.Tuple elts kt pt) (Ite K l) [e, it] e (fun i h => (∃ old, IsEnum h e it (i : Int) old) ∧ h.IsListIter it l i) where
  mem := by simp
  obj := fun i h st b hb => by
    obtain ⟨⟨old, he⟩, ⟨o1, e1, c1, d1⟩⟩ := st
    have hb : b = e ∨ b = it := by simpa using hb
    rcases hb with rfl | rfl
    · exact ⟨_, he, fun v q => nomatch q⟩
    · exact ⟨o1, e1, fun v q => by rw [d1] at q; cases q⟩
  keep := fun i h h' st k => by
    obtain ⟨⟨old, he⟩, h1⟩ := st
    exact ⟨⟨old, k e (by simp) _ he⟩, h1.at fun o q => k it (by simp) o q⟩
  item := by
    intro X hP hw hK hc i pins s σ H E I hf st hg
    subst hP hw hK
    obtain ⟨xs, x, q1, hx⟩ := hg
    obtain ⟨its1, r1, p1, z1⟩ := I.list q1
    obtain ⟨u, hu, ru⟩ := r1.get hx
    obtain ⟨⟨old, he⟩, h1⟩ := st
    refine wpAny_pyNext_enum_item he h1 p1.isList (x := u) (by simpa using hu) ne fun h' a1 a2 a3 a4 hk => ?_
    refine ⟨_, rfl, wpAny_letOwnedTupleGo_enum a1 fun h'' hz' hs' => ?_⟩
    have hT := I.hok.fresh (Nat.le_refl s.heap.objs.size)
    have up' : ∀ b o, b ∉ [e, it] → s.heap.get? b = some o → h''.get? b = some o := fun b o hb q => by
      have b1 : b ≠ e := by rintro rfl; exact hb (by simp)
      have b2 : b ≠ it := by rintro rfl; exact hb (by simp)
      exact hs'.extBut b o b1 (hk b o b1 b2 q)
    have nT : ∀ {b o}, s.heap.get? b = some o → b ≠ s.heap.objs.size := fun q => Nat.ne_of_lt (Heap.lt_size q)
    have Tnew : h''.get? s.heap.objs.size = some { cls := .type "tuple", data := .seq #[.int i s.toks, u] } := hs'.extBut _ _ (Ne.symm (nT he)) a3
    have I1 : Inv X pins σ (upd H s.heap.objs.size (.tup [.int i, x])) { s with heap := h'', toks := s.toks + 1 } :=
      I.turnedN (t' := s.toks + 1) (ch := [e, it]) (fun b hb => hf b hb) up' (Nat.le_refl _) ⟨by show 2 ≤ sizeLine; decide, [.int i s.toks, u], .cons ⟨_, rfl⟩ (.cons ru .nil), ⟨_, Tnew, rfl, _, rfl⟩⟩
    refine ⟨.ref s.heap.objs.size, _, I1, rfl, ⟨s.heap.objs.size, x, hT, rfl, fun xs' h' => by rw [I.list_inj h' q1]; exact hx, rfl⟩, ⟨⟨_, hz'⟩, a2.at fun o q => hs'.extBut _ o (Ne.symm ne) q⟩, fun b hb => ?_⟩
    have q := (hf b hb).1
    rw [upd_ne ?_]
    · exact q
    · have hb : b = e ∨ b = it := by simpa using hb
      rcases hb with rfl | rfl
      · exact nT he
      · obtain ⟨_, q, _⟩ := h1; exact nT q
  done := by
    intro X hP hw hK hc i pins s σ H E I hf st hg
    subst hP hw hK
    obtain ⟨xs, q1, hx⟩ := hg
    obtain ⟨its1, r1, p1, z1⟩ := I.list q1
    have e1 := r1.length
    obtain ⟨⟨old, he⟩, h1⟩ := st
    refine wpAny_pyNext_enum_end (I.ok.hd hc) he h1 p1.isList (by simp; omega) fun h' hk => ⟨rfl, ?_⟩
    refine I.turnedL (t' := s.toks) (ch := [e, it]) (fun b hb => hf b hb) fun b o hb q => ?_
    have b2 : b ≠ it := by rintro rfl; exact hb (by simp)
    exact hk b o b2 q
  self := fun A i s Q E st h => let ⟨_, he⟩ := st.1; wpAny_pyIter_enum he h
end L2

set_option maxRecDepth 100000
set_option maxHeartbeats 4000000
namespace L2
open PySem PySem.Spec PyProof.Rows
open Sem (wp)
section
variable {M : Model} {A : Around} {E : Value → Shared → Prop} {env : Env}
variable {nm q : Str} {C N : Addr} {bs bm : List Value} {hdct : Bool} {sn : List Str} {sub : List Value} {ab : Bool} {col : Option Bool} {dd : Option Addr} {k0 k1 k2 k3 k5 : Option Value} {newId : String}
end
section
variable {X : Cx} {e : Expr} {te : TE} {pos : Pos}
/-- raise e -/
def rRaise (K : PySem.W.Frag) (R : EK) : VK := fun x H => match x with
  | .ref a => ∃ C dx, H a = some (excO a C dx) ∧ ECls K C ∧ R a (upd H a (flO a C dx))
  | _ => False
theorem ps_raise {Ex : St → EK} (m : Meets X Ex) (hh : X.A.handled = none) (he : PE X e te) : PS X (.Raise (some e) none pos) (fun _ σ H => te σ H (rRaise X.K (Ex σ))) := by
  intro pins s σ H D I h
  rw [arm_exec_Raise]
  show wpAny _ _ (do standAt pos; raiseStmt X.env (some (do let v ← eval e X.env; standAt pos; pure v)) none) _ _ s
  refine wpAny_bind (wpAny_standAt ?_)
  unfold raiseStmt
  refine wpAny_bind (wpAny_bind (thn (he pins s σ H _ I h) fun v s1 ⟨x, H1, I1, r1, q1⟩ => wpAny_bind (wpAny_standAt (wpAny_pure ?_))))
  cases x with
  | ref a =>
    cases r1
    obtain ⟨C, dx, ea, c, q⟩ := q1
    obtain ⟨vs, g1, g2, g3⟩ := exc_at I1 ea
    obtain ⟨nm, qn, N, bs, bm, hdct, sn, sub, ab, col, dd, k0, k1, k2, k3, k5, hl, ht, hd⟩ := c.obj
    have hC := I1.kIn _ _ hl
    have hb : bm.contains (.type "BaseException") = true := excTail_has ht (by decide +kernel)
    have I2 : Inv X pins σ (upd H1 a (flO a C dx)) s1 := by
      have := I1.write (x := a) (e := a) (h' := s1.heap) (t' := s1.toks) (o := flO a C dx) (by rw [ea]; exact True.intro) (.inl rfl) (fun b u _ z => z) ⟨_, g1⟩ (flO_ok g1 g2)
      exact this
    have hx := m pins σ _ s1 a I2 ⟨C, dx, vs, upd_same, g1, g2, .inl g3⟩ q
    have hcB : (Value.ref C :: bm).contains (.type "BaseException") = true := by rw [List.contains_cons, hb, Bool.or_true]
    obtain ⟨hp, g, d, tk, os⟩ := s1
    repeat (first | with_reducible refine wpAny_field g1 rfl g3 ?_ | with_reducible refine wpAny_loadPart_at g1 ?_ | with_reducible refine wpAny_loadPart_at hC ?_ | (with_reducible refine wpAny_isSubtype_exc hC ?_; rw [hcB]) | wp_step)
    exact wpAny_raiseNew_none hh hx
  | _ => exact (show False from q1).elim
end
end L2

set_option maxRecDepth 100000
set_option maxHeartbeats 4000000
namespace L2
open PySem PySem.Spec PyProof.Rows

def rNo : R2 := fun _ _ _ _ => False
def rAddD (K : PySem.W.Frag) : R2 := fun x y H Q => match x, y with
  | .int i, .int j => Q (.int (i + j)) H
  | .str a, .str b => a.length + b.length ≤ sizeLine ∧ Q (.str (a ++ b)) H
  | .ref a, .ref b => rCat (.ref a) (.ref b) H Q ∨ rCatT K (.ref a) (.ref b) H Q
  | _, _ => False
def rSubD : R2 := fun x y H Q => match x, y with
  | .int i, .int j => Q (.int (i - j)) H
  | _, _ => False
def rMulD : R2 := fun x y H Q => match x, y with
  | .int i, .int j => CMul i j ∧ Q (.int (i * j)) H
  | .ref a, .int k => rRep (.ref a) (.int k) H Q
  | _, _ => False
def rFdivD : R2 := fun x y H Q => match x, y with
  | .int i, .int j => CDiv i j ∧ Q (.int (i / j)) H
  | _, _ => False
def rModD : R2 := fun x y H Q => match x, y with
  | .int i, .int j => 0 < j ∧ Q (.int (i % j)) H
  | _, _ => False
def rPowD : R2 := fun x y H Q => match x, y with
  | .int i, .int j => CPow i j ∧ Q (.int (i ^ j.toNat)) H
  | _, _ => False
def rShlD : R2 := fun x y H Q => match x, y with
  | .int i, .int j => CPow i j ∧ Q (.int (i * 2 ^ j.toNat)) H
  | _, _ => False
def rShrD : R2 := fun x y H Q => match x, y with
  | .int i, .int j => 0 ≤ j ∧ Q (.int (i / 2 ^ j.toNat)) H
  | _, _ => False
def rAndD : R2 := fun x y H Q => match x, y with
  | .int i, .int j => Q (.int (Builtin.bitAnd i j)) H
  | _, _ => False
def rOrD : R2 := fun x y H Q => match x, y with
  | .int i, .int j => Q (.int (Builtin.bitOr i j)) H
  | _, _ => False
def rXorD : R2 := fun x y H Q => match x, y with
  | .int i, .int j => Q (.int (Builtin.bitXor i j)) H
  | _, _ => False
def rOp (K : PySem.W.Frag) : Operator → R2
  | .Add => rAddD K
  | .Sub => rSubD
  | .Mult => rMulD
  | .FloorDiv => rFdivD
  | .Mod => rModD
  | .Pow => rPowD
  | .LShift => rShlD
  | .RShift => rShrD
  | .BitAnd => rAndD
  | .BitOr => rOrD
  | .BitXor => rXorD
  | _ => rNo
section
variable {X : Cx}
theorem op_D (op : Operator) : OpR X (binaryOp op) (rOp X.K op) := by
  intro pins s σ H x y v u Q I rx ry h
  cases op with
  | Add =>
    cases x <;> cases y <;> first
      | exact (show False from h).elim
      | exact op_add pins s σ H _ _ v u Q I rx ry ⟨_, _, rfl, rfl, h⟩
      | exact op_add_str pins s σ H _ _ v u Q I rx ry ⟨_, _, rfl, rfl, h⟩
      | exact (op_cat.or op_catT) pins s σ H _ _ v u Q I rx ry h
  | Sub => cases x <;> cases y <;> first | exact (show False from h).elim | exact op_sub pins s σ H _ _ v u Q I rx ry ⟨_, _, rfl, rfl, h⟩
  | Mult => cases x <;> cases y <;> first | exact (show False from h).elim | exact op_mul pins s σ H _ _ v u Q I rx ry ⟨_, _, rfl, rfl, h⟩ | exact op_rep pins s σ H _ _ v u Q I rx ry h
  | FloorDiv => cases x <;> cases y <;> first | exact (show False from h).elim | exact op_fdiv pins s σ H _ _ v u Q I rx ry ⟨_, _, rfl, rfl, h⟩
  | Mod => cases x <;> cases y <;> first | exact (show False from h).elim | exact op_mod pins s σ H _ _ v u Q I rx ry ⟨_, _, rfl, rfl, h⟩
  | Pow => cases x <;> cases y <;> first | exact (show False from h).elim | exact op_pow pins s σ H _ _ v u Q I rx ry ⟨_, _, rfl, rfl, h⟩
  | LShift => cases x <;> cases y <;> first | exact (show False from h).elim | exact op_shl pins s σ H _ _ v u Q I rx ry ⟨_, _, rfl, rfl, h⟩
  | RShift => cases x <;> cases y <;> first | exact (show False from h).elim | exact op_shr pins s σ H _ _ v u Q I rx ry ⟨_, _, rfl, rfl, h⟩
  | BitAnd => cases x <;> cases y <;> first | exact (show False from h).elim | exact op_and pins s σ H _ _ v u Q I rx ry ⟨_, _, rfl, rfl, h⟩
  | BitOr => cases x <;> cases y <;> first | exact (show False from h).elim | exact op_or pins s σ H _ _ v u Q I rx ry ⟨_, _, rfl, rfl, h⟩
  | BitXor => cases x <;> cases y <;> first | exact (show False from h).elim | exact op_xor pins s σ H _ _ v u Q I rx ry ⟨_, _, rfl, rfl, h⟩
  | _ => exact (show False from h).elim
end

/-- == of two things that are not both objects (an object and a scalar are told apart by their kinds elsewhere) -/
def rEqD (K : PySem.W.Frag) (neg : Bool) : R2 := fun x y H Q => match x, y with
  | .ref a, .ref b => rEqL K neg (.ref a) (.ref b) H Q
  | .int i, .int j => Q (.bl (if neg then !decide (i = j) else decide (i = j))) H
  | .str i, .str j => Q (.bl (if neg then !decide (i = j) else decide (i = j))) H
  | .bl i, .bl j => Q (.bl (if neg then !(i == j) else (i == j))) H
  | x, y => scal x y = true ∧ Q (.bl (if neg then !decide (x = y) else decide (x = y))) H
def rLtD : R2 := fun x y H Q => match x, y with
  | .int i, .int j => Q (.bl (decide (i < j))) H
  | .str i, .str j => Q (.bl (decide (i.cps.toList < j.cps.toList))) H
  | _, _ => False
def rLeD : R2 := fun x y H Q => match x, y with
  | .int i, .int j => Q (.bl (decide (i ≤ j))) H
  | .str i, .str j => Q (.bl (!decide (j.cps.toList < i.cps.toList))) H
  | _, _ => False
def rGtD : R2 := fun x y H Q => match x, y with
  | .int i, .int j => Q (.bl (decide (j < i))) H
  | _, _ => False
def rGeD : R2 := fun x y H Q => match x, y with
  | .int i, .int j => Q (.bl (decide (j ≤ i))) H
  | _, _ => False
def rInD (K : PySem.W.Frag) (neg : Bool) : R2 := fun x y H Q => match x, y with
  | .str i, .str j => Q (.bl (if neg then !(!(Builtin.Str.occurrences j i 0 j.length 1).isEmpty) else !(Builtin.Str.occurrences j i 0 j.length 1).isEmpty)) H
  | x, .ref p => rIn K neg x (.ref p) H Q
  | _, _ => False
def rIsD (neg : Bool) : R2 := fun x y H Q => match y with
  | .non => Q (.bl (if neg then !decide (x = .non) else decide (x = .non))) H
  | _ => False
def rCmp (K : PySem.W.Frag) : CmpOp → R2
  | .Eq => rEqD K false
  | .NotEq => rEqD K true
  | .Lt => rLtD
  | .LtE => rLeD
  | .Gt => rGtD
  | .GtE => rGeD
  | .In => rInD K false
  | .NotIn => rInD K true
  | .Is => rIsD false
  | .IsNot => rIsD true
section
variable {X : Cx}
theorem cmp_D (hu : X.A.units < cLine) (op : CmpOp) : OpR X (compareOp op) (rCmp X.K op) := by
  intro pins s σ H x y v u Q I rx ry h
  cases op with
  | Eq =>
    cases x <;> cases y <;> first
      | exact op_eqL hu pins s σ H _ _ v u Q I rx ry h
      | exact op_eq pins s σ H _ _ v u Q I rx ry h
      | exact op_eq pins s σ H _ _ v u Q I rx ry ⟨rfl, by rw [dec_int, Bool.beq_eq_decide_eq]; exact h⟩
      | exact op_eq pins s σ H _ _ v u Q I rx ry ⟨rfl, by rw [dec_str, Bool.beq_eq_decide_eq]; exact h⟩
      | exact op_eq pins s σ H _ _ v u Q I rx ry ⟨rfl, by rw [dec_bl]; exact h⟩
  | NotEq =>
    cases x <;> cases y <;> first
      | exact op_neL hu pins s σ H _ _ v u Q I rx ry h
      | exact op_ne pins s σ H _ _ v u Q I rx ry h
      | exact op_ne pins s σ H _ _ v u Q I rx ry ⟨rfl, by rw [dec_int, Bool.beq_eq_decide_eq]; exact h⟩
      | exact op_ne pins s σ H _ _ v u Q I rx ry ⟨rfl, by rw [dec_str, Bool.beq_eq_decide_eq]; exact h⟩
      | exact op_ne pins s σ H _ _ v u Q I rx ry ⟨rfl, by rw [dec_bl]; exact h⟩
  | Lt => cases x <;> cases y <;> first | exact (show False from h).elim | exact op_lt pins s σ H _ _ v u Q I rx ry ⟨_, _, rfl, rfl, h⟩ | exact op_lt_str pins s σ H _ _ v u Q I rx ry ⟨_, _, rfl, rfl, h⟩
  | LtE => cases x <;> cases y <;> first | exact (show False from h).elim | exact op_le pins s σ H _ _ v u Q I rx ry ⟨_, _, rfl, rfl, h⟩ | exact op_le_str pins s σ H _ _ v u Q I rx ry ⟨_, _, rfl, rfl, h⟩
  | Gt => cases x <;> cases y <;> first | exact (show False from h).elim | exact op_gt pins s σ H _ _ v u Q I rx ry ⟨_, _, rfl, rfl, h⟩
  | GtE => cases x <;> cases y <;> first | exact (show False from h).elim | exact op_ge pins s σ H _ _ v u Q I rx ry ⟨_, _, rfl, rfl, h⟩
  | In => cases x <;> cases y <;> first | exact (show False from h).elim | exact op_in_str pins s σ H _ _ v u Q I rx ry ⟨_, _, rfl, rfl, h⟩ | exact op_in_seq pins s σ H _ _ v u Q I rx ry h
  | NotIn => cases x <;> cases y <;> first | exact (show False from h).elim | exact op_notin_str pins s σ H _ _ v u Q I rx ry ⟨_, _, rfl, rfl, h⟩ | exact op_notIn_seq pins s σ H _ _ v u Q I rx ry h
  | Is => cases y <;> first | exact (show False from h).elim | exact op_isN pins s σ H _ _ v u Q I rx ry ⟨rfl, h⟩
  | IsNot => cases y <;> first | exact (show False from h).elim | exact op_notN pins s σ H _ _ v u Q I rx ry ⟨rfl, h⟩
end
def rNegD : V → Hp → VK → Prop := fun x H Q => match x with
  | .int i => Q (.int (-i)) H
  | _ => False
theorem un_D {X : Cx} : UnR X (unaryOp .USub) rNegD := by
  intro pins s σ H x v Q I rx h
  cases x <;> first | exact (show False from h).elim | exact un_neg pins s σ H _ v Q I rx ⟨_, rfl, h⟩
theorem tru_D {X : Cx} : TruR X (truD X.K) := by
  intro pins s σ H x v Q I rx h
  cases x with
  | non => exact tru_ok pins s σ H _ v Q I rx ⟨_, rfl, h⟩
  | bl b => exact tru_ok pins s σ H _ v Q I rx ⟨_, rfl, h⟩
  | int i => exact tru_ok pins s σ H _ v Q I rx ⟨_, rfl, h⟩
  | str y => exact tru_ok pins s σ H _ v Q I rx ⟨_, ⟨h.1, rfl⟩, h.2⟩
  | ref p => exact tru_ok pins s σ H _ v Q I rx h
  | _ => exact (show False from h).elim
def rIxD (K : PySem.W.Frag) : R2 := fun x y H Q => match x, y with
  | .str z, .int i => z.length ≤ sizeLine ∧ ∃ c, atI z.cps.toList i = some c ∧ Q (.str ⟨#[c]⟩) H
  | .ref p, .int i => ∃ xs v, (SqL K H p xs ∨ SqT K H p xs) ∧ atI xs i = some v ∧ Q v H
  | _, _ => False
theorem ix_D {X : Cx} : IxR X (rIxD X.K) := by
  intro value slice pins s σ H x y v u Q I rx ry h hs
  cases x <;> cases y <;> first
    | exact (show False from h).elim
    | (obtain ⟨h1, c, h2, h3⟩ := h; exact ix_str value slice pins s σ H _ _ v u Q I rx ry ⟨_, _, c, rfl, rfl, h1, h2, h3⟩ hs)
    | (obtain ⟨xs, w, h1 | h1, h2, h3⟩ := h
       · exact ix_list value slice pins s σ H _ _ v u Q I rx ry ⟨_, _, _, _, rfl, rfl, h1, h2, h3⟩ hs
       · exact ix_tup value slice pins s σ H _ _ v u Q I rx ry ⟨_, _, _, _, rfl, rfl, h1, h2, h3⟩ hs)
def rGetD (K : PySem.W.Frag) (f : Str) : V → Hp → VK → Prop := fun x H Q => match x with
  | .ref a => (∃ C dx fs v, H a = some (.ins C dx fs) ∧ Cls K C ∧ NoAttr K C f ∧ fs.lookup f = some v ∧ Q v H) ∨ (∃ C fs v, ExcAt H a C fs ∧ ECls K C ∧ NoAttr K C f ∧ fs.lookup f = some v ∧ Q v H)
  | _ => False
def rSetD (K : PySem.W.Frag) (f : Str) : V → V → Hp → (Hp → Prop) → Prop := fun x y H N => match x with
  | .ref a => (∃ C dx fs, H a = some (.ins C dx fs) ∧ Cls K C ∧ NoAttr K C f ∧ fs.length < 1000 ∧ N (upd H a (.ins C dx (putF f y fs)))) ∨ (∃ C, ECls K C ∧ NoAttr K C f ∧ SetX H a C f y N)
  | _ => False
section
variable {X : Cx} {pins : List (Addr × Obj)} {σ : St} {H : Hp} {s : Shared} {A : Around} {E : Value → Shared → Prop}
theorem get_D {f : Str} {x : V} {u : Value} {b : Bool} {Q : VK} (I : Inv X pins σ H s) (rx : RelV x u) (h : rGetD X.K f x H Q) : wpAny (model X.prog X.w) A (getAttr u f b) (EP X pins σ Q) E s := by
  cases x with
  | ref a =>
    cases rx
    rcases h with ⟨C, dx, fs, v, ea, c, n, l, q⟩ | ⟨C, fs, v, ea, c, n, l, q⟩
    · exact getattr_ok I ea c n l fun u' s2 I2 ru => ⟨v, H, I2, ru, q⟩
    · exact getexc_ok I ea c n l fun u' s2 I2 ru => ⟨v, H, I2, ru, q⟩
  | _ => exact (show False from h).elim
theorem set_D {f : Str} {x y : V} {u v : Value} {N : Hp → Prop} {Q : Unit → Shared → Prop} (I : Inv X pins σ H s) (rx : RelV x u) (ry : RelV y v) (h : rSetD X.K f x y H N) (hQ : ∀ H' s', Inv X pins σ H' s' → N H' → Q () s') :
    wpAny (model X.prog X.w) A (setAttr u f v) Q E s := by
  cases x with
  | ref a =>
    cases rx
    rcases h with ⟨C, dx, fs, ea, c, n, l, q⟩ | ⟨C, c, n, q⟩
    · exact setattr_ok I ea c n l ry fun s3 I3 => hQ _ _ I3 q
    · exact setexc_ok I c n ry q hQ
  | _ => exact (show False from h).elim
end
end L2

set_option maxRecDepth 100000
set_option maxHeartbeats 4000000
namespace L2
open PySem PySem.Spec PyProof.Rows

structure FI where
  f : Addr
  fd : FuncData
  ps : List Str
  k : Nat
  sp : Sp
  dfs : List V
  ds : List Value
inductive GB where
  | fn (i : FI)
  | cls (C : Addr) (i : FI)
  | val (v : V) (u : Value)
  | exc (C : Addr) (i : Option FI)
structure MI where
  C : Addr
  i : FI
structure Sg where
  K : PySem.W.Frag
  N : List Str
  sc : List (Str × NameKind)
  gb : List (Str × GB)
  ms : List (Str × List MI)
  bl : List Str
  top : Bool
  calm : Bool

def slotF : List Str → Str → Nat → Option Nat
  | [], _, _ => none
  | y :: r, x, i => if y = x then some i else slotF r x (i + 1)
theorem slotF_get : ∀ {N : List Str} {x : Str} {i j : Nat}, slotF N x j = some i → j ≤ i ∧ N[i - j]? = some x
  | [], _, _, _, h => by cases h
  | y :: r, x, i, j, h => by
    unfold slotF at h
    by_cases e : y = x
    · rw [if_pos e] at h
      cases h
      refine ⟨Nat.le_refl _, ?_⟩
      rw [Nat.sub_self, e]
      rfl
    · rw [if_neg e] at h
      obtain ⟨h1, h2⟩ := slotF_get h
      refine ⟨by omega, ?_⟩
      have : i - j = (i - (j + 1)) + 1 := by omega
      rw [this, List.getElem?_cons_succ]
      exact h2
theorem slot_get {N : List Str} {x : Str} {i : Nat} (h : slotF N x 0 = some i) : N[i]? = some x := (slotF_get h).2
def plainName (x : Str) : Bool := !(x == ("__debug__" : Str)) && !(x == ("__classdict__" : Str)) && !(x == ("__name__" : Str))
def isGl (G : Sg) (x : Str) : Bool := (G.sc.lookup x == some .globalImplicit) && plainName x

/-- types that stand as values -/
def tyName (x : Str) : Option String :=
  if x = "int" then some "int" else if x = "bool" then some "bool" else if x = "str" then some "str" else if x = "list" then some "list" else if x = "tuple" then some "tuple" else if x = "dict" then some "dict" else if x = "ValueError" then some "ValueError" else none
theorem boot_VE : bootBuiltins "ValueError" = some (.type "ValueError") := by decide +kernel
theorem tyName_ok {x : Str} {T : String} (h : tyName x = some T) : bootBuiltins x = some (.type T) := by
  unfold tyName at h
  by_cases e1 : x = "int"
  · rw [if_pos e1] at h; cases h; rw [e1]; exact PyProof.Rows.boot_int
  rw [if_neg e1] at h
  by_cases e2 : x = "bool"
  · rw [if_pos e2] at h; cases h; rw [e2]; exact PyProof.Rows.boot_bool
  rw [if_neg e2] at h
  by_cases e3 : x = "str"
  · rw [if_pos e3] at h; cases h; rw [e3]; exact PyProof.Rows.boot_str
  rw [if_neg e3] at h
  by_cases e4 : x = "list"
  · rw [if_pos e4] at h; cases h; rw [e4]; exact PyProof.Rows.boot_list
  rw [if_neg e4] at h
  by_cases e5 : x = "tuple"
  · rw [if_pos e5] at h; cases h; rw [e5]; exact PyProof.Rows.boot_tuple
  rw [if_neg e5] at h
  by_cases e6 : x = "dict"
  · rw [if_pos e6] at h; cases h; rw [e6]; exact PyProof.Rows.boot_dict
  rw [if_neg e6] at h
  by_cases e7 : x = "ValueError"
  · rw [if_pos e7] at h; cases h; rw [e7]; exact boot_VE
  rw [if_neg e7] at h
  cases h

/-- an exception of a callee reaches what the body wants -/
def PassX (CX : CXT) (X : Cx) : Prop := ∀ Ex, Meets X Ex → ∀ (pins : List (Addr × Obj)) (σ : St) (H : Hp) (s : Shared) (e : Value) (s' : Shared), Inv X pins σ H s → CX X.stack H s (fun v _ H' => ∃ a, v = .ref a ∧ Ex σ a H') e s' → X.xe e s'
structure FIOk (X : Cx) (i : FI) : Prop where
  kp : PySem.W.keepIn X.K (.ref i.f) = true
  ok : ∃ CX, (∀ X' : Cx, X'.prog = X.prog → X'.w = X.w → PassX CX X') ∧ FnOk X.prog X.w X.K X.mg X.base CX i.k i.f i.fd i.ps i.sp
  room : Room i.k X.A
  binds : ∀ j, j ≤ i.dfs.length → Binds X.K i.fd i.ps (i.ds.drop j)
  vals : Vals i.dfs i.ds
/-- what a class of exceptions must have to be made -/
def InitOk (X : Cx) (C : Addr) : Option FI → Prop
  | none => PySem.W.findIn X.K (.ref C) "__init__" = some (some (.builtin "ValueError.__init__"))
  | some i => PySem.W.findIn X.K (.ref C) "__init__" = some (some (.ref i.f)) ∧ PySem.W.isFn X.K (.ref i.f) = true ∧ FIOk X i ∧ Room (i.k + 1) X.A
structure GOk (X : Cx) (G : Sg) : Prop where
  K : X.K = G.K
  kind : X.env.scope.kind = .function
  own : PassesOwn (model X.prog X.w) X.A X.env X.xe
  N : X.N = G.N
  nd : G.N.Nodup
  sc : ∀ x, X.env.scope.names.lookup x = G.sc.lookup x
  vis : ∀ x ∈ G.N, Vis X.env.scope x
  top : G.top = true → ∀ x, X.fn x = true
  calm : G.calm = X.calm
  hd : X.calm = true → X.A.handled = none
  units : X.A.units + 64 < cLine
  cel : ∀ x, (X.env.scope.names.lookup x = some .cell ∨ X.env.scope.names.lookup x = some .free) → ∃ c, X.env.cells.lookup x = some c
  fn : ∀ x i, G.gb.lookup x = some (.fn i) → X.mg x = some (.ref i.f) ∧ FIOk X i
  val : ∀ x v u, G.gb.lookup x = some (.val v u) → X.mg x = some u ∧ RelV v u
  bl : ∀ x, G.bl.contains x = true → X.mg x = none
  exc : ∀ x C oi, G.gb.lookup x = some (.exc C oi) → X.mg x = some (.ref C) ∧ PySem.W.keepIn X.K (.ref C) = true ∧ ECls X.K C ∧ InitOk X C oi
section
variable {X : Cx} {G : Sg}
theorem GOk.gl (O : GOk X G) {x : Str} (h : isGl G x = true) : Gl X x := by
  unfold isGl at h
  rw [Bool.and_eq_true] at h
  have := eq_of_beq h.1
  unfold Gl
  show X.env.scope.names.lookup x = _
  rw [O.sc x]
  exact this
theorem plain_d {x : Str} (h : plainName x = true) : (x == ("__debug__" : Str)) = false ∧ (x == ("__classdict__" : Str)) = false ∧ x ≠ "__name__" := by
  unfold plainName at h
  simp only [Bool.and_eq_true, Bool.not_eq_true'] at h
  exact ⟨h.1.1, h.1.2, fun e => by rw [e] at h; simp at h⟩
theorem isGl_d {x : Str} (h : isGl G x = true) : (x == ("__debug__" : Str)) = false ∧ (x == ("__classdict__" : Str)) = false ∧ x ≠ "__name__" := by
  unfold isGl at h
  rw [Bool.and_eq_true] at h
  exact plain_d h.2

def wName (G : Sg) (x : Str) : DE :=
  match slotF G.N x 0 with
  | some i => if plainName x = true then dVar i else dNo
  | none => if isGl G x = true then (match G.gb.lookup x with
      | some (.val v _) => dC v
      | some (.exc C _) => dC (.ref C)
      | some _ => dNo
      | none => if G.bl.contains x = true then (match tyName x with
        | some T => dC (.ty T)
        | none => dNo) else dNo) else dNo
theorem qe_no {e : Expr} : QE X e dNo := fun _ _ _ _ _ _ _ _ h => h.elim
theorem qe_var {i : Nat} {x : Str} {pos : Pos} (hN : X.N[i]? = some x) (hv : Vis X.env.scope x) (hp : plainName x = true) : QE X (.Name x pos) (dVar i) := by
  intro Ex _ pins s σ H Q I h
  unfold dVar at h
  split at h
  · rename_i v e
    exact pe_var hN hv (plain_d hp).1 (plain_d hp).2.1 pins s σ H Q I ⟨v, e, h⟩
  · exact h.elim
theorem qe_name (O : GOk X G) (x : Str) (pos : Pos) : QE X (.Name x pos) (wName G x) := by
  unfold wName
  split
  · rename_i i e
    split
    · rename_i hp
      have hi := slot_get e
      exact qe_var (by rw [O.N]; exact hi) (O.vis x (List.mem_of_getElem? hi)) hp
    · exact qe_no
  · split
    · rename_i hg
      have dd := isGl_d hg
      split
      · rename_i v u e
        obtain ⟨h1, h2⟩ := O.val x v u e
        exact fun _ _ => pe_glob (O.gl hg) h1 h2 dd.1
      · rename_i C oi e
        exact fun _ _ => pe_glob (v := .ref C) (O.gl hg) (O.exc x C oi e).1 rfl dd.1
      · exact qe_no
      · split
        · rename_i hb
          split
          · rename_i T e
            exact fun _ _ => pe_bltn (O.gl hg) (O.bl x hb) (tyName_ok e) rfl dd.2.2 dd.1
          · exact qe_no
        · exact qe_no
    · exact qe_no

def wConst : Const → DE
  | .int i => dC (.int i)
  | .bool b => dC (.bl b)
  | .none => dC .non
  | .str x => dC (.str x)
  | _ => dNo
theorem qe_const (c : Const) (j : Nat) (pos : Pos) : QE X (.Constant c j pos) (wConst c) := by
  cases c with
  | int i => exact fun _ _ => pe_int
  | bool b => exact fun _ _ => pe_bl
  | none => exact fun _ _ => pe_non
  | str x => exact fun _ _ => pe_str
  | _ => exact qe_no

variable {a b c : Expr} {da db dc : DE} {ta tb : DT} {es : List Expr} {r : DA} {pos : Pos}
theorem qe_bin (op : Operator) (ha : QE X a da) (hb : QE X b db) : QE X (.BinOp a op b pos) (dBin (rOp X.K op) da db) := fun Ex m => pe_op (op_D op) (ha Ex m) (hb Ex m)
theorem qe_neg (ha : QE X a da) : QE X (.UnaryOp .USub a pos) (dUn rNegD da) := fun Ex m => pe_un un_D (ha Ex m)
theorem qe_cmp (hu : X.A.units < cLine) (op : CmpOp) (ha : QE X a da) (hb : QE X b db) (hm : behindInMarks op b = false) : QE X (.Compare a [op] [b] pos) (dBin (rCmp X.K op) da db) := fun Ex m => pe_cmpR (cmp_D hu op) (ha Ex m) (hb Ex m) hm
theorem qt_cmp (hu : X.A.units < cLine) (op : CmpOp) (ha : QE X a da) (hb : QE X b db) (hm : behindInMarks op b = false) : QT X (.Compare a [op] [b] pos) (dTst (dBin (rCmp X.K op) da db)) := by
  intro Ex m pins s σ H Q I h
  refine wpAny_isTrue_Compare1 (thn (ha Ex m pins s σ H _ I h) fun v s1 ⟨x, H1, I1, r1, q1⟩ => thn (hb Ex m pins s1 σ H1 _ I1 q1) fun u s2 ⟨y, H2, I2, r2, q2⟩ =>
    thn (cmp_D hu op pins s2 σ H2 x y v u _ I2 r1 r2 q2) fun c s3 ⟨z, H3, I3, r3, q3⟩ => ?_) hm
  cases z with
  | bl k => cases r3; exact wpAny_truthy_bool ⟨H3, I3, q3⟩
  | _ => exact (show False from q3).elim
theorem qe_chain (hu : X.A.units < cLine) (op op' : CmpOp) (ha : QE X a da) (hb : QE X b db) (hc : QE X c dc) (hm : lastMarks [op, op'] [b, c] = false) :
    QE X (.Compare a [op, op'] [b, c] pos) (dChain (rCmp X.K op) (rCmp X.K op') da db dc) := by
  intro Ex m pins s σ H Q I h
  refine Compare_chain (thn (ha Ex m pins s σ H _ I h) fun v s1 ⟨x, H1, I1, r1, q1⟩ => chain_link (thn (hb Ex m pins s1 σ H1 _ I1 q1) fun u s2 ⟨y, H2, I2, r2, q2⟩ =>
    thn (cmp_D hu op pins s2 σ H2 x y v u _ I2 r1 r2 q2) fun d s3 ⟨z, H3, I3, r3, q3⟩ => ?_)) hm
  cases z with
  | bl k =>
    cases r3
    refine wpAny_truthy_bool ?_
    cases k with
    | false => exact ite_ff ⟨.bl false, H3, I3, rfl, q3⟩
    | true => exact ite_tt (chain_last (thn (hc Ex m pins s3 σ H3 _ I3 q3) fun w' s4 ⟨z', H4, I4, r4, q4⟩ => cmp_D hu op' pins s4 σ H4 y z' u w' Q I4 r2 r4 q4))
  | _ => exact (show False from q3).elim
theorem qt_chain (hu : X.A.units < cLine) (op op' : CmpOp) (ha : QE X a da) (hb : QE X b db) (hc : QE X c dc) (hm : lastMarks [op, op'] [b, c] = false) :
    QT X (.Compare a [op, op'] [b, c] pos) (dTst (dChain (rCmp X.K op) (rCmp X.K op') da db dc)) := by
  intro Ex m pins s σ H Q I h
  refine isTrue_chain (thn (ha Ex m pins s σ H _ I h) fun v s1 ⟨x, H1, I1, r1, q1⟩ => test_link (thn (hb Ex m pins s1 σ H1 _ I1 q1) fun u s2 ⟨y, H2, I2, r2, q2⟩ =>
    thn (cmp_D hu op pins s2 σ H2 x y v u _ I2 r1 r2 q2) fun d s3 ⟨z, H3, I3, r3, q3⟩ => ?_)) hm
  cases z with
  | bl k =>
    cases r3
    refine wpAny_truthy_bool ?_
    cases k with
    | false => exact ite_ff ⟨H3, I3, q3⟩
    | true =>
      refine ite_tt (test_last (thn (hc Ex m pins s3 σ H3 _ I3 q3) fun w' s4 ⟨z', H4, I4, r4, q4⟩ => thn (cmp_D hu op' pins s4 σ H4 y z' u w' _ I4 r2 r4 q4) fun d' s5 ⟨z2, H5, I5, r5, q5⟩ => ?_))
      cases z2 with
      | bl k2 => cases r5; exact wpAny_truthy_bool ⟨H5, I5, q5⟩
      | _ => exact (show False from q5).elim
  | _ => exact (show False from q3).elim
/-- a test that is its value's truth -/
def plainT : Expr → Bool
  | .UnaryOp .Not _ _ => false
  | .BoolOp _ _ _ => false
  | .IfExp _ _ _ _ => false
  | .Compare _ _ _ _ => false
  | _ => true
theorem plainT_ok {e : Expr} (h : plainT e = true) (whole : Sem Value) : isTrue e X.env whole = (do let v ← whole; standAt e.pos; holding [v] (truthy v)) := by
  cases e with
  | UnaryOp op _ _ => cases op <;> first | rfl | cases h
  | BoolOp _ _ _ => cases h
  | IfExp _ _ _ _ => cases h
  | Compare _ _ _ _ => cases h
  | _ => rfl
theorem qt_tru (ha : QE X a da) (h : plainT a = true) : QT X a (dTru X.K da) := by
  intro Ex m pins s σ H Q I hw
  exact isTrue_plain (thn (ha Ex m pins s σ H _ I hw) fun v s1 ⟨x, H1, I1, r1, q1⟩ => tru_D pins s1 σ H1 x v Q I1 r1 q1) (plainT_ok h _)
theorem qt_not (ha : QT X a ta) : QT X (.UnaryOp .Not a pos) (dNot ta) := fun Ex m => pt_not (ha Ex m)
theorem qw_and1 (ha : QT X a ta) : QW X (.BoolOp .And [a] pos) ta := fun Ex m => pw_and1 (ha Ex m)
theorem qw_or1 (ha : QT X a ta) : QW X (.BoolOp .Or [a] pos) ta := fun Ex m => pw_or1 (ha Ex m)
theorem qw_and (ha : QT X a ta) (hb : QW X (.BoolOp .And (b :: es) pos) tb) : QW X (.BoolOp .And (a :: b :: es) pos) (dAnd ta tb) := fun Ex m => pw_and (ha Ex m) (hb Ex m)
theorem qw_or (ha : QT X a ta) (hb : QW X (.BoolOp .Or (b :: es) pos) tb) : QW X (.BoolOp .Or (a :: b :: es) pos) (dOr ta tb) := fun Ex m => pw_or (ha Ex m) (hb Ex m)
theorem qe_one {op : BoolOp} (ha : QE X a da) : QE X (.BoolOp op [a] pos) da := fun Ex m => pe_one (ha Ex m)
theorem qe_and (ha : QE X a da) (hb : QE X (.BoolOp .And (b :: es) pos) db) : QE X (.BoolOp .And (a :: b :: es) pos) (dAndV X.K da db) := by
  intro Ex m pins s σ H Q I h
  refine BoolOp_and (thn (ha Ex m pins s σ H _ I h) fun v s1 ⟨x, H1, I1, r1, q1⟩ => thn (tru_D pins s1 σ H1 x v _ I1 r1 q1) fun k s2 ⟨H2, I2, q2⟩ => ?_)
  cases k with
  | true => exact hb Ex m pins s2 σ H2 Q I2 q2
  | false => exact ⟨x, H2, I2, r1, q2⟩
theorem qe_or (ha : QE X a da) (hb : QE X (.BoolOp .Or (b :: es) pos) db) : QE X (.BoolOp .Or (a :: b :: es) pos) (dOrV X.K da db) := by
  intro Ex m pins s σ H Q I h
  refine BoolOp_or (thn (ha Ex m pins s σ H _ I h) fun v s1 ⟨x, H1, I1, r1, q1⟩ => thn (tru_D pins s1 σ H1 x v _ I1 r1 q1) fun k s2 ⟨H2, I2, q2⟩ => ?_)
  cases k with
  | false => exact hb Ex m pins s2 σ H2 Q I2 q2
  | true => exact ⟨x, H2, I2, r1, q2⟩
theorem qe_not (ha : QE X a da) : QE X (.UnaryOp .Not a pos) (dNotV X.K da) := by
  intro Ex m pins s σ H Q I h
  refine UnaryOp_ (thn (ha Ex m pins s σ H _ I h) fun v s1 ⟨x, H1, I1, r1, q1⟩ => not_of (thn (tru_D pins s1 σ H1 x v _ I1 r1 q1) fun k s2 ⟨H2, I2, q2⟩ => ?_))
  exact ⟨.bl (!k), H2, I2, rfl, q2⟩
theorem qe_if {t : Expr} (ht : QT X t ta) (ha : QE X a da) (hb : QE X b db) : QE X (.IfExp t a b pos) (dIfE ta da db) := fun Ex m => pe_ifExp (ht Ex m) (ha Ex m) (hb Ex m)
def noStar : Expr → Bool
  | .Starred _ _ => false
  | _ => true
theorem noStar_ok {e : Expr} (h : noStar e = true) (es : List Expr) (env : Env) : starEach (e :: es) env = (false, eval e env) :: starEach es env := by
  cases e with
  | Starred _ _ => cases h
  | _ => rfl
theorem noStars_any {es : List Expr} (h : es.all noStar = true) (env : Env) (pos : Pos) : (backTo pos (starEach es env)).any (·.1) = false := by
  induction es with
  | nil => rfl
  | cons e es ih =>
    rw [List.all_cons, Bool.and_eq_true] at h
    rw [noStar_ok h.1]
    show (false || (backTo pos (starEach es env)).any (·.1)) = false
    rw [ih h.2]
    rfl
theorem noStars_all {es : List Expr} (h : es.all noStar = true) (env : Env) (pos : Pos) : (backTo pos (starEach es env)).all (fun x => !x.1) = true := by
  induction es with
  | nil => rfl
  | cons e es ih =>
    rw [List.all_cons, Bool.and_eq_true] at h
    rw [noStar_ok h.1]
    show (true && (backTo pos (starEach es env)).all (fun x => !x.1)) = true
    rw [ih h.2]
    rfl
theorem qa_nil : QA X [] dNil := fun _ _ => pa_nil
theorem qa_cons (ha : QE X a da) (hr : QA X es r) (hs : noStar a = true) : QA X (a :: es) (dCons da r) := fun Ex m => pa_cons (ha Ex m) (hr Ex m) (noStar_ok hs es X.env)
theorem qe_tup {k : Nat} (h : QA X es r) : QE X (.Tuple es k pos) (dTup r) := fun Ex m => pe_tup (h Ex m)
theorem qe_lst (h : QA X es r) : QE X (.List es pos) (dLst r) := fun Ex m => pe_lst (h Ex m)
def noSlice : Expr → Bool
  | .Slice _ _ _ _ => false
  | _ => true
theorem noSlice_ok {e : Expr} (h : noSlice e = true) : PlainIx e := by
  intro o i
  cases e with
  | Slice _ _ _ _ => cases h
  | _ => rfl
theorem qe_ix (ha : QE X a da) (hb : QE X b db) (h : noSlice b = true) : QE X (.Subscript a b pos) (dBin (rIxD X.K) da db) := fun Ex m => pe_ix ix_D (ha Ex m) (hb Ex m) (noSlice_ok h)
theorem qe_attr {f : Str} (ha : QE X a da) (h : attributeBase a f X.env (eval a X.env) = eval a X.env) : QE X (.Attribute a f pos) (dUn (rGetD X.K f) da) := by
  intro Ex m pins s σ H Q I hw
  exact attr_of h (thn (ha Ex m pins s σ H _ I hw) fun u s1 ⟨x, H1, I1, rx, q⟩ => get_D I1 rx q)
end
end L2

set_option maxRecDepth 100000
set_option maxHeartbeats 4000000
namespace L2
open PySem PySem.Spec PyProof.Rows

abbrev RF := List V → Hp → VK → Prop
def isTyB (x : V) (T : String) : Bool := match x with
  | .int _ => T == "int"
  | .bl _ => T == "bool" || T == "int"
  | .str _ => T == "str"
  | _ => false
def okT (T : String) : Bool := ["int", "bool", "str", "list", "tuple", "dict"].contains T
def rIsi (K : PySem.W.Frag) : RF := fun xs H Q => match xs with
  | [.int i, .ty T] => okT T = true ∧ Q (.bl (isTyB (.int i) T)) H
  | [.bl i, .ty T] => okT T = true ∧ Q (.bl (isTyB (.bl i) T)) H
  | [.str i, .ty T] => okT T = true ∧ Q (.bl (isTyB (.str i) T)) H
  | [.non, .ty T] => okT T = true ∧ Q (.bl (isTyB .non T)) H
  | [x, .ty T] => ∃ t b, TyX K H x t ∧ PySem.W.kitOne K t (.type T) = some b ∧ Q (.bl b) H
  | [x, .ref C] => ∃ t b, TyX K H x t ∧ PySem.W.kitOne K t (.ref C) = some b ∧ Q (.bl b) H
  | _ => False
def rLen (K : PySem.W.Frag) : RF := fun xs H Q => match xs with
  | [.str z] => z.length ≤ sizeLine ∧ Q (.int z.length) H
  | [.ref p] => ∃ ys, (SqL K H p ys ∨ SqT K H p ys) ∧ Q (.int ys.length) H
  | _ => False
def rAll (K : PySem.W.Frag) : RF := fun xs H Q => match xs with
  | [.ref p] => ∃ bs : List Bool, SqL K H p (bs.map V.bl) ∧ Q (.bl (bs.all fun b => b)) H
  | _ => False
def rInt : RF := fun xs H Q => match xs with
  | [.int i] => Q (.int i) H
  | [.bl k] => Q (.int (if k then 1 else 0)) H
  | _ => False
def rOrd : RF := fun xs H Q => match xs with
  | [.str x] => x.length = 1 ∧ Q (.int (x.cps.getD 0 0 : Nat)) H
  | _ => False
def rListOf (K : PySem.W.Frag) : RF := fun xs H Q => match xs with
  | [.ref p] => ∃ ys, (SqL K H p ys ∨ SqT K H p ys) ∧ ∀ l, H l = none → Q (.ref l) (upd H l (.lst ys))
  | _ => False
def rTupOf (K : PySem.W.Frag) : RF := fun xs H Q => match xs with
  | [.ref p] => ∃ ys, (SqL K H p ys ∧ ∀ l, H l = none → Q (.ref l) (upd H l (.tup ys))) ∨ (SqT K H p ys ∧ Q (.ref p) H)
  | _ => False
inductive BF where
  | bf (id : String) | ty (T : String)
/-- the built-in of that name, what it is, what it does -/
def bltR (K : PySem.W.Frag) (calm : Bool) (x : Str) : Option (BF × RF) :=
  if x = "len" then some (.bf "len", rLen K) else
  if x = "isinstance" then some (.bf "isinstance", rIsi K) else
  if x = "all" then (if calm = true then some (.bf "all", rAll K) else none) else
  if x = "int" then some (.ty "int", rInt) else
  if x = "ord" then some (.bf "ord", rOrd) else
  if x = "list" then some (.ty "list", rListOf K) else
  if x = "tuple" then some (.ty "tuple", rTupOf K) else none
def BF.val : BF → Value
  | .bf id => .builtin id
  | .ty T => .type T
section
variable {X : Cx}
theorem kit_scalar {K : PySem.W.Frag} {x : V} {T : String} (hx : flatV x = true) (h : okT T = true) : ∃ t, (∀ H, TyOf K H x t) ∧ PySem.W.kitOne K t (.type T) = some (isTyB x T) := by
  have hT : T = "int" ∨ T = "bool" ∨ T = "str" ∨ T = "list" ∨ T = "tuple" ∨ T = "dict" := by
    unfold okT at h
    simpa using h
  cases x with
  | int i => refine ⟨_, fun H => TyOf.int i, ?_⟩; rcases hT with rfl | rfl | rfl | rfl | rfl | rfl <;> rfl
  | bl i => refine ⟨_, fun H => TyOf.bl i, ?_⟩; rcases hT with rfl | rfl | rfl | rfl | rfl | rfl <;> rfl
  | str i => refine ⟨_, fun H => TyOf.str i, ?_⟩; rcases hT with rfl | rfl | rfl | rfl | rfl | rfl <;> rfl
  | non => refine ⟨_, fun H => TyOf.non, ?_⟩; rcases hT with rfl | rfl | rfl | rfl | rfl | rfl <;> rfl
  | _ => cases hx
theorem call_isi : CallR X (.builtin "isinstance") (rIsi X.K) := by
  intro pins s σ H xs us Q I r h
  have sc : ∀ x T, xs = [x, .ty T] → flatV x = true → okT T = true → Q (.bl (isTyB x T)) H → wpAny (model X.prog X.w) X.A (call (.builtin "isinstance") us) (EP X pins σ Q) X.xe s := fun x T e hx hT q => by
    subst e
    obtain ⟨t, ht, hk⟩ := kit_scalar (K := X.K) hx hT
    exact call_isT pins s σ H _ us Q I r ⟨x, T, t, _, rfl, ht H, hk, q⟩
  unfold rIsi at h
  split at h
  · exact sc _ _ rfl rfl h.1 h.2
  · exact sc _ _ rfl rfl h.1 h.2
  · exact sc _ _ rfl rfl h.1 h.2
  · exact sc _ _ rfl rfl h.1 h.2
  · obtain ⟨t, b, ty, e, q⟩ := h
    obtain ⟨u, v, rfl, ru, rv⟩ := r.two
    cases rv
    exact isinst_okX I ru ty e fun tk => ⟨.bl b, H, I.tok tk, rfl, q⟩
  · obtain ⟨t, b, ty, e, q⟩ := h
    obtain ⟨u, v, rfl, ru, rv⟩ := r.two
    cases rv
    exact isinst_okX I ru ty e fun tk => ⟨.bl b, H, I.tok tk, rfl, q⟩
  · exact h.elim
theorem call_lenD : CallR X (.builtin "len") (rLen X.K) := by
  intro pins s σ H xs us Q I r h
  unfold rLen at h
  split at h
  · exact call_len_str pins s σ H _ us Q I r ⟨_, rfl, h.1, h.2⟩
  · obtain ⟨ys, h1, h2⟩ := h
    exact call_len_seq pins s σ H _ us Q I r ⟨_, ys, rfl, h1, h2⟩
  · exact h.elim
theorem call_allD (hc : X.calm = true) : CallR X (.builtin "all") (rAll X.K) := by
  intro pins s σ H xs us Q I r h
  unfold rAll at h
  split at h
  · obtain ⟨bs, h1, h2⟩ := h
    exact call_all hc pins s σ H _ us Q I r ⟨_, bs, rfl, h1, h2⟩
  · exact h.elim
theorem call_intD : CallR X (.type "int") rInt := by
  intro pins s σ H xs us Q I r h
  unfold rInt at h
  split at h
  · exact call_int1 pins s σ H _ us Q I r (.inl ⟨_, rfl, h⟩)
  · exact call_int1 pins s σ H _ us Q I r (.inr ⟨_, rfl, h⟩)
  · exact h.elim
theorem call_ordD : CallR X (.builtin "ord") rOrd := by
  intro pins s σ H xs us Q I r h
  unfold rOrd at h
  split at h
  · exact call_ord pins s σ H _ us Q I r ⟨_, rfl, h.1, h.2⟩
  · exact h.elim
theorem call_listD : CallR X (.type "list") (rListOf X.K) := by
  intro pins s σ H xs us Q I r h
  unfold rListOf at h
  split at h
  · obtain ⟨ys, h1, h2⟩ := h
    exact call_list_of pins s σ H _ us Q I r ⟨_, ys, rfl, h1, h2⟩
  · exact h.elim
theorem call_tupD : CallR X (.type "tuple") (rTupOf X.K) := by
  intro pins s σ H xs us Q I r h
  unfold rTupOf at h
  split at h
  · obtain ⟨ys, h1⟩ := h
    exact call_tuple_of pins s σ H _ us Q I r ⟨_, ys, rfl, h1⟩
  · exact h.elim
theorem bltR_ok {x : Str} {f : BF} {r : RF} {c : Bool} (h : bltR X.K c x = some (f, r)) (hc : c = X.calm) : bootBuiltins x = some f.val ∧ CallR X f.val r := by
  unfold bltR at h
  by_cases e : x = "len"
  · rw [if_pos e] at h; cases h; rw [e]; exact ⟨PySem.boot_len, call_lenD⟩
  rw [if_neg e] at h
  by_cases e : x = "isinstance"
  · rw [if_pos e] at h; cases h; rw [e]; exact ⟨PyProof.Rows.boot_isinstance, call_isi⟩
  rw [if_neg e] at h
  by_cases e : x = "all"
  · rw [if_pos e] at h
    by_cases ec : c = true
    · rw [if_pos ec] at h; cases h; rw [e]; exact ⟨PyProof.Rows.boot_all, call_allD (hc ▸ ec)⟩
    · rw [if_neg ec] at h; cases h
  rw [if_neg e] at h
  by_cases e : x = "int"
  · rw [if_pos e] at h; cases h; rw [e]; exact ⟨PyProof.Rows.boot_int, call_intD⟩
  rw [if_neg e] at h
  by_cases e : x = "ord"
  · rw [if_pos e] at h; cases h; rw [e]; exact ⟨PyProof.Rows.boot_ord, call_ordD⟩
  rw [if_neg e] at h
  by_cases e : x = "list"
  · rw [if_pos e] at h; cases h; rw [e]; exact ⟨PyProof.Rows.boot_list, call_listD⟩
  rw [if_neg e] at h
  by_cases e : x = "tuple"
  · rw [if_pos e] at h; cases h; rw [e]; exact ⟨PyProof.Rows.boot_tuple, call_tupD⟩
  rw [if_neg e] at h
  cases h

abbrev RM := V → List V → Hp → VK → Prop
structure BM where
  T : String
  id : String
  r : RM
/-- what is asked of the receiver ahead of the arguments, then the method itself -/
def rMt (K : PySem.W.Frag) (bs : List BM) : V → Hp → (Hp → (List V → Hp → Prop) → Prop) → VK → Prop := fun x H1 ta Q =>
  match bs with
  | [] => False
  | [b] => tyV K b.T x H1 ∧ ta H1 fun xs H2 => b.r x xs H2 Q
  | b :: rest => (tyV K b.T x H1 ∧ ta H1 fun xs H2 => b.r x xs H2 Q) ∨ rMt K rest x H1 ta Q
structure BMOk (X : Cx) (m : Str) (b : BM) : Prop where
  pa : PlainAttrs b.T
  slot : Slot b.T m b.id
  ty : typeOf (.builtin b.id) = pure (.type "method_descriptor")
  mt : MtR X b.id b.r
def rJoin (K : PySem.W.Frag) : RM := fun x xs H Q => ∃ z p ys, x = .str z ∧ xs = [.ref p] ∧ SqL K H p (ys.map V.str) ∧ (ys.map (·.length)).sum + ys.length * z.length ≤ 16777216 ∧ Q (.str (Txt.join z ys)) H
def rBits : RM := fun x xs H Q => ∃ i, x = .int i ∧ xs = [] ∧ Q (.int (Builtin.Int.intBits i : Nat)) H
def mtR (K : PySem.W.Frag) (m : Str) : List BM :=
  if m = "append" then [⟨"list", "list.append", rAppend⟩] else
  if m = "join" then [⟨"str", "str.join", rJoin K⟩] else
  if m = "bit_length" then [⟨"int", "int.bit_length", rBits⟩] else []
theorem mtR_ok {m : Str} {b : BM} (h : b ∈ mtR X.K m) : BMOk X m b := by
  unfold mtR at h
  by_cases e : m = "append"
  · rw [if_pos e] at h
    have : b = ⟨"list", "list.append", rAppend⟩ := by simpa using h
    subst this; subst e
    exact ⟨PySem.F.plainAttrs_list, PySem.F.slot_list_append, PySem.F.type_list_append, mt_append⟩
  rw [if_neg e] at h
  by_cases e : m = "join"
  · rw [if_pos e] at h
    have : b = ⟨"str", "str.join", rJoin X.K⟩ := by simpa using h
    subst this; subst e
    exact ⟨PySem.F.plainAttrs_str, PySem.F.slot_str_join, PySem.F.type_str_join, mt_join⟩
  rw [if_neg e] at h
  by_cases e : m = "bit_length"
  · rw [if_pos e] at h
    have : b = ⟨"int", "int.bit_length", rBits⟩ := by simpa using h
    subst this; subst e
    exact ⟨PySem.F.plainAttrs_int, PySem.F.slot_int_bit_length, PySem.F.type_int_bit_length, mt_bits⟩
  rw [if_neg e] at h
  cases h
theorem rMt_mem {K : PySem.W.Frag} : ∀ {bs : List BM} {x : V} {H1 : Hp} {ta : Hp → (List V → Hp → Prop) → Prop} {Q : VK}, rMt K bs x H1 ta Q → ∃ b ∈ bs, tyV K b.T x H1 ∧ ta H1 fun xs H2 => b.r x xs H2 Q
  | [], _, _, _, _, h => h.elim
  | [b], _, _, _, _, h => ⟨b, by simp, h⟩
  | b :: c :: rest, x, H1, ta, Q, h => by
    rcases h with h | h
    · exact ⟨b, by simp, h⟩
    · obtain ⟨d, hd, q⟩ := rMt_mem h
      exact ⟨d, List.mem_cons_of_mem _ hd, q⟩
/-- the receiver is no super() -/
def noSuper : Expr → Bool
  | .Call (.Name x _) [] [] _ => !(x == ("super" : Str))
  | _ => true
theorem noSuper_ok {e : Expr} (h : noSuper e = true) (f : Str) (env : Env) (whole : Sem Value) : attributeBase e f env whole = whole := by
  unfold attributeBase
  split
  · rename_i id p pos
    have : (id == ("super" : Str)) = false := by
      have h' : (!(id == ("super" : Str))) = true := h
      simpa using h'
    have e2 : (id != "super") = true := by
      show (!(id == "super")) = true
      rw [this]
      rfl
    rw [e2]
    simp
  · rfl
variable {o : Expr} {do' : DE} {es : List Expr} {r : DA} {m : Str} {apos cpos : Pos}
theorem qe_mt0 {bs : List BM} (hb : ∀ b ∈ bs, BMOk X m b) (ho : QE X o do') (h1 : noSuper o = true) (h4 : (apos.endLine == cpos.line) = true) :
    QE X (.Call (.Attribute o m apos) [] [] cpos) (dMt (rMt X.K bs) do' dNil) := by
  intro Ex mt pins s σ H Q I h
  refine wpAny_Call_method0_late (noSuper_ok h1 m X.env _) h4 (thn (ho Ex mt pins s σ H _ I h) fun v s1 ⟨x, H1, I1, r1, q1⟩ => ?_)
  obtain ⟨b, hbm, ty, q⟩ := rMt_mem q1
  obtain ⟨k1, k2⟩ := tyV_is I1 r1 ty
  have B := hb b hbm
  exact ⟨b.T, b.id, B.pa, B.slot, B.ty, k1, k2, Calls.callWith_builtin rfl (PySem.evalArgs_none (B.mt pins s1 σ H1 x [] v [] Q I1 r1 .nil q))⟩
theorem qe_mt {bs : List BM} {e : Expr} (hb : ∀ b ∈ bs, BMOk X m b) (ho : QE X o do') (ha : QA X (e :: es) r) (h1 : noSuper o = true) (h2 : (e :: es).all noStar = true) (h3 : (e :: es).length < 30) (h4 : (apos.endLine == cpos.line) = true) :
    QE X (.Call (.Attribute o m apos) (e :: es) [] cpos) (dMt (rMt X.K bs) do' r) := by
  intro Ex mt pins s σ H Q I h
  have hs := List.all_cons ▸ h2
  rw [Bool.and_eq_true] at hs
  have hfew : ((backTo cpos (starEach (e :: es) X.env)).all (fun x => !x.1) && (backToKw cpos (keywordEach [] X.env)).all (fun x => x.1.isSome)
      && decide ((e :: es).length + ([] : List Keyword).length + (if ([] : List Keyword).isEmpty then 0 else 1) < 30)) = true := by
    rw [noStars_all h2]
    have : decide ((e :: es).length + ([] : List Keyword).length + (if ([] : List Keyword).isEmpty then 0 else 1) < 30) = true := by
      rw [decide_eq_true_iff]
      simpa using h3
    rw [this]
    rfl
  refine wpAny_Call_method_late (noSuper_ok h1 m X.env _) hfew h4 rfl (thn (ho Ex mt pins s σ H _ I h) fun v s1 ⟨x, H1, I1, r1, q1⟩ => ?_)
  obtain ⟨b, hbm, ty, q⟩ := rMt_mem q1
  obtain ⟨k1, k2⟩ := tyV_is I1 r1 ty
  have B := hb b hbm
  refine ⟨b.T, b.id, B.pa, B.slot, B.ty, k1, k2, ?_⟩
  have hA := ha Ex mt cpos pins s1 σ H1 _ I1 q
  rw [noStar_ok hs.1] at hA ⊢
  refine Calls.callWith_builtin (by show (false || (backTo cpos (starEach es X.env)).any (·.1)) = false; rw [noStars_any hs.2] <;> rfl) (Calls.evalArgs_plain ?_)
  exact thn hA fun us s2 ⟨vs, H2, I2, r2, q2⟩ => B.mt pins s2 σ H2 x vs v us Q I2 r1 r2 q2
variable {x : Str} {p pos : Pos} {G : Sg}
theorem qe_blt {f : BF} {rf : RF} {e : Expr} (hc : CallR X f.val rf) (hg : Gl X x) (hm : X.mg x = none) (hv : bootBuiltins x = some f.val) (ha : QA X (e :: es) r) (hs : (e :: es).all noStar = true) (hn : x ≠ "__name__") (hdb : (x == ("__debug__" : Str)) = false) :
    QE X (.Call (.Name x p) (e :: es) [] pos) (dFn (fun vs H Q _ => rf vs H Q) r) := by
  intro Ex mt
  have h := List.all_cons ▸ hs
  rw [Bool.and_eq_true] at h
  cases f with
  | bf id => exact pe_callB hc hg hm hv (ha Ex mt) hn hdb (noStar_ok h.1 es X.env) (noStars_any h.2 X.env pos)
  | ty T => exact pe_callTy hc hg hm hv (ha Ex mt) hn hdb (noStar_ok h.1 es X.env) (noStars_any h.2 X.env pos)
/-- the promise of a def, the exceptions by their addresses -/
def spE (sp : Sp) (dvs : List V) : List V → Hp → VK → EK → Prop := fun vs H Q E => sp (vs ++ dvs) H Q (fun v _ H' => ∃ a, v = .ref a ∧ E a H')
theorem run_fnX {i : FI} (F : FIOk X i) {j : Nat} (hj : j ≤ i.dfs.length) {Ex : St → EK} (mt : Meets X Ex) {pins : List (Addr × Obj)} {σ : St} {H : Hp} {s : Shared} {Q : VK} {us : List Value} {vs : List V}
    (I : Inv X pins σ H s) (r : Vals vs us) (h : spE i.sp (i.dfs.drop j) vs H Q (Ex σ)) : wpAny (model X.prog X.w) X.A (call (.ref i.f) us) (EP X pins σ Q) X.xe s := by
  obtain ⟨CX, hx, FO⟩ := F.ok
  have r2 : Vals (vs ++ i.dfs.drop j) (us ++ i.ds.drop j) := r.append (F.vals.drop j)
  have hl : (us ++ i.ds.drop j).length = i.ps.length := by rw [← r2.length]; exact FO.len _ _ _ _ h
  refine wpAny_call (codeAny_mono (FO.run X.A X.stack s H ⟨us, []⟩ (us ++ i.ds.drop j) (vs ++ i.dfs.drop j) Q _ F.room I.env0 (F.binds j hj s us I.kIn hl) r2 h) fun r s' hq => ?_)
  cases r with
  | error e => exact hx X rfl rfl Ex mt pins σ H s e s' I hq
  | ok fl =>
    cases fl with
    | ret u => exact I.after hq
    | next => exact False.elim hq
    | brk => exact False.elim hq
    | cont => exact False.elim hq
theorem qe_call0 {i : FI} (F : FIOk X i) {j : Nat} (hj : j ≤ i.dfs.length) (hg : Gl X x) (hm : X.mg x = some (.ref i.f)) (hdb : (x == ("__debug__" : Str)) = false) :
    QE X (.Call (.Name x p) [] [] pos) (dFn (spE i.sp (i.dfs.drop j)) dNil) := by
  intro Ex mt pins s σ H Q I h
  refine wpAny_Call_Name_kw (ld_glob I hg hm ?_ hdb)
  exact PySem.W.callWith_K0 I.kIn F.kp (run_fnX (us := []) F hj mt I .nil h)
theorem qe_call {i : FI} {e : Expr} (F : FIOk X i) {j : Nat} (hj : j ≤ i.dfs.length) (hg : Gl X x) (hm : X.mg x = some (.ref i.f)) (ha : QA X (e :: es) r) (hs : (e :: es).all noStar = true) (hdb : (x == ("__debug__" : Str)) = false) :
    QE X (.Call (.Name x p) (e :: es) [] pos) (dFn (spE i.sp (i.dfs.drop j)) r) := by
  intro Ex mt pins s σ H Q I h
  have h2 := List.all_cons ▸ hs
  rw [Bool.and_eq_true] at h2
  refine wpAny_Call_Name_kw (ld_glob I hg hm ?_ hdb)
  refine PySem.W.callWith_K (h₀ := X.base) I.ok.mod.kin F.kp (thn (ha Ex mt pos pins s σ H _ I h) fun us s1 ⟨vs, H1, I1, r, q⟩ => ⟨I1.kIn, ?_⟩) (noStar_ok h2.1 es X.env) (noStars_any h2.2 X.env pos)
  exact run_fnX F hj mt I1 r q
/-- C(..) of a class of exceptions -/
def mkX (C : Addr) : Option FI → Nat → List V → Hp → VK → EK → Prop
  | none, _ => fun _ H Q _ => ∀ a, H a = none → Q (.ref a) (upd H a (excO a C none))
  | some i, j => fun vs H Q E => ∀ a, H a = none → i.sp (.ref a :: (vs ++ i.dfs.drop j)) (upd H a (excO a C none)) (fun v H2 => v = .non ∧ Q (.ref a) H2) (fun v _ H' => ∃ b, v = .ref b ∧ E b H')
theorem run_mkX {C : Addr} {oi : Option FI} {j : Nat} (c : ECls X.K C) (hi : InitOk X C oi) (hj : ∀ i, oi = some i → j ≤ i.dfs.length) {Ex : St → EK} (mt : Meets X Ex) {pins : List (Addr × Obj)} {σ : St} {H : Hp} {s : Shared} {Q : VK} {us : List Value} {vs : List V}
    (I : Inv X pins σ H s) (rv : Vals vs us) (hl : vs.length ≤ 1000) (h : mkX C oi j vs H Q (Ex σ)) : wpAny (model X.prog X.w) X.A (call (.ref C) us) (EP X pins σ Q) X.xe s := by
  cases oi with
  | none => exact run_makeX0 c hi I rv hl h
  | some i =>
    obtain ⟨h1, h2, F, hr⟩ := hi
    obtain ⟨CX, hx, FO⟩ := F.ok
    exact run_makeX c h1 h2 FO hr (F.binds j (hj i rfl)) (F.vals.drop j) I rv hl (fun e s1 s' H1 I1 q => hx X rfl rfl Ex mt pins σ H1 s1 e s' I1 q) h
theorem qe_mkX0 {C : Addr} {oi : Option FI} {j : Nat} (c : ECls X.K C) (hi : InitOk X C oi) (hj : ∀ i, oi = some i → j ≤ i.dfs.length) (kp : PySem.W.keepIn X.K (.ref C) = true) (hg : Gl X x) (hm : X.mg x = some (.ref C)) (hdb : (x == ("__debug__" : Str)) = false) :
    QE X (.Call (.Name x p) [] [] pos) (dFn (mkX C oi j) dNil) := by
  intro Ex mt pins s σ H Q I h
  refine wpAny_Call_Name_kw (ld_glob I hg hm ?_ hdb)
  exact PySem.W.callWith_K0 I.kIn kp (run_mkX (us := []) c hi hj mt I .nil (by simp) h)
theorem qe_mkX {C : Addr} {oi : Option FI} {j : Nat} {e : Expr} (c : ECls X.K C) (hi : InitOk X C oi) (hj : ∀ i, oi = some i → j ≤ i.dfs.length) (kp : PySem.W.keepIn X.K (.ref C) = true) (hg : Gl X x) (hm : X.mg x = some (.ref C)) (ha : QA X (e :: es) r) (hs : (e :: es).all noStar = true) (hdb : (x == ("__debug__" : Str)) = false) :
    QE X (.Call (.Name x p) (e :: es) [] pos) (dFn (fun vs H Q E => vs.length ≤ 1000 ∧ mkX C oi j vs H Q E) r) := by
  intro Ex mt pins s σ H Q I h
  have h2 := List.all_cons ▸ hs
  rw [Bool.and_eq_true] at h2
  refine wpAny_Call_Name_kw (ld_glob I hg hm ?_ hdb)
  refine PySem.W.callWith_K (h₀ := X.base) I.ok.mod.kin kp (thn (ha Ex mt pos pins s σ H _ I h) fun us s1 ⟨vs, H1, I1, r, q⟩ => ⟨I1.kIn, ?_⟩) (noStar_ok h2.1 es X.env) (noStars_any h2.2 X.env pos)
  exact run_mkX c hi hj mt I1 r q.1 q.2
end
end L2

set_option maxRecDepth 100000
set_option maxHeartbeats 4000000
namespace L2
open PySem PySem.Spec PyProof.Rows

def QI (X : Cx) (tg e : Expr) (t : DI) : Prop := ∀ Ex, Meets X Ex → PI X tg e (fun σ H R => t σ H R (Ex σ))
def iNo : DI := fun _ _ _ _ => False
def iVal (K : PySem.W.Frag) (a : DE) : DI := fun σ H R E => a σ H (fun x H1 => match x with
  | .str z => R (Its z) H1
  | .ref p => ((∃ xs, SqL K H1 p xs) ∧ R (Itl K p) H1) ∨ ((∃ xs, SqT K H1 p xs) ∧ R (Itt K p) H1)
  | _ => False) E
def iRng (t : DA) : DI := fun σ H R E => t σ H (fun vs H1 => match vs with
  | [.int j] => (-(2 ^ 62) ≤ j ∧ j < 2 ^ 62) ∧ R (Itr 0 j.toNat) H1
  | [.int i, .int j] => (-(2 ^ 62) ≤ i ∧ i < 2 ^ 62 ∧ -(2 ^ 62) ≤ j ∧ j < 2 ^ 62) ∧ R (Itr i (j - i).toNat) H1
  | _ => False) E
def iZp (K : PySem.W.Frag) (t : DA) : DI := fun σ H R E => t σ H (fun vs H1 => match vs with
  | [.ref a, .ref b] => (∃ xs, SqL K H1 a xs) ∧ (∃ ys, SqL K H1 b ys) ∧ R (Itz K a b) H1
  | _ => False) E
def iEn (K : PySem.W.Frag) (t : DA) : DI := fun σ H R E => t σ H (fun vs H1 => match vs with
  | [.ref a] => (∃ xs, SqL K H1 a xs) ∧ R (Ite K a) H1
  | _ => False) E
section
variable {X : Cx} {tg e a b : Expr} {da : DE} {r : DA} {p pos : Pos}
theorem qi_no : QI X tg e iNo := fun _ _ _ _ _ _ _ _ h => h.elim
theorem qi_val (ha : QE X e da) : QI X tg e (iVal X.K da) := by
  intro Ex mt pins s σ H R I h
  refine thn (ha Ex mt pins s σ H _ I h) fun v s1 ⟨x, H1, I1, r1, q1⟩ => ?_
  cases x with
  | str z =>
    obtain ⟨t, rfl⟩ := r1
    refine wpAny_pyIter_strU ?_
    refine ⟨s1.heap.objs.size, [s1.heap.objs.size], _, _, H1, rfl, I1.kept (t' := s1.toks) fun b o e => Heap.get?_push_of_some _ e, turn_str s1.heap.objs.size z t (strIterType z) (by unfold strIterType; split <;> simp), ⟨_, Heap.get?_push_size _ rfl, rfl, rfl⟩, fun b hb => ?_, q1⟩
    have e : b = s1.heap.objs.size := by simpa using hb
    subst e
    exact I1.fpOk (Nat.le_refl _) (I1.hok.fresh (Nat.le_refl _))
  | ref a =>
    cases r1
    rcases q1 with ⟨⟨xs, hq⟩, q⟩ | ⟨⟨xs, hq⟩, q⟩
    · obtain ⟨its, rv, p, hz⟩ := I1.list hq
      refine wpAny_pyIter_list p.isList ?_
      refine ⟨s1.heap.objs.size, [s1.heap.objs.size], _, _, H1, rfl, I1.kept (t' := s1.toks) fun b o e => Heap.get?_push_of_some _ e, turn_list a _, ⟨_, Heap.get?_push_size _ rfl, rfl, rfl⟩, fun b hb => ?_, q⟩
      have e : b = s1.heap.objs.size := by simpa using hb
      subst e
      exact I1.fpOk (Nat.le_refl _) (I1.hok.fresh (Nat.le_refl _))
    · obtain ⟨its, rv, p, hz⟩ := I1.tuple hq
      refine wpAny_pyIter_tuple (show s1.heap.IsTuple a its.toArray from p) ?_
      refine ⟨s1.heap.objs.size, [s1.heap.objs.size], _, _, H1, rfl, I1.kept (t' := s1.toks) fun b o e => Heap.get?_push_of_some _ e, turn_tuple a _, ⟨_, Heap.get?_push_size _ rfl, rfl, rfl⟩, fun b hb => ?_, q⟩
      have e : b = s1.heap.objs.size := by simpa using hb
      subst e
      exact I1.fpOk (Nat.le_refl _) (I1.hok.fresh (Nat.le_refl _))
  | _ => exact (show False from q1).elim
variable {es : List Expr}
theorem qi_range (hg : Gl X "range") (hm : X.mg "range" = none) (ha : QA X (a :: es) r) (hs : (a :: es).all noStar = true) : QI X tg (.Call (.Name "range" p) (a :: es) [] pos) (iRng r) := by
  intro Ex mt pins s σ H R I h
  have h2 := List.all_cons ▸ hs
  rw [Bool.and_eq_true] at h2
  refine Call_ (ld_blt I hg hm boot_range (PyProof.Rows.callWith_type1 (thn (ha Ex mt pos pins s σ H _ I h) fun us s1 ⟨vs, H1, I1, r1, q1⟩ => ?_) (noStar_ok h2.1 es X.env) (noStars_any h2.2 X.env pos)))
  dsimp only at q1
  split at q1
  · obtain ⟨⟨h1, h2⟩, q⟩ := q1
    obtain ⟨u, rfl, t, rfl⟩ := vals1 r1
    exact call_range_1 (range_it I1 (by omega) (by omega) h1 h2 (by simpa using q))
  · obtain ⟨⟨h1, h2, h3, h4⟩, q⟩ := q1
    obtain ⟨u, v, rfl, ⟨t, rfl⟩, ⟨t', rfl⟩⟩ := vals2 r1
    exact call_range_2 (range_it I1 h1 h2 h3 h4 q)
  · exact q1.elim
theorem qi_zip {elts : List Expr} {kt : Nat} {pt : Pos} (hg : Gl X "zip") (hm : X.mg "zip" = none) (ha : QA X (a :: es) r) (hs : (a :: es).all noStar = true) : QI X (.Tuple elts kt pt) (.Call (.Name "zip" p) (a :: es) [] pos) (iZp X.K r) := by
  intro Ex mt pins s σ H R I h
  have hh := List.all_cons ▸ hs
  rw [Bool.and_eq_true] at hh
  refine Call_ (ld_blt I hg hm boot_zip (PyProof.Rows.callWith_type1 (thn (ha Ex mt pos pins s σ H _ I h) fun us s1 ⟨vs, H1, I1, r1, q1⟩ => ?_) (noStar_ok hh.1 es X.env) (noStars_any hh.2 X.env pos)))
  dsimp only at q1
  split at q1
  · rename_i l1 l2
    obtain ⟨⟨xs, q1⟩, ⟨ys, q2⟩, q⟩ := q1
    obtain ⟨u, v, rfl, ru, rv⟩ := r1.two
    cases ru
    cases rv
    obtain ⟨its1, t1, p1, z1⟩ := I1.list q1
    obtain ⟨its2, t2, p2, z2⟩ := I1.list q2
    refine call_zip_2 p1.isList p2.isList fun h' hz hTI hTO hi1 hi2 hsz hk => ?_
    refine wpAny_pyIter_zip hz ?_
    have a1 : l1 < s1.heap.objs.size := by obtain ⟨_, e, _⟩ := p1.isList; exact Heap.lt_size e
    have a2 : l2 < s1.heap.objs.size := by obtain ⟨_, e, _⟩ := p2.isList; exact Heap.lt_size e
    refine ⟨_, _, _, _, H1, rfl, I1.kept (t' := s1.toks) hk, turn_zip (PyProof.Rows.zipApart_new a1 a2), ⟨hz, hTI, ⟨_, _, hTO⟩, hi1, hi2⟩, fun b hb => ?_, q⟩
    have hb : b = s1.heap.objs.size + 4 ∨ b = s1.heap.objs.size + 2 ∨ b = s1.heap.objs.size + 3 ∨ b = s1.heap.objs.size ∨ b = s1.heap.objs.size + 1 := by simpa using hb
    have le : s1.heap.objs.size ≤ b := by
      rcases hb with e | e | e | e | e
      · rw [e]; exact Nat.le_add_right _ 4
      · rw [e]; exact Nat.le_add_right _ 2
      · rw [e]; exact Nat.le_add_right _ 3
      · rw [e]; exact Nat.le_refl _
      · rw [e]; exact Nat.le_add_right _ 1
    exact I1.fpOk le (I1.hok.fresh le)
  · exact q1.elim

theorem qi_enum {elts : List Expr} {kt : Nat} {pt : Pos} (hg : Gl X "enumerate") (hm : X.mg "enumerate" = none) (ha : QA X (a :: es) r) (hs : (a :: es).all noStar = true) : QI X (.Tuple elts kt pt) (.Call (.Name "enumerate" p) (a :: es) [] pos) (iEn X.K r) := by
  intro Ex mt pins s σ H R I h
  have hh := List.all_cons ▸ hs
  rw [Bool.and_eq_true] at hh
  refine Call_ (ld_blt I hg hm boot_enumerate (PyProof.Rows.callWith_type1 (thn (ha Ex mt pos pins s σ H _ I h) fun us s1 ⟨vs, H1, I1, r1, q1⟩ => ?_) (noStar_ok hh.1 es X.env) (noStars_any hh.2 X.env pos)))
  dsimp only at q1
  split at q1
  · rename_i l
    obtain ⟨⟨xs, q1⟩, q⟩ := q1
    obtain ⟨u, rfl, ru⟩ := vals1 r1
    cases ru
    obtain ⟨its1, t1, p1, z1⟩ := I1.list q1
    refine call_enumerate_list p1.isList fun h' he hit hsz hk => ?_
    refine wpAny_pyIter_enum he ?_
    refine ⟨_, _, _, _, H1, rfl, I1.kept (t' := s1.toks) hk, turn_enum (Nat.succ_ne_self _), ⟨⟨_, he⟩, hit⟩, fun b hb => ?_, q⟩
    have hb : b = s1.heap.objs.size + 1 ∨ b = s1.heap.objs.size := by simpa using hb
    have le : s1.heap.objs.size ≤ b := by
      rcases hb with e | e
      · rw [e]; exact Nat.le_add_right _ 1
      · rw [e]; exact Nat.le_refl _
    exact I1.fpOk le (I1.hok.fresh le)
  · exact q1.elim

def gNo : DG := fun _ _ _ _ => False
def gdS : List DG → List V → St → Hp → (St → Hp → Prop) → Prop
  | [], [], σ, H, Q => Q σ H
  | g :: gs, v :: vs, σ, H, Q => g v σ H fun σ' H' => gdS gs vs σ' H' Q
  | _, _, _, _, _ => False
def gdT (K : PySem.W.Frag) (n : Nat) (gs : List DG) : DG := fun v σ H Q => match v with
  | .ref a => ∃ xs, SqT K H a xs ∧ xs.length = n ∧ gdS gs xs σ H Q
  | _ => False
theorem pg_no : PG X tg gNo := fun _ _ _ _ _ _ _ _ _ h => h.elim
theorem pgs_N : PGs X [] (gdS []) := by
  intro pins s σ H vs us Q I r h
  cases vs with
  | nil => exact pgs_nil pins s σ H [] us Q I r ⟨rfl, h⟩
  | cons v vs => exact (show False from h).elim
theorem pgs_C {g : DG} {gs : List DG} {ts : List Expr} (h1 : PG X tg g) (h2 : PGs X ts (gdS gs)) (hs : (assignEach (tg :: ts) X.env).map (·.2) = assign tg X.env :: (assignEach ts X.env).map (·.2)) : PGs X (tg :: ts) (gdS (g :: gs)) := by
  intro pins s σ H vs us Q I r h
  cases vs with
  | nil => exact (show False from h).elim
  | cons v vs => exact pgs_cons h1 h2 hs pins s σ H (v :: vs) us Q I r ⟨v, vs, rfl, h⟩
theorem pg_T {ts : List Expr} {k n : Nat} {gs : List DG} (hc : X.calm = true) (h : PGs X ts (gdS gs)) (hn : (assignEach ts X.env).length = n) (hst : (assignEach ts X.env).findIdx? (·.1) = none) : PG X (.Tuple ts k pos) (gdT X.K n gs) := by
  intro pins s σ H v u Q I r hw
  cases v with
  | ref a => exact pg_tup hc h hn hst pins s σ H _ u Q I r (let ⟨xs, h1, h2, h3⟩ := hw; ⟨a, xs, rfl, h1, h2, h3⟩)
  | _ => exact (show False from hw).elim
end
end L2

set_option maxRecDepth 100000
set_option maxHeartbeats 4000000
namespace L2
open PySem PySem.Spec PyProof.Rows

def closL (cs : List (Str × Addr)) : List (Str × NameKind) → List (Str × Addr) → List (Str × Addr)
  | [], acc => acc
  | (n, k) :: r, acc => if k == .free then closL cs r ((n, (cs.lookup n).getD 0) :: acc) else closL cs r acc
theorem closureFor_eq {scope : Scope} {env : Env} (h : ∀ y ∈ scope.names, y.2 = .free → ∃ c, env.cells.lookup y.1 = some c) : closureFor scope env = pure (closL env.cells scope.names []) := by
  unfold closureFor
  generalize scope.names = names at h
  suffices ∀ acc, (forIn names acc fun (x : Str × NameKind) cs => do
      if (x.2 == .free) = true then do
        let c ← cellOf env x.1
        pure (ForInStep.yield ((x.1, c) :: cs))
      else pure (ForInStep.yield cs) : Sem (List (Str × Addr))) = pure (closL env.cells names acc) by
    have := this []
    simp only [bind_pure]
    exact this
  induction names with
  | nil => intro acc; rfl
  | cons y r ih =>
    intro acc
    obtain ⟨n, k⟩ := y
    rw [List.forIn_cons]
    unfold closL
    by_cases e : (k == NameKind.free) = true
    · obtain ⟨c, hc⟩ := h (n, k) (by simp) (eq_of_beq e)
      have ec : cellOf env n = pure c := by
        unfold cellOf
        rw [show env.cells.lookup n = some c from hc]
      simp only [e, if_true, ec, pure_bind]
      rw [ih (fun y hy => h y (List.mem_cons_of_mem _ hy))]
      rw [show env.cells.lookup n = some c from hc]
      rfl
    · have e' : (k == NameKind.free) = false := by simpa using e
      simp only [e', Bool.false_eq_true, if_false, pure_bind]
      rw [ih (fun y hy => h y (List.mem_cons_of_mem _ hy))]
theorem closL_mem {cs : List (Str × Addr)} : ∀ {names : List (Str × NameKind)} {acc : List (Str × Addr)} {p : Str × Addr}, p ∈ closL cs names acc → p ∈ acc ∨ ((p.1, NameKind.free) ∈ names ∧ p.2 = (cs.lookup p.1).getD 0)
  | [], _, _, h => .inl h
  | (n, k) :: r, acc, p, h => by
    unfold closL at h
    by_cases e : (k == NameKind.free) = true
    · rw [if_pos e] at h
      rcases closL_mem h with h | ⟨h1, h2⟩
      · rcases List.mem_cons.mp h with h | h
        · subst h
          exact .inr ⟨by rw [eq_of_beq e]; simp, rfl⟩
        · exact .inl h
      · exact .inr ⟨List.mem_cons_of_mem _ h1, h2⟩
    · rw [if_neg e] at h
      rcases closL_mem h with h | ⟨h1, h2⟩
      · exact .inl h
      · exact .inr ⟨List.mem_cons_of_mem _ h1, h2⟩
theorem closL_acc {cs : List (Str × Addr)} : ∀ {names : List (Str × NameKind)} {acc : List (Str × Addr)} {p : Str × Addr}, p ∈ acc → p ∈ closL cs names acc
  | [], _, _, h => h
  | (n, k) :: r, acc, p, h => by
    unfold closL
    split
    · exact closL_acc (List.mem_cons_of_mem _ h)
    · exact closL_acc h
theorem closL_has {cs : List (Str × Addr)} : ∀ {names : List (Str × NameKind)} {acc : List (Str × Addr)} {n : Str}, (n, NameKind.free) ∈ names → n ∈ (closL cs names acc).map (·.1)
  | [], _, _, h => by cases h
  | (m, k) :: r, acc, n, h => by
    unfold closL
    rcases List.mem_cons.mp h with e | h
    · cases e
      rw [if_pos (show (NameKind.free == NameKind.free) = true from rfl)]
      exact List.mem_map.mpr ⟨_, closL_acc (List.mem_cons_self), rfl⟩
    · split <;> exact closL_has h
def relN (sc : List (Str × NameKind)) (names : List (Str × NameKind)) : List (Str × NameKind) := names.map fun (n, k) => if (k == .free && sc.lookup n == some .cell) then (n, .cell) else (n, k)
def locN (names : List (Str × NameKind)) : List Str := (names.filter fun y => (y.2 == .local) && !(y.1 == (".0" : Str))).map (·.1)
def freN (names : List (Str × NameKind)) : List Str := (names.filter fun y => y.2 == .free).map (·.1)
def cfV (o : Option NameKind) : Bool := o == some .cell || o == some .free
def compG (G : Sg) (names : List (Str × NameKind)) : Sg := { G with N := locN names ++ freN names, sc := relN G.sc names, top := false }
def compSrc (G : Sg) (names : List (Str × NameKind)) : List (Option Nat) := (locN names).map (fun _ => none) ++ (freN names).map (fun x => slotF G.N x 0)
def compOk (G : Sg) (sc : Scope) : Bool :=
  (sc.names.all fun y => !(y.2 == .cell)) && (sc.names.all fun y => !(y.2 == .local) || (sc.names.lookup y.1 == some .local)) && (sc.kind == .function) &&
  decide (locN sc.names ++ freN sc.names).Nodup && ((freN sc.names).all fun x => (slotF G.N x 0).isSome && cfV (G.sc.lookup x) && cfV ((relN G.sc sc.names).lookup x)) &&
  ((locN sc.names).all fun x => (relN G.sc sc.names).lookup x == some .local)
section
variable {X : Cx} {G : Sg} {sc : Scope}
theorem cfV_iff {o : Option NameKind} (h : cfV o = true) : o = some .cell ∨ o = some .free := by
  unfold cfV at h
  rw [Bool.or_eq_true] at h
  exact h.elim (fun e => .inl (eq_of_beq e)) fun e => .inr (eq_of_beq e)
theorem relabel_eq (O : GOk X G) : (relabel sc X.env).names = relN G.sc sc.names := by
  unfold relabel relN
  apply List.map_congr_left
  rintro ⟨n, k⟩ _
  have e : X.env.kindOf n = G.sc.lookup n := O.sc n
  dsimp only
  rw [e, O.kind]
  simp
theorem comp_sc (O : GOk X G) (h : compOk G sc = true) : CompSc X (compG G sc.names).N (compSrc G sc.names) sc (closL X.env.cells sc.names []) := by
  unfold compOk at h
  simp only [Bool.and_eq_true, List.all_eq_true, Bool.not_eq_true', decide_eq_true_eq, Bool.or_eq_true] at h
  obtain ⟨⟨⟨⟨⟨h1, h2⟩, h3⟩, h4⟩, h5⟩, h6⟩ := h
  have fr : ∀ y ∈ sc.names, y.2 = .free → ∃ c, X.env.cells.lookup y.1 = some c := fun y hy hf => by
    refine O.cel y.1 ?_
    rw [O.sc]
    refine cfV_iff (h5 y.1 ?_).1.2
    exact List.mem_map.mpr ⟨y, List.mem_filter.mpr ⟨hy, by rw [hf]; rfl⟩, rfl⟩
  have nc : ∀ y ∈ sc.names, y.2 ≠ .cell := fun y hy e => by
    have := h1 y hy
    rw [e] at this
    cases this
  refine ⟨closureFor_eq fr, nc, eq_of_beq h3, fun y hy hl => ?_, fun x c hx => ?_, fun x hx => ?_, ?_, fun k j x e1 e2 => ?_⟩
  · rcases h2 y hy with z | z
    · rw [hl] at z; cases z
    · exact eq_of_beq z
  · have hm := PySem.mem_of_lookup hx
    rcases closL_mem hm with z | ⟨z1, z2⟩
    · cases z
    · obtain ⟨c', hc'⟩ := fr _ z1 rfl
      have z2' : c = (X.env.cells.lookup x).getD 0 := z2
      rw [show X.env.cells.lookup x = some c' from hc'] at z2' ⊢
      rw [z2']
      rfl
  · have hn : (relabel sc X.env).names = relN G.sc sc.names := relabel_eq O
    have key : ∀ kd, (relabel sc X.env).names.lookup x = some kd → cfV (some kd) = true → ∃ c, (closL X.env.cells sc.names []).lookup x = some c := fun kd hkd hc => by
      rw [hn] at hkd
      have hm := PySem.mem_of_lookup hkd
      unfold relN at hm
      obtain ⟨⟨n, k⟩, hy, e⟩ := List.mem_map.mp hm
      dsimp only at e
      have hfree : k = .free ∧ n = x := by
        have hkc := nc _ hy
        by_cases e1 : (k == NameKind.free && G.sc.lookup n == some .cell) = true
        · rw [if_pos e1] at e
          rw [Bool.and_eq_true] at e1
          exact ⟨eq_of_beq e1.1, congrArg Prod.fst e⟩
        · rw [if_neg e1] at e
          cases e
          rcases cfV_iff hc with z | z
          · exact absurd (Option.some.inj z) hkc
          · exact ⟨Option.some.inj z, rfl⟩
      obtain ⟨rfl, rfl⟩ := hfree
      exact mem_look (closL_has hy)
    rcases hx with hx | hx
    · exact key _ hx rfl
    · exact key _ hx rfl
  · unfold compSrc compG
    simp
  · have e1' : (locN sc.names ++ freN sc.names)[k]? = some x := e1
    have e2' : ((locN sc.names).map (fun _ => (none : Option Nat)) ++ (freN sc.names).map (fun x => slotF G.N x 0))[k]? = some (some j) := e2
    by_cases hlt : k < (locN sc.names).length
    · rw [List.getElem?_append_left (by simpa using hlt), List.getElem?_map] at e2'
      cases q : (locN sc.names)[k]? with
      | none => rw [q] at e2'; cases e2'
      | some z => rw [q] at e2'; cases e2'
    · rw [List.getElem?_append_right (by simpa using hlt)] at e1' 
      rw [List.getElem?_append_right (by simpa using hlt), List.length_map, List.getElem?_map, e1'] at e2'
      have hs : slotF G.N x 0 = some j := Option.some.inj e2'
      have hx : x ∈ freN sc.names := List.mem_of_getElem? e1'
      obtain ⟨⟨_, c1⟩, c2⟩ := h5 x hx
      refine ⟨by rw [O.N]; exact slot_get hs, ?_, ?_⟩
      · rw [O.sc]; exact cfV_iff c1
      · rw [relabel_eq O]; exact cfV_iff c2
theorem comp_ok (O : GOk X G) (h : compOk G sc = true) (fp : List Addr) (C : Addr) (s : Shared) (H : Hp) :
    GOk (X.comp (compG G sc.names).N sc (closL X.env.cells sc.names []) fp C s H) (compG G sc.names) := by
  have S := comp_sc O h
  unfold compOk at h
  simp only [Bool.and_eq_true, List.all_eq_true, Bool.not_eq_true', decide_eq_true_eq, Bool.or_eq_true] at h
  obtain ⟨⟨⟨⟨⟨h1, h2⟩, h3⟩, h4⟩, h5⟩, h6⟩ := h
  have hn : (relabel sc X.env).names = relN G.sc sc.names := relabel_eq O
  refine ⟨O.K, eq_of_beq h3, PassesOwn.never, rfl, h4, fun x => ?_, fun x hx => ?_, fun z => (by cases z), O.calm, O.hd, O.units, fun x hx => S.has x hx, fun x i e => ?_, O.val, O.bl, fun x C oi e => ?_⟩
  · show (relabel sc X.env).names.lookup x = _
    rw [hn]
    rfl
  · show Vis (relabel sc X.env) x
    unfold Vis
    rw [hn]
    rcases List.mem_append.mp hx with q | q
    · exact .inl (eq_of_beq (h6 x q))
    · exact .inr (cfV_iff (h5 x q).2)
  · obtain ⟨m, F⟩ := O.fn x i e
    obtain ⟨CX, p, f⟩ := F.ok
    exact ⟨m, ⟨F.kp, ⟨CX, p, f⟩, F.room, F.binds, F.vals⟩⟩
  · obtain ⟨m, k, c, i0⟩ := O.exc x C oi e
    refine ⟨m, k, c, ?_⟩
    cases oi with
    | none => exact i0
    | some i => obtain ⟨a1, a2, F, r⟩ := i0; obtain ⟨CX, p, f⟩ := F.ok; exact ⟨a1, a2, ⟨F.kp, ⟨CX, p, f⟩, F.room, F.binds, F.vals⟩, r⟩
end
end L2

set_option maxRecDepth 100000
set_option maxHeartbeats 4000000
namespace L2
open PySem PySem.Spec PyProof.Rows

def dPartN : St → Hp → (Option Int → Hp → Prop) → EK → Prop := fun _ H Q _ => Q none H
def dPart (a : DE) : St → Hp → (Option Int → Hp → Prop) → EK → Prop := fun σ H Q E => a σ H (fun x H1 => match x with
  | .int i => Q (some i) H1
  | _ => False) E
abbrev DO := St → Hp → (Option Int → Hp → Prop) → EK → Prop
def rSlD (K : PySem.W.Frag) : V → Option Int → Option Int → Hp → VK → Prop := fun x lo hi H Q => match x with
  | .str z => z.length ≤ sizeLine ∧ Q (.str (Txt.slice z lo hi)) H
  | .ref a => (∃ xs, SqL K H a xs ∧ ∀ p, H p = none → Q (.ref p) (upd H p (.lst (cutV xs lo hi)))) ∨
      (∃ xs, SqT K H a xs ∧ ¬ (HT.sIx xs.length 0 lo = 0 ∧ HT.sIx xs.length xs.length hi = xs.length) ∧ ∀ p, H p = none → Q (.ref p) (upd H p (.tup (cutV xs lo hi))))
  | _ => False
def dSl (K : PySem.W.Frag) (a : DE) (l h : DO) : DE := fun σ H Q E => a σ H (fun x H1 => l σ H1 (fun lo H2 => h σ H2 (fun hi H3 => rSlD K x lo hi H3 Q) E) E) E
def QO (X : Cx) (e : Option Expr) (t : DO) : Prop := ∀ Ex, Meets X Ex → PO X e (fun σ H Q => t σ H Q (Ex σ))

section
variable {X : Cx} {G : Sg} {e : Expr} {de : DE} {lo hi : Option Expr} {dl dh : DO} {pos p2 : Pos}
theorem qo_none : QO X none dPartN := fun _ _ => po_none
theorem qo_some (h : QE X e de) : QO X (some e) (dPart de) := by
  intro Ex m pins s σ H Q I hw
  rw [evalPart_some]
  refine thn (h Ex m pins s σ H _ I hw) fun u s1 ⟨x, H1, I1, r1, q1⟩ => ?_
  cases x with
  | int i => obtain ⟨t, rfl⟩ := r1; exact ⟨some i, H1, I1, .int i t, q1⟩
  | _ => exact (show False from q1).elim
theorem noTemp (e : Expr) (z : Str) (t : Tok) (r : Value) : letTemporaryGo e (.str z t) r = pure () := by
  cases e <;> rfl
theorem qe_slice (he : QE X e de) (hl : QO X lo dl) (hh : QO X hi dh) : QE X (.Subscript e (.Slice lo hi none p2) pos) (dSl X.K de dl dh) := by
  intro Ex m pins s σ H Q I h
  refine Subscript_ (thn (he Ex m pins s σ H _ I h) fun v s1 ⟨x, H1, I1, r1, q1⟩ => ?_)
  refine wpAny_Slice (thn (hl Ex m pins s1 σ H1 _ I1 q1) fun vl s2 ⟨l, H2, I2, pl, q2⟩ => thn (hh Ex m pins s2 σ H2 _ I2 q2) fun vu s3 ⟨u, H3, I3, pu, q3⟩ => ?_)
  rw [evalPart_none]
  refine wpAny_pure ?_
  show wpAny (model X.prog X.w) X.A (subscriptTail e (.Slice lo hi none p2) v (.ref s3.heap.objs.size)) (EP X pins σ Q) X.xe { s3 with heap := s3.heap.push { cls := .type "slice", data := .fields #[vl, vu, .none] } }
  have I4 : Inv X pins σ H3 { s3 with heap := s3.heap.push { cls := .type "slice", data := .fields #[vl, vu, .none] } } := I3.kept (t' := s3.toks) fun b ob q => Heap.get?_push_of_some _ q
  have gen : ∀ r, SlR X r → r x l u H3 Q → wpAny (model X.prog X.w) X.A (subscriptTail e (.Slice lo hi none p2) v (.ref s3.heap.objs.size)) (EP X pins σ Q) X.xe { s3 with heap := s3.heap.push { cls := .type "slice", data := .fields #[vl, vu, .none] } } := fun r hr q => by
    obtain ⟨T, id, hT, ht, hg⟩ := hr pins _ σ H3 x v vl vu l u s3.heap.objs.size Q I4 r1 (Heap.IsSliceOf.new ..) pl pu q
    exact tail_any (ops := [.ref s3.heap.objs.size, v]) ht hT hg (by with_unfolding_all rfl)
  cases x with
  | str z =>
    obtain ⟨hz, q⟩ := q3
    obtain ⟨t, rfl⟩ := r1
    have hk : KeptH (fun h => Inv X pins σ H3 { s3 with heap := h }) := fun h ob J => J.kept (t' := s3.toks) fun b o eb => Heap.get?_push_of_some _ eb
    have fin : ∀ h' t' k, Inv X pins σ H3 { s3 with heap := h' } → EP X pins σ Q (.str (Txt.slice z l u) t') { s3 with heap := h', toks := k } := fun h' t' k J => ⟨.str _, H3, J.tok k, ⟨_, rfl⟩, q⟩
    cases pl with
    | none =>
      cases pu with
      | none => exact tail_of_ItemOn (SBH.sliceItem_nn hk I3 fin hz) (by with_unfolding_all rfl) (noTemp e z t)
      | int j uj => exact tail_of_ItemOn (SBH.sliceItem_ns hk I3 fin hz) (by with_unfolding_all rfl) (noTemp e z t)
    | int i ui =>
      cases pu with
      | none => exact tail_of_ItemOn (SBH.sliceItem_sn hk I3 fin hz) (by with_unfolding_all rfl) (noTemp e z t)
      | int j uj => exact tail_of_ItemOn (SBH.sliceItem_ss hk I3 fin hz) (by with_unfolding_all rfl) (noTemp e z t)
  | ref a =>
    rcases q3 with ⟨xs, h1, h2⟩ | ⟨xs, h1, h2, h3⟩
    · exact gen _ sl_list ⟨a, xs, rfl, h1, h2⟩
    · exact gen _ sl_tup ⟨a, xs, rfl, h1, h2, h3⟩
  | _ => exact (show False from q3).elim
def noSet : Expr → Bool
  | .Set _ _ _ => false
  | _ => true
theorem noSet_ok {e : Expr} (h : noSet e = true) (env : Env) (x : Value) : foldedSetIterable e env x = pure x := by
  cases e with
  | Set _ _ _ => cases h
  | _ => rfl
def QIfs (X : Cx) (ifs : List Expr) (t : DT) : Prop := PIfs X ifs (fun σ H Q => t σ H Q (fun _ _ => False))
theorem qifs_nil : QIfs X [] dYes := pifs_nil
theorem meets_no : Meets X (fun _ _ _ => False) := fun _ _ _ _ _ _ _ h => h.elim
theorem qifs_one {c : Expr} {t : DT} (h : QT X c t) : QIfs X [c] t := pifs_one (h _ meets_no)
variable {tg iter elt : Expr} {ifs : List Expr} {sc : Scope} {wi : DI} {g : DG} {tc : DT}
theorem qe_comp (O : GOk X G) (hc : X.calm = true) (hk : compOk G sc = true) (hs : noSet iter = true) (hi : QI X tg iter wi) (hg : ∀ X', GOk X' (compG G sc.names) → PG X' tg g) (ht : ∀ X', GOk X' (compG G sc.names) → QIfs X' ifs tc) (he : ∀ X', GOk X' (compG G sc.names) → QE X' elt de) :
    QE X (.ListComp elt [⟨tg, iter, ifs, 0⟩] sc pos) (dComp (compSrc G sc.names) wi g tc de) := by
  intro Ex m
  exact pe_comp hc (comp_sc O hk) (hi Ex m) (fun fp C s H => hg _ (comp_ok O hk fp C s H)) (fun fp C s H => ht _ (comp_ok O hk fp C s H)) (fun fp C s H => he _ (comp_ok O hk fp C s H) _ meets_no) (fun x => noSet_ok hs X.env x)

def okSt (G : Sg) (x : Str) : Bool := (G.sc.lookup x == some .local) || (G.top && (G.sc.lookup x == some .cell))
def wG : Nat → Sg → Expr → DG
  | 0, _, _ => gNo
  | n + 1, G, e => match e with
    | .Name x _ => match slotF G.N x 0 with
      | some i => if okSt G x = true then gdN i else gNo
      | none => gNo
    | .Tuple ts _ _ => if G.calm = true ∧ ts.all noStar = true then gdT G.K ts.length (ts.map (wG n G)) else gNo
    | _ => gNo
theorem okSt_ok (O : GOk X G) {x : Str} (h : okSt G x = true) : Loc X.env.scope x ∧ (X.fn x = true ∨ X.env.scope.names.lookup x = some .local) := by
  unfold okSt at h
  rw [Bool.or_eq_true, Bool.and_eq_true] at h
  rcases h with h | ⟨h1, h2⟩
  · have : X.env.scope.names.lookup x = some .local := by rw [O.sc]; exact eq_of_beq h
    exact ⟨.inl this, .inr this⟩
  · have : X.env.scope.names.lookup x = some .cell := by rw [O.sc]; exact eq_of_beq h2
    exact ⟨.inr this, .inl (O.top h1 x)⟩
theorem assignEach_cons {e : Expr} (h : noStar e = true) (es : List Expr) (env : Env) : assignEach (e :: es) env = (false, assign e env) :: assignEach es env := by
  cases e with
  | Starred _ _ => cases h
  | _ => rfl
theorem assignEach_len {es : List Expr} (h : es.all noStar = true) (env : Env) : (assignEach es env).length = es.length ∧ (assignEach es env).findIdx? (·.1) = none := by
  induction es with
  | nil => exact ⟨rfl, rfl⟩
  | cons e es ih =>
    rw [List.all_cons, Bool.and_eq_true] at h
    obtain ⟨h1, h2⟩ := ih h.2
    rw [assignEach_cons h.1]
    refine ⟨by rw [List.length_cons, List.length_cons, h1], ?_⟩
    rw [List.findIdx?_cons, h2]
    rfl
theorem wG_ok : ∀ (n : Nat) (X : Cx) (G : Sg), GOk X G → ∀ e, PG X e (wG n G e)
  | 0, _, _, _, _ => pg_no
  | n + 1, X, G, O, e => by
    cases e with
    | Name x p =>
      unfold wG
      dsimp only
      split
      · rename_i i e
        split
        · rename_i h
          obtain ⟨h1, h2⟩ := okSt_ok O h
          exact pg_name (by rw [O.N]; exact O.nd) (by rw [O.N]; exact slot_get e) h1 h2
        · exact pg_no
      · exact pg_no
    | Tuple ts k p =>
      unfold wG
      dsimp only
      split
      · rename_i h
        obtain ⟨h1, h2⟩ := h
        obtain ⟨h3, h4⟩ := assignEach_len h2 X.env
        rw [← O.K]
        refine pg_T (O.calm ▸ h1) ?_ h3 h4
        clear h3 h4
        induction ts with
        | nil => exact pgs_N
        | cons t ts ih =>
          rw [List.all_cons, Bool.and_eq_true] at h2
          refine pgs_C (wG_ok n X G O t) (ih h2.2) ?_
          rw [assignEach_cons h2.1]
          rfl
      · exact pg_no
    | _ => exact pg_no
end
end L2

set_option maxRecDepth 100000
set_option maxHeartbeats 4000000
namespace L2
open PySem PySem.Spec PyProof.Rows

def boolV (K : PySem.W.Frag) (op : BoolOp) : List DE → DE
  | [] => dNo
  | [a] => a
  | a :: r => match op with
    | .And => dAndV K a (boolV K op r)
    | .Or => dOrV K a (boolV K op r)
def boolT (op : BoolOp) : List DT → DT
  | [] => fun _ _ _ _ => False
  | [a] => a
  | a :: r => match op with
    | .And => dAnd a (boolT op r)
    | .Or => dOr a (boolT op r)
def argsD : List DE → DA
  | [] => dNil
  | a :: r => dCons a (argsD r)
def tNo : DT := fun _ _ _ _ => False
def wCmp (G : Sg) (ops : List CmpOp) (bs : List Expr) (a : DE) (ds : List DE) : DE := match ops, bs, ds with
  | [op], [b], [d] => if behindInMarks op b = false then dBin (rCmp G.K op) a d else dNo
  | [op, op'], [b, c], [d, d'] => if lastMarks [op, op'] [b, c] = false then dChain (rCmp G.K op) (rCmp G.K op') a d d' else dNo
  | _, _, _ => dNo
/-- f(..): the def's promise with the defaults that fill up, or a built-in -/
def wCall (G : Sg) (x : Str) (es : List Expr) (ds : List DE) : DE :=
  if isGl G x = true ∧ (slotF G.N x 0) = none ∧ es.all noStar = true then (match G.gb.lookup x with
    | some (.fn i) => if es.length ≤ i.ps.length ∧ i.ps.length ≤ es.length + i.dfs.length then dFn (spE i.sp (i.dfs.drop (es.length + i.dfs.length - i.ps.length))) (argsD ds) else dNo
    | some (.exc C oi) => (match oi with
      | none => if es.isEmpty = true then dFn (mkX C none 0) (argsD ds) else dFn (fun vs H Q E => vs.length ≤ 1000 ∧ mkX C none 0 vs H Q E) (argsD ds)
      | some i => if es.length + 1 ≤ i.ps.length ∧ i.ps.length ≤ es.length + 1 + i.dfs.length then (if es.isEmpty = true then dFn (mkX C (some i) (es.length + 1 + i.dfs.length - i.ps.length)) (argsD ds)
        else dFn (fun vs H Q E => vs.length ≤ 1000 ∧ mkX C (some i) (es.length + 1 + i.dfs.length - i.ps.length) vs H Q E) (argsD ds)) else dNo)
    | some _ => dNo
    | none => if G.bl.contains x = true then (match bltR G.K G.calm x with
      | some (_, r) => if es.isEmpty = true then dNo else dFn (fun vs H Q _ => r vs H Q) (argsD ds)
      | none => dNo) else dNo) else dNo
def wMeth (G : Sg) (o : Expr) (m : Str) (es : List Expr) (ap cp : Pos) (d : DE) (ds : List DE) : DE :=
  if noSuper o = true ∧ es.all noStar = true ∧ es.length < 30 ∧ (ap.endLine == cp.line) = true then dMt (rMt G.K (mtR G.K m)) d (argsD ds) else dNo
mutual
def wE : Nat → Sg → Expr → DE
  | 0, _, _ => dNo
  | n + 1, G, e => match e with
    | .Constant c _ _ => wConst c
    | .Name x _ => wName G x
    | .BinOp a op b _ => dBin (rOp G.K op) (wE n G a) (wE n G b)
    | .UnaryOp .USub a _ => dUn rNegD (wE n G a)
    | .UnaryOp .Not a _ => dNotV G.K (wE n G a)
    | .BoolOp op es _ => boolV G.K op (es.map (wE n G))
    | .Compare a ops bs _ => wCmp G ops bs (wE n G a) (bs.map (wE n G))
    | .IfExp t a b _ => dIfE (wT n G t) (wE n G a) (wE n G b)
    | .List es _ => if es.all noStar = true then dLst (argsD (es.map (wE n G))) else dNo
    | .Tuple es _ _ => if es.all noStar = true then dTup (argsD (es.map (wE n G))) else dNo
    | .Subscript a (.Slice lo hi none _) _ => dSl G.K (wE n G a) (match lo with | none => dPartN | some l => dPart (wE n G l)) (match hi with | none => dPartN | some h => dPart (wE n G h))
    | .Subscript a b _ => if noSlice b = true then dBin (rIxD G.K) (wE n G a) (wE n G b) else dNo
    | .Attribute o f _ => if noSuper o = true then dUn (rGetD G.K f) (wE n G o) else dNo
    | .Call (.Name x _) es [] _ => wCall G x es (es.map (wE n G))
    | .Call (.Attribute o m ap) es [] cp => wMeth G o m es ap cp (wE n G o) (es.map (wE n G))
    | .ListComp elt [⟨tg, iter, ifs, 0⟩] sc _ => if G.calm = true ∧ compOk G sc = true ∧ noSet iter = true then
        dComp (compSrc G sc.names) (wI n G tg iter) (wG n (compG G sc.names) tg) (match ifs with | [] => dYes | [c] => wT n (compG G sc.names) c | _ => tNo) (wE n (compG G sc.names) elt) else dNo
    | _ => dNo
def wT : Nat → Sg → Expr → DT
  | 0, _, _ => tNo
  | n + 1, G, e => match e with
    | .UnaryOp .Not a _ => dNot (wT n G a)
    | .BoolOp op es _ => boolT op (es.map (wT n G))
    | .Compare a ops bs _ => dTst (wCmp G ops bs (wE n G a) (bs.map (wE n G)))
    | .IfExp _ _ _ _ => tNo
    | e => dTru G.K (wE n G e)
def wI : Nat → Sg → Expr → Expr → DI
  | 0, _, _, _ => iNo
  | n + 1, G, tg, e => match e with
    | .Call (.Name x _) (a :: es) [] _ =>
      if x = "range" ∧ isGl G x = true ∧ G.gb.lookup x = none ∧ G.bl.contains x = true ∧ (a :: es).all noStar = true then iRng (argsD ((a :: es).map (wE n G)))
      else if x = "zip" ∧ isGl G x = true ∧ G.gb.lookup x = none ∧ G.bl.contains x = true ∧ (a :: es).all noStar = true then (match tg with
        | .Tuple _ _ _ => iZp G.K (argsD ((a :: es).map (wE n G)))
        | _ => iNo)
      else if x = "enumerate" ∧ isGl G x = true ∧ G.gb.lookup x = none ∧ G.bl.contains x = true ∧ (a :: es).all noStar = true then (match tg with
        | .Tuple _ _ _ => iEn G.K (argsD ((a :: es).map (wE n G)))
        | _ => iNo)
      else iVal G.K (wE n G e)
    | e => iVal G.K (wE n G e)
end
theorem qt_no {X : Cx} {e : Expr} : QT X e tNo := fun _ _ _ _ _ _ _ _ h => h.elim
theorem qa_args {X : Cx} {w : Expr → DE} (h : ∀ e, QE X e (w e)) : ∀ {es : List Expr}, es.all noStar = true → QA X es (argsD (es.map w))
  | [], _ => qa_nil
  | e :: es, hs => by
    rw [List.all_cons, Bool.and_eq_true] at hs
    exact qa_cons (h e) (qa_args h hs.2) hs.1
theorem qe_bool {X : Cx} {w : Expr → DE} {op : BoolOp} {pos : Pos} (h : ∀ e, QE X e (w e)) : ∀ {es : List Expr}, QE X (.BoolOp op es pos) (boolV X.K op (es.map w))
  | [] => qe_no
  | [e] => qe_one (h e)
  | e :: e' :: es => by
    cases op with
    | And => exact qe_and (h e) (qe_bool h)
    | Or => exact qe_or (h e) (qe_bool h)
theorem qw_bool {X : Cx} {w : Expr → DT} {op : BoolOp} {pos : Pos} (h : ∀ e, QT X e (w e)) : ∀ {es : List Expr}, QW X (.BoolOp op es pos) (boolT op (es.map w))
  | [] => fun _ _ _ _ _ _ _ _ _ h => h.elim
  | [e] => by
    cases op with
    | And => exact qw_and1 (h e)
    | Or => exact qw_or1 (h e)
  | e :: e' :: es => by
    cases op with
    | And => exact qw_and (h e) (qw_bool h)
    | Or => exact qw_or (h e) (qw_bool h)
section
variable {X : Cx} {G : Sg}
theorem GOk.u0 (O : GOk X G) : X.A.units < cLine := by have := O.units; omega
theorem qe_cmpW (O : GOk X G) {w : Expr → DE} (h : ∀ e, QE X e (w e)) (a : Expr) (ops : List CmpOp) (bs : List Expr) (pos : Pos) : QE X (.Compare a ops bs pos) (wCmp G ops bs (w a) (bs.map w)) := by
  unfold wCmp
  rw [← O.K]
  split
  · rename_i op b d e
    have : d = w b := by simpa using e.symm
    subst this
    split
    · exact qe_cmp O.u0 op (h a) (h b) ‹_›
    · exact qe_no
  · rename_i op op' b c d d' e
    have : w b = d ∧ w c = d' := by simpa using e
    obtain ⟨rfl, rfl⟩ := this
    split
    · exact qe_chain O.u0 op op' (h a) (h b) (h c) ‹_›
    · exact qe_no
  · exact qe_no
theorem qt_cmpW (O : GOk X G) {w : Expr → DE} (h : ∀ e, QE X e (w e)) (a : Expr) (ops : List CmpOp) (bs : List Expr) (pos : Pos) : QT X (.Compare a ops bs pos) (dTst (wCmp G ops bs (w a) (bs.map w))) := by
  unfold wCmp
  rw [← O.K]
  split
  · rename_i op b d e
    have : d = w b := by simpa using e.symm
    subst this
    split
    · exact qt_cmp O.u0 op (h a) (h b) ‹_›
    · exact fun _ _ _ _ _ _ _ _ h => h.elim
  · rename_i op op' b c d d' e
    have : w b = d ∧ w c = d' := by simpa using e
    obtain ⟨rfl, rfl⟩ := this
    split
    · exact qt_chain O.u0 op op' (h a) (h b) (h c) ‹_›
    · exact fun _ _ _ _ _ _ _ _ h => h.elim
  · exact fun _ _ _ _ _ _ _ _ h => h.elim
theorem qe_callW (O : GOk X G) {w : Expr → DE} (h : ∀ e, QE X e (w e)) (x : Str) (es : List Expr) (p pos : Pos) : QE X (.Call (.Name x p) es [] pos) (wCall G x es (es.map w)) := by
  unfold wCall
  split
  · rename_i hh
    obtain ⟨hg, _, hs⟩ := hh
    have dd := isGl_d hg
    split
    · rename_i i e
      obtain ⟨hm, F⟩ := O.fn x i e
      split
      · rename_i hl
        cases es with
        | nil => exact qe_call0 F (by have := hl.1; omega) (O.gl hg) hm dd.1
        | cons e es => exact qe_call F (by have := hl.1; omega) (O.gl hg) hm (qa_args h hs) hs dd.1
      · exact qe_no
    · rename_i C oi e
      obtain ⟨hm, kp, c, hi⟩ := O.exc x C oi e
      split
      · cases es with
        | nil => exact qe_mkX0 (j := 0) c hi (fun i z => nomatch z) kp (O.gl hg) hm dd.1
        | cons e es => exact qe_mkX (j := 0) c hi (fun i z => nomatch z) kp (O.gl hg) hm (qa_args h hs) hs dd.1
      · rename_i i
        split
        · rename_i hl
          cases es with
          | nil => exact qe_mkX0 c hi (fun i z => by cases z; have := hl.1; omega) kp (O.gl hg) hm dd.1
          | cons e es => exact qe_mkX c hi (fun i z => by cases z; have := hl.1; omega) kp (O.gl hg) hm (qa_args h hs) hs dd.1
        · exact qe_no
    · exact qe_no
    · rename_i e
      split
      · rename_i hb
        split
        · rename_i f r er
          split
          · exact qe_no
          · rename_i hne
            cases es with
            | nil => exact absurd rfl hne
            | cons e es =>
              rw [← O.K] at er
              obtain ⟨b1, b2⟩ := bltR_ok er O.calm
              exact qe_blt b2 (O.gl hg) (O.bl x hb) b1 (qa_args h hs) hs dd.2.2 dd.1
        · exact qe_no
      · exact qe_no
  · exact qe_no
theorem qe_methW (O : GOk X G) {w : Expr → DE} (h : ∀ e, QE X e (w e)) (o : Expr) (m : Str) (es : List Expr) (ap cp : Pos) : QE X (.Call (.Attribute o m ap) es [] cp) (wMeth G o m es ap cp (w o) (es.map w)) := by
  unfold wMeth
  rw [← O.K]
  split
  · rename_i hh
    obtain ⟨h1, h2, h3, h4⟩ := hh
    cases es with
    | nil => exact qe_mt0 (fun b hb => mtR_ok hb) (h o) h1 h4
    | cons e es => exact qe_mt (fun b hb => mtR_ok hb) (h o) (qa_args h h2) h1 h2 h3 h4
  · exact qe_no
end
theorem w_ok : ∀ (n : Nat) (X : Cx) (G : Sg), GOk X G → (∀ e, QE X e (wE n G e)) ∧ (∀ e, QT X e (wT n G e)) ∧ (∀ tg e, QI X tg e (wI n G tg e)) := by
  intro n
  induction n with
  | zero =>
    intro X G O
    refine ⟨fun e => ?_, fun e => ?_, fun tg e => ?_⟩
    · unfold wE; exact qe_no
    · unfold wT; exact qt_no
    · unfold wI; exact qi_no
  | succ n ih =>
    intro X G O
    obtain ⟨hE, hT, hI⟩ := ih X G O
    have hv : ∀ tg e, QI X tg e (iVal G.K (wE n G e)) := fun tg e => by rw [← O.K]; exact qi_val (hE e)
    refine ⟨fun e => ?_, fun e => ?_, fun tg e => ?_⟩
    · unfold wE
      split
      · exact qe_const _ _ _
      · exact qe_name O _ _
      · rw [← O.K]; exact qe_bin _ (hE _) (hE _)
      · exact qe_neg (hE _)
      · rw [← O.K]; exact qe_not (hE _)
      · rw [← O.K]; exact qe_bool hE
      · exact qe_cmpW O hE _ _ _ _
      · exact qe_if (hT _) (hE _) (hE _)
      · split
        · exact qe_lst (qa_args hE ‹_›)
        · exact qe_no
      · split
        · exact qe_tup (qa_args hE ‹_›)
        · exact qe_no
      · rw [← O.K]
        refine qe_slice (hE _) ?_ ?_
        · split
          · exact qo_none
          · exact qo_some (hE _)
        · split
          · exact qo_none
          · exact qo_some (hE _)
      · split
        · rw [← O.K]; exact qe_ix (hE _) (hE _) ‹_›
        · exact qe_no
      · split
        · rw [← O.K]; exact qe_attr (hE _) (noSuper_ok ‹_› _ X.env _)
        · exact qe_no
      · exact qe_callW O hE _ _ _ _
      · exact qe_methW O hE _ _ _ _ _
      · split
        · rename_i hh
          obtain ⟨h1, h2, h3⟩ := hh
          refine qe_comp O (O.calm ▸ h1) h2 h3 (hI _ _) (fun X' O' => wG_ok n X' _ O' _) (fun X' O' => ?_) (fun X' O' => (ih X' _ O').1 _)
          split
          · exact qifs_nil
          · exact qifs_one ((ih X' _ O').2.1 _)
          · exact fun _ _ _ _ _ _ h => h.elim
        · exact qe_no
      · exact qe_no
    · unfold wT
      split
      · exact qt_not (hT _)
      · exact fun Ex m => PW.pt (qw_bool hT Ex m)
      · exact qt_cmpW O hE _ _ _ _
      · exact qt_no
      · rename_i h1 h2 h3 h4
        rw [← O.K]
        refine qt_tru (hE _) ?_
        cases e with
        | UnaryOp op a p => cases op <;> first | rfl | exact absurd rfl (h1 _ _)
        | BoolOp op es p => exact absurd rfl (h2 _ _ _)
        | Compare a b c p => exact absurd rfl (h3 _ _ _ _)
        | IfExp a b c p => exact absurd rfl (h4 _ _ _ _)
        | _ => rfl
    · unfold wI
      split
      · split
        · rename_i hh
          obtain ⟨rfl, h1, _, h2, h3⟩ := hh
          exact qi_range (O.gl h1) (O.bl _ h2) (qa_args hE h3) h3
        · split
          · rename_i hh
            obtain ⟨rfl, h1, _, h2, h3⟩ := hh
            split
            · rw [← O.K]; exact qi_zip (O.gl h1) (O.bl _ h2) (qa_args hE h3) h3
            · exact qi_no
          · split
            · rename_i hh
              obtain ⟨rfl, h1, _, h2, h3⟩ := hh
              split
              · rw [← O.K]; exact qi_enum (O.gl h1) (O.bl _ h2) (qa_args hE h3) h3
              · exact qi_no
            · exact hv _ _
      · exact hv _ _
end L2

set_option maxRecDepth 100000
set_option maxHeartbeats 4000000
namespace L2
open PySem PySem.Spec PyProof.Rows

def noComp : Expr → Bool
  | .ListComp _ _ _ _ => false
  | .SetComp _ _ _ _ => false
  | .DictComp _ _ _ _ _ => false
  | _ => true
theorem noComp_ok {e : Expr} (h : noComp e = true) (t : Option Expr) (l : Nat) (env : Env) : swapsWith e t l env = pure false := by
  cases e with
  | ListComp _ _ _ _ => cases h
  | SetComp _ _ _ _ => cases h
  | DictComp _ _ _ _ _ => cases h
  | _ => rfl
section
variable {X : Cx} {G : Sg} {st : Stmt} {rest : List Stmt} {t u : DS} {e : Expr} {de : DE} {pos p' : Pos}
theorem qs_never : QS X st dNever := fun _ _ _ _ _ _ _ _ h => h.elim
theorem qss_nil : QSs X [] dNext := fun _ _ => pss_nil
theorem qss_cons (h1 : QS X st t) (h2 : QSs X rest u) : QSs X (st :: rest) (dSeq t u) := fun Ex m => pss_cons (h1 Ex m) (h2 Ex m)
theorem qs_pass : QS X (.Pass pos) dNext := fun _ _ => ps_pass
theorem qs_brk : QS X (.Break pos) dBrk := fun _ _ => ps_break
theorem qs_cnt : QS X (.Continue pos) dCnt := fun _ _ => ps_continue
theorem qs_ret (h : QE X e de) : QS X (.Return (some e) pos) (dRet de) := fun Ex m => ps_ret (h Ex m)
theorem qs_retN : QS X (.Return none pos) dRetN := fun _ _ => ps_retN
theorem qs_expr (h : QE X e de) (hn : noComp e = true) : QS X (.Expr e pos) (dDrop de) := fun Ex m => ps_expr (h Ex m) (noComp_ok hn _ _ _)
theorem qs_if {c : Expr} {a b : List Stmt} {tc : DT} (hc : QT X c tc) (ha : QSs X a t) (hb : QSs X b u) : QS X (.If c a b pos) (dIf tc t u) := fun Ex m => ps_if (hc Ex m) (ha Ex m) (hb Ex m)
theorem qs_set {i : Nat} {x : Str} (O : GOk X G) (hi : slotF G.N x 0 = some i) (hx : okSt G x = true) (h : QE X e de) (hn : swapsWith e (some (.Name x p')) pos.line X.env = pure false) : QS X (.Assign [.Name x p'] e pos) (dSet i de) := by
  obtain ⟨h1, h2⟩ := okSt_ok O hx
  exact fun Ex m => ps_set (by rw [O.N]; exact O.nd) (by rw [O.N]; exact slot_get hi) h1 (h Ex m) hn h2
variable {tg iter elt : Expr} {ifs : List Expr} {sc : Scope} {wi : DI} {g : DG} {tc : DT}
theorem qs_setComp {i : Nat} {x : Str} {cp : Pos} (O : GOk X G) (hi : slotF G.N x 0 = some i) (hx : okSt G x = true) (hc : X.calm = true) (hk : compOk G sc = true) (hs : noSet iter = true) (hq : QI X tg iter wi) (hg : ∀ X', GOk X' (compG G sc.names) → PG X' tg g)
    (ht : ∀ X', GOk X' (compG G sc.names) → QIfs X' ifs tc) (he : ∀ X', GOk X' (compG G sc.names) → QE X' elt de) :
    QS X (.Assign [.Name x p'] (.ListComp elt [⟨tg, iter, ifs, 0⟩] sc cp) pos) (dSet i (dComp (compSrc G sc.names) wi g tc de)) := by
  obtain ⟨h1, h2⟩ := okSt_ok O hx
  have sw : swapsWith (.ListComp elt [⟨tg, iter, ifs, 0⟩] sc cp) (some (.Name x p')) pos.line X.env = pure (X.env.blockKind == .function && X.env.kindOf x == some .local && p'.line == (Expr.ListComp elt [⟨tg, iter, ifs, 0⟩] sc cp).pos.line
      && !(sc.names.any fun (n, k) => n == x && (k == .local || k == .cell))) := rfl
  cases hb : (X.env.blockKind == .function && X.env.kindOf x == some .local && p'.line == (Expr.ListComp elt [⟨tg, iter, ifs, 0⟩] sc cp).pos.line
      && !(sc.names.any fun (n, k) => n == x && (k == .local || k == .cell))) with
  | false =>
    rw [hb] at sw
    exact qs_set O hi hx (qe_comp O hc hk hs hq hg ht he) sw
  | true =>
    rw [hb] at sw
    simp only [Bool.and_eq_true] at hb
    have hl : X.env.scope.names.lookup x = some .local := eq_of_beq hb.1.1.2
    intro Ex m
    exact ps_setComp hc (by rw [O.N]; exact O.nd) (by rw [O.N]; exact slot_get hi) hl (comp_sc O hk) (hq Ex m) (fun fp C s H => hg _ (comp_ok O hk fp C s H)) (fun fp C s H => ht _ (comp_ok O hk fp C s H)) (fun fp C s H => he _ (comp_ok O hk fp C s H) _ meets_no) sw (fun x => noSet_ok hs X.env x)
theorem qs_for {body : List Stmt} (O : GOk X G) (hc : X.calm = true) (hi : QI X tg iter wi) (hg : PG X tg g) (hb : QSs X body t) (hs : noSet iter = true) : QS X (.For tg iter body [] pos) (dFor wi g t) :=
  fun Ex m => ps_for O.own hc (hi Ex m) hg (hb Ex m) (fun x => noSet_ok hs X.env x)
theorem qs_while {c : Expr} {body : List Stmt} (O : GOk X G) (hc : QT X c tc) (hb : QSs X body t) : QS X (.While c body [] pos) (dWhile tc t) := fun Ex m => ps_while O.own (hc Ex m) (hb Ex m)
/-- raise e -/
def dRaise (K : PySem.W.Frag) (e : DE) : DS := fun D σ H => e σ H (rRaise K (D.ex σ)) (D.ex σ)
theorem qs_raise (O : GOk X G) (hc : X.A.handled = none) (h : QE X e de) : QS X (.Raise (some e) none pos) (dRaise X.K de) := fun Ex m => ps_raise m hc (h Ex m)
/-- o.f = e -/
def dFld (K : PySem.W.Frag) (f : Str) (o e : DE) : DS := fun D σ H => e σ H (fun y H1 => o σ H1 (fun x H2 => rSetD K f x y H2 (D.nx σ)) (D.ex σ)) (D.ex σ)
theorem qs_fld {o : Expr} {f : Str} {do' : DE} (ho : QE X o do') (h : QE X e de) (hn : noComp e = true) : QS X (.Assign [.Attribute o f p'] e pos) (dFld X.K f do' de) := by
  intro Ex m pins s σ H D I hw
  refine plainObj_wpAny_Assign_Attribute (thn (h Ex m pins s σ H _ I hw) fun u s1 ⟨y, H1, I1, ry, q⟩ => thn (ho Ex m pins s1 σ H1 _ I1 q) fun ov s2 ⟨x, H2, I2, rx, q2⟩ => ?_) (noComp_ok hn _ _ _)
  exact set_D I2 rx ry q2 fun H' s' I' hN => ⟨σ, H', I', hN⟩
end
mutual
def wS : Nat → Sg → Stmt → DS
  | 0, _, _ => dNever
  | n + 1, G, st => match st with
    | .Pass _ => dNext
    | .Break _ => dBrk
    | .Continue _ => dCnt
    | .Return (some e) _ => dRet (wE n G e)
    | .Return none _ => dRetN
    | .Expr e _ => if noComp e = true then dDrop (wE n G e) else dNever
    | .If c a b _ => dIf (wT n G c) (wSs n G a) (wSs n G b)
    | .Assign [.Name x _] (.ListComp elt [⟨tg, iter, ifs, 0⟩] sc _) _ => match slotF G.N x 0 with
      | some i => if okSt G x = true ∧ G.calm = true ∧ compOk G sc = true ∧ noSet iter = true then
          dSet i (dComp (compSrc G sc.names) (wI n G tg iter) (wG n (compG G sc.names) tg) (match ifs with | [] => dYes | [c] => wT n (compG G sc.names) c | _ => tNo) (wE n (compG G sc.names) elt)) else dNever
      | none => dNever
    | .Assign [.Name x _] e _ => match slotF G.N x 0 with
      | some i => if okSt G x = true ∧ noComp e = true then dSet i (wE n G e) else dNever
      | none => dNever
    | .Assign [.Attribute o f _] e _ => if noComp e = true then dFld G.K f (wE n G o) (wE n G e) else dNever
    | .Raise (some e) none _ => if G.calm = true then dRaise G.K (wE n G e) else dNever
    | .For tg iter body [] _ => if G.calm = true ∧ noSet iter = true then dFor (wI n G tg iter) (wG n G tg) (wSs n G body) else dNever
    | .While c body [] _ => dWhile (wT n G c) (wSs n G body)
    | _ => dNever
def wSs : Nat → Sg → List Stmt → DS
  | 0, _, _ => dNever
  | _ + 1, _, [] => dNext
  | n + 1, G, s :: r => dSeq (wS n G s) (wSs n G r)
end
theorem ws_ok : ∀ (n : Nat) (X : Cx) (G : Sg), GOk X G → (∀ s, QS X s (wS n G s)) ∧ (∀ ss, QSs X ss (wSs n G ss)) := by
  intro n
  induction n with
  | zero =>
    intro X G O
    refine ⟨fun s => ?_, fun s => ?_⟩
    · unfold wS; exact qs_never
    · unfold wSs; exact fun _ _ _ _ _ _ _ _ h => h.elim
  | succ n ih =>
    intro X G O
    obtain ⟨hS, hSs⟩ := ih X G O
    obtain ⟨hE, hT, hI⟩ := w_ok n X G O
    refine ⟨fun s => ?_, fun s => ?_⟩
    · unfold wS
      split
      · exact qs_pass
      · exact qs_brk
      · exact qs_cnt
      · exact qs_ret (hE _)
      · exact qs_retN
      · split
        · exact qs_expr (hE _) ‹_›
        · exact qs_never
      · exact qs_if (hT _) (hSs _) (hSs _)
      · split
        · rename_i i e
          split
          · rename_i hh
            obtain ⟨h1, h2, h3, h4⟩ := hh
            refine qs_setComp O e h1 (O.calm ▸ h2) h3 h4 (hI _ _) (fun X' O' => wG_ok n X' _ O' _) (fun X' O' => ?_) (fun X' O' => (w_ok n X' _ O').1 _)
            split
            · exact qifs_nil
            · exact qifs_one ((w_ok n X' _ O').2.1 _)
            · exact fun _ _ _ _ _ _ h => h.elim
          · exact qs_never
        · exact qs_never
      · split
        · rename_i i e
          split
          · rename_i hh
            exact qs_set O e hh.1 (hE _) (noComp_ok hh.2 _ _ _)
          · exact qs_never
        · exact qs_never
      · split
        · rw [← O.K]; exact qs_fld (hE _) (hE _) ‹_›
        · exact qs_never
      · split
        · rename_i hcm
          rw [← O.K]; exact qs_raise O (O.hd (O.calm ▸ hcm)) (hE _)
        · exact qs_never
      · split
        · rename_i hh
          exact qs_for O (O.calm ▸ hh.1) (hI _ _) (wG_ok n X G O _) (hSs _) hh.2
        · exact qs_never
      · exact qs_while O (hT _) (hSs _)
      · exact qs_never
    · cases s with
      | nil => unfold wSs; exact qss_nil
      | cons a r => unfold wSs; exact qss_cons (hS a) (hSs r)
end L2

set_option maxRecDepth 100000
set_option maxHeartbeats 4000000
namespace L2
open PySem PySem.Spec PyProof.Rows
section
variable {P : Program} {w : World} {K : PySem.W.Frag} {mg : Str → Option Value} {base : Heap}
/-- what the table says is so -/
structure FnIn (P : Program) (w : World) (K : PySem.W.Frag) (mg : Str → Option Value) (base : Heap) (k : Nat) (x : Str) (i : FI) : Prop where
  at_ : mg x = some (.ref i.f)
  kp : PySem.W.keepIn K (.ref i.f) = true
  ok : ∃ CX, (∀ X' : Cx, X'.prog = P → X'.w = w → PassX CX X') ∧ FnOk P w K mg base CX i.k i.f i.fd i.ps i.sp
  le : i.k ≤ k
  binds : ∀ j, j ≤ i.dfs.length → Binds K i.fd i.ps (i.ds.drop j)
  vals : Vals i.dfs i.ds
/-- a class of exceptions as the table says -/
def InitIn (P : Program) (w : World) (K : PySem.W.Frag) (mg : Str → Option Value) (base : Heap) (k : Nat) (C : Addr) : Option FI → Prop
  | none => PySem.W.findIn K (.ref C) "__init__" = some (some (.builtin "ValueError.__init__"))
  | some i => PySem.W.findIn K (.ref C) "__init__" = some (some (.ref i.f)) ∧ PySem.W.isFn K (.ref i.f) = true ∧ PySem.W.keepIn K (.ref i.f) = true ∧ (∃ CX, (∀ X' : Cx, X'.prog = P → X'.w = w → PassX CX X') ∧ FnOk P w K mg base CX i.k i.f i.fd i.ps i.sp) ∧
      i.k + 1 ≤ k ∧ (∀ j, j ≤ i.dfs.length → Binds K i.fd i.ps (i.ds.drop j)) ∧ Vals i.dfs i.ds
structure ExcIn (P : Program) (w : World) (K : PySem.W.Frag) (mg : Str → Option Value) (base : Heap) (k : Nat) (x : Str) (C : Addr) (oi : Option FI) : Prop where
  at_ : mg x = some (.ref C)
  kp : PySem.W.keepIn K (.ref C) = true
  cls : ECls K C
  init : InitIn P w K mg base k C oi
theorem ExcIn.mono {P : Program} {w : World} {K : PySem.W.Frag} {mg : Str → Option Value} {base : Heap} {k k' : Nat} {x : Str} {C : Addr} {oi : Option FI} (F : ExcIn P w K mg base k x C oi) (h : k ≤ k') : ExcIn P w K mg base k' x C oi := by
  refine ⟨F.at_, F.kp, F.cls, ?_⟩
  cases oi with
  | none => exact F.init
  | some i => obtain ⟨a, b, c, d, e, f⟩ := F.init; exact ⟨a, b, c, d, Nat.le_trans e h, f⟩
structure Tab (P : Program) (w : World) (K : PySem.W.Frag) (mg : Str → Option Value) (base : Heap) (k : Nat) (gb : List (Str × GB)) (bl : List Str) : Prop where
  fn : ∀ x i, (x, GB.fn i) ∈ gb → FnIn P w K mg base k x i
  val : ∀ x v u, (x, GB.val v u) ∈ gb → mg x = some u ∧ RelV v u
  bl : ∀ x ∈ bl, mg x = none
  exc : ∀ x C oi, (x, GB.exc C oi) ∈ gb → ExcIn P w K mg base k x C oi
theorem FnIn.mono {k k' : Nat} {x : Str} {i : FI} (F : FnIn P w K mg base k x i) (h : k ≤ k') : FnIn P w K mg base k' x i := ⟨F.at_, F.kp, F.ok, Nat.le_trans F.le h, F.binds, F.vals⟩
theorem Tab.nil {bl : List Str} (h : ∀ x ∈ bl, mg x = none) : Tab P w K mg base 0 [] bl := ⟨fun _ _ h => (by cases h), fun _ _ _ h => (by cases h), h, fun _ _ _ h => (by cases h)⟩
theorem Tab.mono {k k' : Nat} {gb : List (Str × GB)} {bl : List Str} (T : Tab P w K mg base k gb bl) (h : k ≤ k') : Tab P w K mg base k' gb bl := ⟨fun x i hx => (T.fn x i hx).mono h, T.val, T.bl, fun x C oi hx => (T.exc x C oi hx).mono h⟩
theorem Tab.cons {k : Nat} {gb : List (Str × GB)} {bl : List Str} {x : Str} {i : FI} (T : Tab P w K mg base k gb bl) (F : FnIn P w K mg base k x i) : Tab P w K mg base k ((x, .fn i) :: gb) bl :=
  ⟨fun y j hy => by
    rcases List.mem_cons.mp hy with e | e
    · cases e; exact F
    · exact T.fn y j e, fun y v u hy => by
    rcases List.mem_cons.mp hy with e | e
    · cases e
    · exact T.val y v u e, T.bl, fun y C oi hy => by
    rcases List.mem_cons.mp hy with e | e
    · cases e
    · exact T.exc y C oi e⟩
theorem Tab.consX {k : Nat} {gb : List (Str × GB)} {bl : List Str} {x : Str} {C : Addr} {oi : Option FI} (T : Tab P w K mg base k gb bl) (F : ExcIn P w K mg base k x C oi) : Tab P w K mg base k ((x, .exc C oi) :: gb) bl :=
  ⟨fun y j hy => by
    rcases List.mem_cons.mp hy with e | e
    · cases e
    · exact T.fn y j e, fun y v u hy => by
    rcases List.mem_cons.mp hy with e | e
    · cases e
    · exact T.val y v u e, T.bl, fun y C oi hy => by
    rcases List.mem_cons.mp hy with e | e
    · cases e; exact F
    · exact T.exc y C oi e⟩
theorem Tab.consV {k : Nat} {gb : List (Str × GB)} {bl : List Str} {x : Str} {v : V} {u : Value} (T : Tab P w K mg base k gb bl) (h : mg x = some u) (r : RelV v u) : Tab P w K mg base k ((x, .val v u) :: gb) bl :=
  ⟨fun y j hy => by
    rcases List.mem_cons.mp hy with e | e
    · cases e
    · exact T.fn y j e, fun y v' u' hy => by
    rcases List.mem_cons.mp hy with e | e
    · cases e; exact ⟨h, r⟩
    · exact T.val y v' u' e, T.bl, fun y C oi hy => by
    rcases List.mem_cons.mp hy with e | e
    · cases e
    · exact T.exc y C oi e⟩
theorem pass_CX0 (X : Cx) : PassX CX0 X := fun _ _ _ _ _ _ _ _ _ h => h.elim
def defG (K : PySem.W.Frag) (N : List Str) (sc : Scope) (gb : List (Str × GB)) (bl : List Str) : Sg := ⟨K, N, sc.names, gb, [], bl, true, true⟩
def visOk (N : List Str) (sc : Scope) : Bool := N.all fun x => (sc.names.lookup x == some .local) || (sc.names.lookup x == some .cell)
def endsOf (Q : VK) (E : EK) : Outs := ⟨fun _ H' => Q .non H', Q, fun _ _ => False, fun _ _ => False, fun _ => E⟩
/-- a def or a method, with its defaults -/
structure FunD (K : PySem.W.Frag) (x qual : Str) (st : Stmt) (f : Addr) (fd : FuncData) (dV : Value) : Prop where
  ex : ∃ (oc : Value) (od : Option Addr) (kV doc pm : Value) (an : Option Addr) (cdv ct : Value) (osl : Array (Option Value)),
    fd = PySem.W.fnOf x qual (defArgs st) (defBody st) (defScope st) dV kV doc pm an cdv ct ∧ K.lookup f = some ⟨oc, od, .func fd, osl⟩ ∧ PySem.W.codeIn K cdv qual = true
  kp : PySem.W.keepIn K (.ref f) = true
theorem Fun.toD {x qual : Str} {st : Stmt} {f : Addr} {fd : FuncData} (F : Fun K x qual st f fd) : FunD K x qual st f fd .none := ⟨F.ex, F.kp⟩
theorem funD_mk {x qual : Str} {st : Stmt} {f : Addr} {oc : Value} {od an : Option Addr} {osl : Array (Option Value)} {dV kV doc pm cdv ct : Value} (l : K.lookup f = some ⟨oc, od, .func (PySem.W.fnOf x qual (defArgs st) (defBody st) (defScope st) dV kV doc pm an cdv ct), osl⟩)
    (c : PySem.W.codeIn K cdv qual = true) (k : PySem.W.keepIn K (.ref f) = true) : FunD K x qual st f (PySem.W.fnOf x qual (defArgs st) (defBody st) (defScope st) dV kV doc pm an cdv ct) dV := ⟨⟨oc, od, kV, doc, pm, an, cdv, ct, osl, rfl, l, c⟩, k⟩
theorem FunD.ok {x qual : Str} {st : Stmt} {f : Addr} {fd : FuncData} {dV : Value} {N ps : List Str} {k : Nat} {sp : Sp} (F : FunD K x qual st f fd dV) (S : FnScope N ps (defScope st)) (len : ∀ vs H Q E, sp vs H Q E → vs.length = ps.length)
    (hbody : ∀ (cdv : Value) (A : Around) (outer : List Env) (s : Shared) (H : Hp) (vs : List V) (Q : VK) (E : XK), Room k (A.deeper (envOfC qual (defScope st) s.heap.objs.size f cdv)) → sp vs H Q E →
      ∃ t, PSs (cxOf CX0 P w K mg base N qual (defScope st) f cdv A outer s H E).nox (defBody st) t ∧ t { nx := fun _ H' => Q .non H', rt := Q } (start N vs) H) : FnOk P w K mg base CX0 (k + 1) f fd ps sp := by
  obtain ⟨oc, od, kV, doc, pm, an, cdv, ct, osl, rfl, lk, hcd⟩ := F.ex
  refine fn_of lk hcd S len fun A outer s H vs Q E hr hsp => ?_
  obtain ⟨t, h, q⟩ := hbody cdv A outer s H vs Q E hr hsp
  exact ⟨t, h.nox, q⟩
/-- how arguments bind where some defaults fill up: all given; the last left out -/
theorem binds_dflt {fd : FuncData} {ps : List Str} {T : Addr} {o : Obj} {items : Array Value} {n : Nat} {ds : List Value} (hd : fd.defaults = .ref T) (ho : K.lookup T = some o) (hs : o.data = .seq items n)
    (h : ∀ us : List Value, (us ++ ds).length = ps.length → ∃ k : Option (Array Value) → Sem (List (Str × Value)), bindArgs fd ⟨us, []⟩ = seqItems? fd.defaults >>= k ∧ k (some items) = pure (ps.zip (us ++ ds))) : Binds K fd ps ds := fun s us X hl => by
  obtain ⟨k, h1, h2⟩ := h us hl
  exact PySem.W.binds_K X hd ho hs h1 h2
/-- a def from which no exception leaves -/
theorem FunD.okW0 {x qual : Str} {st : Stmt} {f : Addr} {fd : FuncData} {N ps : List Str} {k n : Nat} {sp : Sp} {gb : List (Str × GB)} {bl : List Str} {t : DS} {dV : Value} (F : FunD K x qual st f fd dV) (S : FnScope N ps (defScope st)) (hv : visOk N (defScope st) = true)
    (T : Tab P w K mg base k gb bl) (rd : wSs n (defG K N (defScope st) gb bl) (defBody st) = t) (len : ∀ vs H Q E, sp vs H Q E → vs.length = ps.length)
    (hbody : ∀ (vs : List V) (H : Hp) (Q : VK) (E : XK), sp vs H Q E → t (endsOf Q fun _ _ => False) (start N vs) H) : FnOk P w K mg base CX0 (k + 1) f fd ps sp := by
  refine F.ok S len fun cdv A outer s H vs Q E hr h => ?_
  have O : GOk (cxOf CX0 P w K mg base N qual (defScope st) f cdv A outer s H E).nox (defG K N (defScope st) gb bl) := by
    refine ⟨rfl, S.kind, PassesOwn.never, rfl, S.nd, fun x => rfl, fun x hx => ?_, fun _ _ => rfl, rfl, (fun _ => hr.hd), hr.units, fun x hx => ?_, fun x i e => ?_, fun x v u e => ?_, fun x hx => ?_, fun x C oi e => ?_⟩
    · have := List.all_eq_true.mp hv x hx
      rw [Bool.or_eq_true] at this
      exact this.elim (fun z => .inl (eq_of_beq z)) fun z => .inr (.inl (eq_of_beq z))
    · rcases hx with hx | hx
      · exact cell_has hx
      · exact absurd rfl (S.nofree _ (PySem.mem_of_lookup hx))
    · have FI := T.fn x i (PySem.mem_of_lookup e)
      exact ⟨FI.at_, FI.kp, FI.ok, hr.mono FI.le, FI.binds, FI.vals⟩
    · exact T.val x v u (PySem.mem_of_lookup e)
    · exact T.bl x (by have hx' : bl.contains x = true := hx; simpa using hx')
    · have EI := T.exc x C oi (PySem.mem_of_lookup e)
      refine ⟨EI.at_, EI.kp, EI.cls, ?_⟩
      cases oi with
      | none => exact EI.init
      | some i => obtain ⟨a, b, c, d, e, f, g⟩ := EI.init; exact ⟨a, b, ⟨c, d, hr.mono (by omega), f, g⟩, hr.mono e⟩
  refine ⟨_, (ws_ok n _ _ O).2 (defBody st) (fun _ _ _ => False) (fun _ _ _ _ _ _ _ h => h.elim), ?_⟩
  rw [rd]
  exact hbody vs H Q E h
end
end L2

set_option maxRecDepth 100000
set_option maxHeartbeats 4000000
namespace L2
open PySem PySem.Spec PyProof.Rows

theorem Same.upd {H : Hp} {a : Addr} {o : HO} (h : H a = none) : Same H (upd H a o) := fun b u e => by rw [upd_ne (ne_of_none e h)]; exact e
theorem Same.set {H H' : Hp} {a : Addr} {o : HO} (s : Same H H') (h : H a = none) : Same H (L2.upd H' a o) := fun b u e => by rw [upd_ne (ne_of_none e h)]; exact s b u e

/-- the iterator gives these items, one a turn -/
structure Yields (J : It) (its : List V) (ok : Hp → Prop) : Prop where
  go : ∀ i H, ok H → i < its.length → J.go i H
  stop : ∀ H, ok H → J.stop its.length H
  yld : ∀ i H x H', ok H → i < its.length → J.yld i H x H' → H' = H ∧ its[i]? = some x
/-- .. these pairs, each a new tuple -/
structure Yields2 (J : It) (its : List (V × V)) (ok : Hp → Prop) : Prop where
  go : ∀ i H, ok H → i < its.length → J.go i H
  stop : ∀ H, ok H → J.stop its.length H
  yld : ∀ i H v H', ok H → i < its.length → J.yld i H v H' → ∃ T x y, H T = none ∧ v = .ref T ∧ its[i]? = some (x, y) ∧ H' = upd H T (.tup [x, y])
def rngV (lo : Int) (n : Nat) : List V := (List.range n).map fun (i : Nat) => V.int (lo + (i : Int))
theorem rngV_len (lo : Int) (n : Nat) : (rngV lo n).length = n := by unfold rngV; simp
theorem rngV_get {lo : Int} {n i : Nat} (h : i < n) : (rngV lo n)[i]? = some (.int (lo + (i : Int))) := by unfold rngV; simp [h]
theorem yl_range (lo : Int) (n : Nat) : Yields (Itr lo n) (rngV lo n) (fun _ => True) := by
  refine ⟨fun i H _ h => ?_, fun H _ => ?_, fun i H x H' _ hi h => ?_⟩
  · rw [rngV_len] at h; exact h
  · show n ≤ (rngV lo n).length; rw [rngV_len]; exact Nat.le_refl _
  · obtain ⟨h1, h2⟩ := h
    rw [rngV_len] at hi
    exact ⟨h1, by rw [rngV_get hi, h2]⟩

def enumV : Nat → List V → List (V × V)
  | _, [] => []
  | k, x :: r => (.int k, x) :: enumV (k + 1) r
theorem enumV_len : ∀ (k : Nat) (xs : List V), (enumV k xs).length = xs.length
  | _, [] => rfl
  | k, _ :: r => by rw [enumV, List.length_cons, List.length_cons, enumV_len (k + 1) r]
theorem enumV_get : ∀ {k i : Nat} {xs : List V} {x : V}, xs[i]? = some x → (enumV k xs)[i]? = some (.int ((k + i : Nat) : Int), x)
  | _, _, [], _, h => by simp at h
  | k, 0, y :: r, x, h => by
    simp only [List.getElem?_cons_zero, Option.some.injEq] at h
    subst h
    rfl
  | k, i + 1, y :: r, x, h => by
    rw [List.getElem?_cons_succ] at h
    rw [enumV, List.getElem?_cons_succ, enumV_get h]
    congr 4
    omega
theorem yl_enum {K : PySem.W.Frag} {a : Addr} (xs : List V) : Yields2 (Ite K a) (enumV 0 xs) (fun H => SqL K H a xs) := by
  have e := enumV_len 0 xs
  refine ⟨fun i H q h => ⟨xs, xs[i]'(by omega), q, by simp⟩, fun H q => ⟨xs, q, by omega⟩, fun i H v H' q _ h => ?_⟩
  obtain ⟨T, x, hT, h1, h2, h4⟩ := h
  refine ⟨T, .int i, x, hT, h1, ?_, h4⟩
  have := enumV_get (k := 0) (h2 xs q)
  rw [Nat.zero_add] at this
  exact this
section
variable {J : It} {its : List V} {ok : Hp → Prop} {g : DG} {tb : DS} {D : Outs} {σ : St} {H : Hp}
/-- a for loop by an invariant over the turns -/
theorem for_by (Y : Yields J its ok) (Pv : Nat → St → Hp → Prop) (h0 : Pv 0 σ H) (hok : ∀ i σ H, i ≤ its.length → Pv i σ H → ok H)
    (hs : ∀ i x σ H, its[i]? = some x → Pv i σ H → g x σ H fun σ2 H2 => tb { D with nx := Pv (i + 1), ct := Pv (i + 1), bk := D.nx } σ2 H2) (hd : ∀ σ H, Pv its.length σ H → D.nx σ H) : ForW J g tb D σ H := by
  refine ⟨fun i m σ H => m = its.length - i ∧ i ≤ its.length ∧ Pv i σ H, ⟨its.length, by simp, Nat.zero_le _, h0⟩, ?_⟩
  rintro i m σ H ⟨rfl, hi, p⟩
  by_cases hlt : i < its.length
  · refine .inr ⟨Y.go i H (hok i σ H hi p) hlt, Pv (i + 1), fun σ' H' p' => ⟨its.length - (i + 1), by omega, rfl, hlt, p'⟩, fun x H' y => ?_⟩
    obtain ⟨e, y2⟩ := Y.yld i H x H' (hok i σ H hi p) hlt y
    subst e
    exact hs i x σ _ y2 p
  · have e : i = its.length := by omega
    subst e
    exact .inl ⟨Y.stop H (hok _ σ H hi p), hd σ H p⟩
theorem for_by2 {its : List (V × V)} (Y : Yields2 J its ok) (Pv : Nat → St → Hp → Prop) (h0 : Pv 0 σ H) (hok : ∀ i σ H, i ≤ its.length → Pv i σ H → ok H)
    (hs : ∀ i x y T σ H, its[i]? = some (x, y) → H T = none → Pv i σ H → g (.ref T) σ (upd H T (.tup [x, y])) fun σ2 H2 => tb { D with nx := Pv (i + 1), ct := Pv (i + 1), bk := D.nx } σ2 H2) (hd : ∀ σ H, Pv its.length σ H → D.nx σ H) : ForW J g tb D σ H := by
  refine ⟨fun i m σ H => m = its.length - i ∧ i ≤ its.length ∧ Pv i σ H, ⟨its.length, by simp, Nat.zero_le _, h0⟩, ?_⟩
  rintro i m σ H ⟨rfl, hi, p⟩
  by_cases hlt : i < its.length
  · refine .inr ⟨Y.go i H (hok i σ H hi p) hlt, Pv (i + 1), fun σ' H' p' => ⟨its.length - (i + 1), by omega, rfl, hlt, p'⟩, fun x H' y => ?_⟩
    obtain ⟨T, u, v, hT, e1, e2, e3⟩ := Y.yld i H x H' (hok i σ H hi p) hlt y
    subst e1 e3
    exact hs i u v T σ _ e2 hT p
  · have e : i = its.length := by omega
    subst e
    exact .inl ⟨Y.stop H (hok _ σ H hi p), hd σ H p⟩
variable {tc : DT} {te : DE} {L : Addr} {R : Hp → Prop}
theorem cmp_by (Y : Yields J its ok) (Pv : Nat → St → Hp → Prop) (h0 : Pv 0 σ H) (hok : ∀ i σ H, i ≤ its.length → Pv i σ H → ok H)
    (hs : ∀ i x σ H, its[i]? = some x → Pv i σ H → g x σ H fun σ3 H3 => tc σ3 H3 (fun b H4 => if b = true then te σ3 H4 (fun v H5 => ∃ ys, H5 L = some (.lst ys) ∧ ys.length < sizeLine ∧ Pv (i + 1) σ3 (upd H5 L (.lst (ys ++ [v])))) (fun _ _ => False) else Pv (i + 1) σ3 H4) (fun _ _ => False))
    (hd : ∀ σ H, Pv its.length σ H → R H) : CmpW J g tc te L R σ H := by
  refine ⟨fun i m σ H => m = its.length - i ∧ i ≤ its.length ∧ Pv i σ H, ⟨its.length, by simp, Nat.zero_le _, h0⟩, ?_⟩
  rintro i m σ H ⟨rfl, hi, p⟩
  by_cases hlt : i < its.length
  · refine .inr ⟨Y.go i H (hok i σ H hi p) hlt, Pv (i + 1), fun σ' H' p' => ⟨its.length - (i + 1), by omega, rfl, hlt, p'⟩, fun x H' y => ?_⟩
    obtain ⟨e, y2⟩ := Y.yld i H x H' (hok i σ H hi p) hlt y
    subst e
    exact hs i x σ _ y2 p
  · have e : i = its.length := by omega
    subst e
    exact .inl ⟨Y.stop H (hok _ σ H hi p), hd σ H p⟩
theorem take_filter_map {α β : Type} {its : List α} {i : Nat} {x : α} (h : its[i]? = some x) (p : α → Bool) (f : α → β) : ((its.take (i + 1)).filter p).map f = ((its.take i).filter p).map f ++ (if p x = true then [f x] else []) := by
  rw [List.take_add_one, h]
  simp only [Option.toList_some, List.filter_append, List.map_append]
  congr 1
  cases e : p x <;> simp [e]
/-- a comprehension whose items are told by f, those with p alone; the heap may grow -/
theorem cmp_map (Y : Yields J its ok) (Sg : St → Prop) (p : V → Bool) (f : V → V) (h0 : H L = none) (hok : ∀ H1, Same H H1 → ok H1) (hn : its.length < sizeLine) (hσ : Sg σ)
    (hs : ∀ x σ H1, x ∈ its → Sg σ → Same H H1 → ∀ (Fin : V → St → Hp → Prop) (Skip : St → Hp → Prop), (∀ v σ3 H5, Sg σ3 → Same H1 H5 → p x = true → v = f x → Fin v σ3 H5) → (∀ σ3 H4, Sg σ3 → Same H1 H4 → p x = false → Skip σ3 H4) →
      g x σ H1 fun σ3 H3 => tc σ3 H3 (fun b H4 => if b = true then te σ3 H4 (fun v H5 => Fin v σ3 H5) (fun _ _ => False) else Skip σ3 H4) (fun _ _ => False))
    (hd : ∀ H', Same H H' → H' L = some (.lst ((its.filter p).map f)) → R H') : CmpW J g tc te L R σ (upd H L (.lst [])) := by
  refine cmp_by Y (fun i σ' H' => Sg σ' ∧ Same H H' ∧ H' L = some (.lst (((its.take i).filter p).map f))) ⟨hσ, Same.upd h0, upd_same⟩ (fun i σ' H' _ q => hok H' q.2.1) ?_ ?_
  · rintro i x σ' H' hx ⟨q1, q2, q3⟩
    have hi : i < its.length := (List.getElem?_eq_some_iff.mp hx).1
    refine hs x σ' H' (List.mem_of_getElem? hx) q1 q2 (fun v σ3 H5 => ∃ ys, H5 L = some (.lst ys) ∧ ys.length < sizeLine ∧ Sg σ3 ∧ Same H (upd H5 L (.lst (ys ++ [v]))) ∧ upd H5 L (.lst (ys ++ [v])) L = some (.lst (((its.take (i + 1)).filter p).map f)))
      (fun σ3 H4 => Sg σ3 ∧ Same H H4 ∧ H4 L = some (.lst (((its.take (i + 1)).filter p).map f))) (fun v σ3 H5 s1 s2 hp hv => ?_) (fun σ3 H4 s1 s2 hp => ?_)
    · refine ⟨_, s2 _ _ q3, ?_, s1, (q2.trans s2).set h0, ?_⟩
      · rw [List.length_map]
        have h1 := List.length_filter_le p (its.take i)
        have h2 : (its.take i).length ≤ i := by rw [List.length_take]; omega
        omega
      · rw [upd_same, take_filter_map hx, if_pos hp, hv]
    · refine ⟨s1, q2.trans s2, ?_⟩
      rw [s2 _ _ q3, take_filter_map hx, if_neg (by rw [hp]; exact Bool.false_ne_true), List.append_nil]
  · rintro σ' H' ⟨_, q2, q3⟩
    rw [List.take_length] at q3
    exact hd H' q2 q3
end
end L2

set_option maxRecDepth 100000
set_option maxHeartbeats 4000000
namespace L2
open PySem PySem.Spec PySem.W
/-- an own class of refusals as the text's top leaves it; bm: its line of ancestors -/
structure XC (K : PySem.W.Frag) (C : Addr) (bm : List Value) : Prop where
  lk : ∃ nm q N bs sn sub ab col dd k0 k1 k2 k3 k5, K.lookup C = some (excClassObj nm q C N bs bm true sn sub ab col dd k0 k1 k2 k3 k5 "ValueError.__new__")
  ty : typeIn K (.ref C) = some (.type "type")
  sa : findIn K (.ref C) "__setattr__" = some (some (.builtin "object.__setattr__"))
  ga : findIn K (.ref C) "__getattribute__" = some (some (.builtin "BaseException.__getattribute__"))
  gt : findIn K (.ref C) "__getattr__" = some none
  ca : findIn K (.ref C) "__class__" = some (some (.builtin "object.__class__"))
  hn : specialIn K (.builtin "object.__class__") "__get__" = some (some (.builtin "getset_descriptor.__get__"))
  htk : takesIn K (.builtin "object.__class__") = some true
theorem xc_mk {K : PySem.W.Frag} {C N : Addr} {bm bs : List Value} {nm q : Str} {sn : List Str} {sub : List Value} {ab : Bool} {col : Option Bool} {dd : Option Addr} {k0 k1 k2 k3 k5 : Option Value}
    (lk : K.lookup C = some (excClassObj nm q C N bs bm true sn sub ab col dd k0 k1 k2 k3 k5 "ValueError.__new__")) (ty : typeIn K (.ref C) = some (.type "type")) (sa : findIn K (.ref C) "__setattr__" = some (some (.builtin "object.__setattr__")))
    (ga : findIn K (.ref C) "__getattribute__" = some (some (.builtin "BaseException.__getattribute__"))) (gt : findIn K (.ref C) "__getattr__" = some none) (ca : findIn K (.ref C) "__class__" = some (some (.builtin "object.__class__")))
    (hn : specialIn K (.builtin "object.__class__") "__get__" = some (some (.builtin "getset_descriptor.__get__"))) (htk : takesIn K (.builtin "object.__class__") = some true) : XC K C bm := ⟨⟨_, _, _, _, _, _, _, _, _, _, _, _, _, _, lk⟩, ty, sa, ga, gt, ca, hn, htk⟩
theorem XC.ecls {K : PySem.W.Frag} {C : Addr} {bm : List Value} (x : XC K C bm) (h : excTail bm = true) : ECls K C := by
  obtain ⟨nm, q, N, bs, sn, sub, ab, col, dd, k0, k1, k2, k3, k5, lk⟩ := x.lk
  exact ⟨⟨_, _, _, _, bm, true, _, _, _, _, _, _, _, _, _, _, lk, h, rfl⟩, x.sa, x.ga, x.gt, x.ca, x.hn, x.htk⟩
theorem XC.cls {K : PySem.W.Frag} {C : Addr} {bm : List Value} (x : XC K C bm) : ∃ cd, clsIn K C = some cd ∧ cd.mro = .ref C :: bm := by
  obtain ⟨nm, q, N, bs, sn, sub, ab, col, dd, k0, k1, k2, k3, k5, lk⟩ := x.lk
  exact ⟨_, by unfold clsIn; rw [lk], rfl⟩
theorem XC.kit {K : PySem.W.Frag} {C D : Addr} {bm bd : List Value} (x : XC K C bm) (y : XC K D bd) {b : Bool} (h : (Value.ref C :: bm).contains (.ref D) = b) : kitOne K (.ref C) (.ref D) = some b := by
  obtain ⟨cd, h1, h2⟩ := x.cls
  obtain ⟨cd', h3, _⟩ := y.cls
  unfold kitOne
  by_cases e : (Value.ref C == Value.ref D) = true
  · rw [if_pos e]
    have e' : Value.ref D = Value.ref C := (eq_of_beq e).symm
    rw [← h, List.contains_cons, e']
    simp
  · rw [if_neg e]
    unfold kitCls
    dsimp only
    rw [h3, y.ty, if_pos (by rfl)]
    show mroIn K C (.ref D) = _
    unfold mroIn
    rw [h1, Option.bind_some, h2, h]
    rfl
theorem XC.kitV {K : PySem.W.Frag} {C : Addr} {bm : List Value} (x : XC K C bm) (h : excTail bm = true) : kitOne K (.ref C) (.type "ValueError") = some true := by
  unfold kitOne
  rw [if_neg (by intro z; cases z)]
  unfold kitCls
  dsimp only
  rw [if_pos (by decide +kernel)]
  exact (x.ecls h).sub (by decide +kernel)
theorem binds_dfltN {K : PySem.W.Frag} {fd : FuncData} {ps : List Str} {T : Addr} {o : Obj} {items : Array Value} {n : Nat} {ds : List Value} (m : Nat) (hd : fd.defaults = .ref T) (ho : K.lookup T = some o) (hs : o.data = .seq items n) (hm : m + ds.length = ps.length)
    (h : ∀ us : List Value, us.length = m → ∃ k : Option (Array Value) → Sem (List (Str × Value)), bindArgs fd ⟨us, []⟩ = seqItems? fd.defaults >>= k ∧ k (some items) = pure (ps.zip (us ++ ds))) : Binds K fd ps ds :=
  binds_dflt hd ho hs fun us hl => h us (by rw [List.length_append] at hl; omega)
end L2

section
open PySem PySem.W PyProof.Rows
set_option maxRecDepth 100000
set_option maxHeartbeats 0
def PySem.W.Fast.tw3346368783384654016 : Unit := ()
def PySem.W.Fast.tw8031641968592768833 : Unit := ()
def PySem.W.Fast.tw7096913931561627715 : Unit := ()
def PySem.W.Fast.tw759138761440354819 : Unit := ()
def PySem.W.Fast.tw17840610244647133158 : Unit := ()
def PySem.W.Fast.tw15532466009223439143 : Unit := ()
def PySem.W.Fast.tw2070804300608724967 : Unit := ()
def PySem.W.Fast.tw10035412655512223208 : Unit := ()
def PySem.W.Fast.tw5876328128064220908 : Unit := ()
def PySem.W.Fast.tw3198711923005396812 : Unit := ()
def PySem.W.Fast.tw9507589666033609773 : Unit := ()
def PySem.W.Fast.tw16217304403167128429 : Unit := ()
def PySem.W.Fast.tw14396352423026844590 : Unit := ()
def PySem.W.Fast.tw11278127437867940879 : Unit := ()
def PySem.W.Fast.tw4926964939172085711 : Unit := ()
def PySem.W.Fast.tw8169131888163250258 : Unit := ()
def PySem.W.Fast.tw6034689372212443507 : Unit := ()
def PySem.W.Fast.tw11116321078512777236 : Unit := ()
def PySem.W.Fast.tw4669572194627880180 : Unit := ()
def PySem.W.Fast.tw11887883985248071158 : Unit := ()
def PySem.W.Fast.tw1723734086576067158 : Unit := ()
def PySem.W.Fast.tw5599892974286286519 : Unit := ()
def PySem.W.Fast.tw16623051627048637978 : Unit := ()
def PySem.W.Fast.tw11696625475728177660 : Unit := ()
def PySem.W.Fast.tw12892873014483162653 : Unit := ()
def PySem.W.Fast.tw9841800277809417085 : Unit := ()
def PySem.W.Fast.tw1494111130195882014 : Unit := ()
open_top head_k06 for PySem.Challenge.rw_manyleaf_k06_refusals_made
end

set_option maxRecDepth 100000
set_option maxHeartbeats 4000000
namespace K06
open PySem L2
structure Adr where
  f_law_cell_at : Addr
  d_law_cell_at : FuncData
  f_law_mix : Addr
  d_law_mix : FuncData
  f_law_first : Addr
  d_law_first : FuncData
  f_law_edits : Addr
  d_law_edits : FuncData
  f_law_good : Addr
  d_law_good : FuncData
  f_law_plain_ones : Addr
  d_law_plain_ones : FuncData
  f_BadPage_init : Addr
  d_BadPage_init : FuncData
  f_Unlike_init : Addr
  d_Unlike_init : FuncData
  f_NoEdit_init : Addr
  d_NoEdit_init : FuncData
  f_NotLive_init : Addr
  d_NotLive_init : FuncData
  f_IsLive_init : Addr
  d_IsLive_init : FuncData
  f_StandsOn_init : Addr
  d_StandsOn_init : FuncData
  f_NoEditor_init : Addr
  d_NoEditor_init : FuncData
  f_law_with_fields : Addr
  d_law_with_fields : FuncData
  f_EditError_init : Addr
  d_EditError_init : FuncData
  f_law_of_edits : Addr
  d_law_of_edits : FuncData
  f_law : Addr
  d_law : FuncData
  dv_EditError_init : Value
  du_EditError_init : List Value
  c_LeafError : Addr
  c_BadPanel : Addr
  c_NoChoice : Addr
  c_BadCond : Addr
  c_BadEdit : Addr
  c_NoRow : Addr
  c_BadPage : Addr
  c_Unlike : Addr
  c_NoEdit : Addr
  c_NotLive : Addr
  c_IsLive : Addr
  c_StandsOn : Addr
  c_NoEditor : Addr
  c_EditError : Addr
  c_NoPart : Addr
  c_Doubled : Addr
  c_Lost : Addr
  c_Ring : Addr
  c_NoHolder : Addr
  c_WrongKind : Addr
  c_Far : Addr
  c_TooLong : Addr
end K06

set_option maxRecDepth 100000
set_option maxHeartbeats 4000000
namespace K06
open PySem L2
def firstC (t : Adr) : List Addr := [t.c_BadPanel, t.c_NoChoice, t.c_BadCond, t.c_BadEdit, t.c_NoRow, t.c_BadPage, t.c_Unlike, t.c_NoEdit, t.c_NotLive, t.c_IsLive, t.c_StandsOn, t.c_NoEditor]
def editC (t : Adr) : List Addr := [t.c_NoPart, t.c_Doubled, t.c_Lost, t.c_Ring, t.c_NoHolder, t.c_WrongKind, t.c_Far, t.c_TooLong]
structure Kd (K : PySem.W.Frag) (t : Adr) (C : Addr) (at_ : Nat) (ed : Bool) : Prop where
  cls : ECls K C
  first : ∀ i D, (firstC t)[i]? = some D → PySem.W.kitOne K (.ref C) (.ref D) = some (decide (i = at_) && !ed)
  edits : ∀ i D, (editC t)[i]? = some D → PySem.W.kitOne K (.ref C) (.ref D) = some (decide (i = at_) && ed)
  edit : PySem.W.kitOne K (.ref C) (.ref t.c_EditError) = some ed
  leaf : PySem.W.kitOne K (.ref C) (.ref t.c_LeafError) = some true
  val : PySem.W.kitOne K (.ref C) (.type "ValueError") = some true
structure Facts (K : PySem.W.Frag) (t : Adr) : Prop where
  kf : ∀ i C, (firstC t)[i]? = some C → Kd K t C i false
  ke : ∀ i C, (editC t)[i]? = some C → Kd K t C i true
  kb : Kd K t t.c_EditError 99 true
  lf : ECls K t.c_LeafError
  lv : PySem.W.kitOne K (.ref t.c_LeafError) (.type "ValueError") = some true
  page1 : NoAttr K t.c_BadPage "line"
  page2 : NoAttr K t.c_BadPage "choice"
  unl1 : NoAttr K t.c_Unlike "part"
  unl2 : NoAttr K t.c_Unlike "one"
  unl3 : NoAttr K t.c_Unlike "other"
  st1 : NoAttr K t.c_StandsOn "number"
  st2 : NoAttr K t.c_StandsOn "choice"
  ned : NoAttr K t.c_NoEditor "editor"
  n1 : NoAttr K t.c_NoEdit "number"
  n2 : NoAttr K t.c_NotLive "number"
  n3 : NoAttr K t.c_IsLive "number"
  ep : ∀ C ∈ t.c_EditError :: editC t, NoAttr K C "part"
  ec : ∀ C ∈ t.c_EditError :: editC t, NoAttr K C "choice"
def first12 (n : Nat) (ed : Bool) : List V := (List.range 12).map fun i => .bl (decide (i = n) && !ed)
def edits8 (n : Nat) (ed : Bool) : List V := (List.range 8).map fun i => .bl (decide (i = n) && ed)
/-- an __init__ that sets the fields, one by one -/
def sp_init (names : List Str) (K : PySem.W.Frag) : Sp := fun vs H Q _ => ∃ (H0 : Hp) (a C : Addr) (xs : List V), vs = .ref a :: xs ∧ xs.length = names.length ∧ H0 a = none ∧ H = upd H0 a (excO a C none) ∧ ECls K C ∧ (∀ f ∈ names, NoAttr K C f) ∧ ∀ H', Same H0 H' → ExcAt H' a C (names.zip xs) → Q .non H'
section

def sp_law_cell_at (K : PySem.W.Frag) (t : Adr) : Sp := fun vs H Q _ => ∃ (a : Addr) (ns : List Int) (k : Nat), vs = [.ref a, .int k] ∧ SqL K H a (ns.map V.int) ∧ ∀ r : Int, Q (.int r) H
def sp_law_mix (K : PySem.W.Frag) (t : Adr) : Sp := fun vs H Q _ => ∃ c k : Int, vs = [.int c, .int k] ∧ 0 ≤ k ∧ k ≤ 1000 ∧ ∀ r H', Same H H' → Q (.int r) H'
def sp_law_first (K : PySem.W.Frag) (t : Adr) : Sp := fun vs H Q _ => ∃ a C fs n ed, vs = [.ref a] ∧ ExcAt H a C fs ∧ Kd K t C n ed ∧ ∀ H' l, Same H H' → H' l = some (.lst (first12 n ed)) → Q (.ref l) H'
def sp_law_edits (K : PySem.W.Frag) (t : Adr) : Sp := fun vs H Q _ => ∃ a C fs n ed, vs = [.ref a] ∧ ExcAt H a C fs ∧ Kd K t C n ed ∧ ∀ H' l, Same H H' → H' l = some (.lst (edits8 n ed)) → Q (.ref l) H'
def sp_law_good (K : PySem.W.Frag) (t : Adr) : Sp := fun vs H Q _ => ∃ a C fs n ed, vs = [.ref a, .int (n : Nat), .bl ed] ∧ ExcAt H a C fs ∧ Kd K t C n ed ∧ ∀ H', Same H H' → Q (.bl true) H'
def sp_law_plain_ones (K : PySem.W.Frag) (t : Adr) : Sp := fun vs H Q _ => vs = [] ∧ ∀ H', Q (.bl true) H'
def sp_BadPage_init (K : PySem.W.Frag) (t : Adr) : Sp := sp_init ["line", "choice"] K
def sp_Unlike_init (K : PySem.W.Frag) (t : Adr) : Sp := sp_init ["part", "one", "other"] K
def sp_NoEdit_init (K : PySem.W.Frag) (t : Adr) : Sp := sp_init ["number"] K
def sp_NotLive_init (K : PySem.W.Frag) (t : Adr) : Sp := sp_init ["number"] K
def sp_IsLive_init (K : PySem.W.Frag) (t : Adr) : Sp := sp_init ["number"] K
def sp_StandsOn_init (K : PySem.W.Frag) (t : Adr) : Sp := sp_init ["number", "choice"] K
def sp_NoEditor_init (K : PySem.W.Frag) (t : Adr) : Sp := sp_init ["editor"] K
def sp_EditError_init (K : PySem.W.Frag) (t : Adr) : Sp := sp_init ["part", "choice"] K
def sp_law_with_fields (K : PySem.W.Frag) (t : Adr) : Sp := fun vs H Q _ => ∃ (x : Str) (i : Int) (o : V), vs = [.str x, .int i, o] ∧ (o = .non ∨ ∃ j : Int, o = .int j) ∧ ∀ H', Same H H' → Q (.bl true) H'
def sp_law_of_edits (K : PySem.W.Frag) (t : Adr) : Sp := fun vs H Q _ => ∃ (x : Str) (i : Int), vs = [.str x, .int i] ∧ ∀ H', Same H H' → Q (.bl true) H'
def sp_law (K : PySem.W.Frag) (t : Adr) : Sp := fun vs H Q _ => ∃ (a : Addr) (ns : List Int), vs = [.ref a] ∧ SqL K H a (ns.map V.int) ∧ ns.length ≤ 63 ∧ ∀ H', Q (.bl true) H'
end
end K06

set_option maxRecDepth 100000
set_option maxHeartbeats 4000000
namespace K06
open PySem L2
def top (i : Nat) : Stmt := PySem.Challenge.pw_manyleaf_k06_refusals_made.main.body.getD i (.Pass ⟨0, 0, 0, 0⟩)
def bl : List Str := ["ValueError", "enumerate", "isinstance", "len", "range"]
section
variable (K : PySem.W.Frag) (t : Adr)
abbrev s_law_cell_at : Stmt := top 24
abbrev N_law_cell_at : List Str := ["_law_script", "_law_k"]
abbrev P_law_cell_at : List Str := ["_law_script", "_law_k"]
def i_law_cell_at : FI := ⟨t.f_law_cell_at, t.d_law_cell_at, P_law_cell_at, 1, sp_law_cell_at K t, [], []⟩
abbrev s_law_mix : Stmt := top 25
abbrev N_law_mix : List Str := ["_law_cell", "_law_k", "_law_left", "_law_number"]
abbrev P_law_mix : List Str := ["_law_cell", "_law_k"]
def i_law_mix : FI := ⟨t.f_law_mix, t.d_law_mix, P_law_mix, 1, sp_law_mix K t, [], []⟩
abbrev s_law_first : Stmt := top 26
abbrev N_law_first : List Str := ["_law_e", "_law_kinds"]
abbrev P_law_first : List Str := ["_law_e"]
def i_law_first : FI := ⟨t.f_law_first, t.d_law_first, P_law_first, 1, sp_law_first K t, [], []⟩
abbrev s_law_edits : Stmt := top 27
abbrev N_law_edits : List Str := ["_law_e", "_law_kinds"]
abbrev P_law_edits : List Str := ["_law_e"]
def i_law_edits : FI := ⟨t.f_law_edits, t.d_law_edits, P_law_edits, 1, sp_law_edits K t, [], []⟩
abbrev s_law_good : Stmt := top 28
abbrev N_law_good : List Str := ["_law_e", "_law_at", "_law_edit", "_law_first_here", "_law_edits_here"]
abbrev P_law_good : List Str := ["_law_e", "_law_at", "_law_edit"]
def i_law_good : FI := ⟨t.f_law_good, t.d_law_good, P_law_good, 2, sp_law_good K t, [], []⟩
abbrev s_law_plain_ones : Stmt := top 29
abbrev N_law_plain_ones : List Str := ["_law_made", "_law_more", "_law_k"]
abbrev P_law_plain_ones : List Str := []
def i_law_plain_ones : FI := ⟨t.f_law_plain_ones, t.d_law_plain_ones, P_law_plain_ones, 3, sp_law_plain_ones K t, [], []⟩
abbrev s_BadPage_init : Stmt := inClass (top 7) 0
abbrev N_BadPage_init : List Str := ["self", "line", "choice"]
abbrev P_BadPage_init : List Str := ["self", "line", "choice"]
def i_BadPage_init : FI := ⟨t.f_BadPage_init, t.d_BadPage_init, P_BadPage_init, 1, sp_BadPage_init K t, [], []⟩
abbrev s_Unlike_init : Stmt := inClass (top 8) 0
abbrev N_Unlike_init : List Str := ["self", "part", "one", "other"]
abbrev P_Unlike_init : List Str := ["self", "part", "one", "other"]
def i_Unlike_init : FI := ⟨t.f_Unlike_init, t.d_Unlike_init, P_Unlike_init, 1, sp_Unlike_init K t, [], []⟩
abbrev s_NoEdit_init : Stmt := inClass (top 9) 0
abbrev N_NoEdit_init : List Str := ["self", "number"]
abbrev P_NoEdit_init : List Str := ["self", "number"]
def i_NoEdit_init : FI := ⟨t.f_NoEdit_init, t.d_NoEdit_init, P_NoEdit_init, 1, sp_NoEdit_init K t, [], []⟩
abbrev s_NotLive_init : Stmt := inClass (top 10) 0
abbrev N_NotLive_init : List Str := ["self", "number"]
abbrev P_NotLive_init : List Str := ["self", "number"]
def i_NotLive_init : FI := ⟨t.f_NotLive_init, t.d_NotLive_init, P_NotLive_init, 1, sp_NotLive_init K t, [], []⟩
abbrev s_IsLive_init : Stmt := inClass (top 11) 0
abbrev N_IsLive_init : List Str := ["self", "number"]
abbrev P_IsLive_init : List Str := ["self", "number"]
def i_IsLive_init : FI := ⟨t.f_IsLive_init, t.d_IsLive_init, P_IsLive_init, 1, sp_IsLive_init K t, [], []⟩
abbrev s_StandsOn_init : Stmt := inClass (top 12) 0
abbrev N_StandsOn_init : List Str := ["self", "number", "choice"]
abbrev P_StandsOn_init : List Str := ["self", "number", "choice"]
def i_StandsOn_init : FI := ⟨t.f_StandsOn_init, t.d_StandsOn_init, P_StandsOn_init, 1, sp_StandsOn_init K t, [], []⟩
abbrev s_NoEditor_init : Stmt := inClass (top 13) 0
abbrev N_NoEditor_init : List Str := ["self", "editor"]
abbrev P_NoEditor_init : List Str := ["self", "editor"]
def i_NoEditor_init : FI := ⟨t.f_NoEditor_init, t.d_NoEditor_init, P_NoEditor_init, 1, sp_NoEditor_init K t, [], []⟩
abbrev s_law_with_fields : Stmt := top 30
abbrev N_law_with_fields : List Str := ["_law_name", "_law_one", "_law_other", "_law_page", "_law_unlike", "_law_stands", "_law_editor", "_law_k", "_law_e"]
abbrev P_law_with_fields : List Str := ["_law_name", "_law_one", "_law_other"]
def i_law_with_fields : FI := ⟨t.f_law_with_fields, t.d_law_with_fields, P_law_with_fields, 3, sp_law_with_fields K t, [], []⟩
abbrev s_EditError_init : Stmt := inClass (top 14) 0
abbrev N_EditError_init : List Str := ["self", "part", "choice"]
abbrev P_EditError_init : List Str := ["self", "part", "choice"]
def i_EditError_init : FI := ⟨t.f_EditError_init, t.d_EditError_init, P_EditError_init, 1, sp_EditError_init K t, [.non], t.du_EditError_init⟩
abbrev s_law_of_edits : Stmt := top 31
abbrev N_law_of_edits : List Str := ["_law_name", "_law_number", "_law_made", "_law_more", "_law_k", "_law_base"]
abbrev P_law_of_edits : List Str := ["_law_name", "_law_number"]
def i_law_of_edits : FI := ⟨t.f_law_of_edits, t.d_law_of_edits, P_law_of_edits, 3, sp_law_of_edits K t, [], []⟩
abbrev s_law : Stmt := top 32
abbrev N_law : List Str := ["_law_script", "_law_k", "_law_cell", "_law_name", "_law_one", "_law_other"]
abbrev P_law : List Str := ["_law_script"]
def gb_0 (K : PySem.W.Frag) (t : Adr) : List (Str × GB) := [("LeafError", .exc t.c_LeafError none), ("BadPanel", .exc t.c_BadPanel none), ("NoChoice", .exc t.c_NoChoice none), ("BadCond", .exc t.c_BadCond none), ("BadEdit", .exc t.c_BadEdit none), ("NoRow", .exc t.c_NoRow none), ("BadPage", .val (.ref t.c_BadPage) (.ref t.c_BadPage)), ("Unlike", .val (.ref t.c_Unlike) (.ref t.c_Unlike)), ("NoEdit", .val (.ref t.c_NoEdit) (.ref t.c_NoEdit)), ("NotLive", .val (.ref t.c_NotLive) (.ref t.c_NotLive)), ("IsLive", .val (.ref t.c_IsLive) (.ref t.c_IsLive)), ("StandsOn", .val (.ref t.c_StandsOn) (.ref t.c_StandsOn)), ("NoEditor", .val (.ref t.c_NoEditor) (.ref t.c_NoEditor)), ("EditError", .val (.ref t.c_EditError) (.ref t.c_EditError)), ("NoPart", .val (.ref t.c_NoPart) (.ref t.c_NoPart)), ("Doubled", .val (.ref t.c_Doubled) (.ref t.c_Doubled)), ("Lost", .val (.ref t.c_Lost) (.ref t.c_Lost)), ("Ring", .val (.ref t.c_Ring) (.ref t.c_Ring)), ("NoHolder", .val (.ref t.c_NoHolder) (.ref t.c_NoHolder)), ("WrongKind", .val (.ref t.c_WrongKind) (.ref t.c_WrongKind)), ("Far", .val (.ref t.c_Far) (.ref t.c_Far)), ("TooLong", .val (.ref t.c_TooLong) (.ref t.c_TooLong))]
def gb_1 : List (Str × GB) := ("_law_cell_at", .fn (i_law_cell_at K t)) :: ("_law_mix", .fn (i_law_mix K t)) :: ("_law_first", .fn (i_law_first K t)) :: ("_law_edits", .fn (i_law_edits K t)) :: gb_0 K t
def gb_2 : List (Str × GB) := ("_law_good", .fn (i_law_good K t)) :: ("BadPage", .exc t.c_BadPage (some (i_BadPage_init K t))) :: ("Unlike", .exc t.c_Unlike (some (i_Unlike_init K t))) :: ("NoEdit", .exc t.c_NoEdit (some (i_NoEdit_init K t))) :: ("NotLive", .exc t.c_NotLive (some (i_NotLive_init K t))) :: ("IsLive", .exc t.c_IsLive (some (i_IsLive_init K t))) :: ("StandsOn", .exc t.c_StandsOn (some (i_StandsOn_init K t))) :: ("NoEditor", .exc t.c_NoEditor (some (i_NoEditor_init K t))) :: ("EditError", .exc t.c_EditError (some (i_EditError_init K t))) :: ("NoPart", .exc t.c_NoPart (some (i_EditError_init K t))) :: ("Doubled", .exc t.c_Doubled (some (i_EditError_init K t))) :: ("Lost", .exc t.c_Lost (some (i_EditError_init K t))) :: ("Ring", .exc t.c_Ring (some (i_EditError_init K t))) :: ("NoHolder", .exc t.c_NoHolder (some (i_EditError_init K t))) :: ("WrongKind", .exc t.c_WrongKind (some (i_EditError_init K t))) :: ("Far", .exc t.c_Far (some (i_EditError_init K t))) :: ("TooLong", .exc t.c_TooLong (some (i_EditError_init K t))) :: gb_1 K t
def gb_3 : List (Str × GB) := ("_law_plain_ones", .fn (i_law_plain_ones K t)) :: ("_law_with_fields", .fn (i_law_with_fields K t)) :: ("_law_of_edits", .fn (i_law_of_edits K t)) :: gb_2 K t
end
def t_law_cell_at (K : PySem.W.Frag) (t : Adr) : DS :=
  (dSeq (dIf (dTst (dBin rLtD (dVar 1) (dFn (fun vs H Q _ => (rLen K) vs H Q) (dCons (dVar 0) dNil)))) (dSeq (dRet (dBin (rIxD K) (dVar 0) (dVar 1)))
    dNext) dNext)
  (dSeq (dRet (dC (.int 0)))
  dNext))
theorem rd_law_cell_at (K : PySem.W.Frag) (t : Adr) : wSs 40 (defG K N_law_cell_at (defScope s_law_cell_at) (gb_0 K t) bl) (defBody s_law_cell_at) = t_law_cell_at K t := by kernel_rfl
theorem sc_law_cell_at : FnScope N_law_cell_at P_law_cell_at (defScope s_law_cell_at) := ⟨rfl, rfl, rfl, by decide +kernel, rfl, by decide +kernel, by decide +kernel⟩
theorem vi_law_cell_at : visOk N_law_cell_at (defScope s_law_cell_at) = true := by decide +kernel
def t_law_mix (K : PySem.W.Frag) (t : Adr) : DS :=
  (dSeq (dSet 2 (dBin rShrD (dVar 0) (dBin (rAddD K) (dBin rMulD (dC (.int 27)) (dVar 1)) (dC (.int 1)))))
  (dSeq (dIf (dAnd (dTst (dBin (rEqD K false) (dBin rModD (dVar 0) (dC (.int 2))) (dC (.int 0)))) (dTst (dBin (rInD K true) (dVar 2) (dTup (dCons (dC (.int 0)) (dCons (dUn rNegD (dC (.int 1))) dNil)))))) (dSeq (dRet (dBin rAndD (dVar 2) (dC (.int 134217727))))
    dNext) dNext)
  (dSeq (dSet 3 (dBin rModD (dBin rMulD (dBin (rAddD K) (dBin rModD (dVar 0) (dC (.int 1000000007))) (dBin rMulD (dC (.int 7919)) (dVar 1))) (dC (.int 48271))) (dC (.int 2147483647))))
  (dSeq (dSet 3 (dBin rModD (dBin rMulD (dVar 3) (dVar 3)) (dC (.int 2147483629))))
  (dSeq (dRet (dBin rModD (dBin rMulD (dVar 3) (dBin (rAddD K) (dVar 3) (dC (.int 3)))) (dC (.int 2147483587))))
  dNext)))))
theorem rd_law_mix (K : PySem.W.Frag) (t : Adr) : wSs 40 (defG K N_law_mix (defScope s_law_mix) (gb_0 K t) bl) (defBody s_law_mix) = t_law_mix K t := by kernel_rfl
theorem sc_law_mix : FnScope N_law_mix P_law_mix (defScope s_law_mix) := ⟨rfl, rfl, rfl, by decide +kernel, rfl, by decide +kernel, by decide +kernel⟩
theorem vi_law_mix : visOk N_law_mix (defScope s_law_mix) = true := by decide +kernel
def t_law_first (K : PySem.W.Frag) (t : Adr) : DS :=
  (dSeq (dSet 1 (dLst (dCons (dFn (fun vs H Q _ => (rIsi K) vs H Q) (dCons (dVar 0) (dCons (dC (.ref t.c_BadPanel)) dNil))) (dCons (dFn (fun vs H Q _ => (rIsi K) vs H Q) (dCons (dVar 0) (dCons (dC (.ref t.c_NoChoice)) dNil))) (dCons (dFn (fun vs H Q _ => (rIsi K) vs H Q) (dCons (dVar 0) (dCons (dC (.ref t.c_BadCond)) dNil))) (dCons (dFn (fun vs H Q _ => (rIsi K) vs H Q) (dCons (dVar 0) (dCons (dC (.ref t.c_BadEdit)) dNil))) dNil))))))
  (dSeq (dSet 1 (dBin (rAddD K) (dVar 1) (dLst (dCons (dFn (fun vs H Q _ => (rIsi K) vs H Q) (dCons (dVar 0) (dCons (dC (.ref t.c_NoRow)) dNil))) (dCons (dFn (fun vs H Q _ => (rIsi K) vs H Q) (dCons (dVar 0) (dCons (dC (.ref t.c_BadPage)) dNil))) (dCons (dFn (fun vs H Q _ => (rIsi K) vs H Q) (dCons (dVar 0) (dCons (dC (.ref t.c_Unlike)) dNil))) (dCons (dFn (fun vs H Q _ => (rIsi K) vs H Q) (dCons (dVar 0) (dCons (dC (.ref t.c_NoEdit)) dNil))) dNil)))))))
  (dSeq (dSet 1 (dBin (rAddD K) (dVar 1) (dLst (dCons (dFn (fun vs H Q _ => (rIsi K) vs H Q) (dCons (dVar 0) (dCons (dC (.ref t.c_NotLive)) dNil))) (dCons (dFn (fun vs H Q _ => (rIsi K) vs H Q) (dCons (dVar 0) (dCons (dC (.ref t.c_IsLive)) dNil))) (dCons (dFn (fun vs H Q _ => (rIsi K) vs H Q) (dCons (dVar 0) (dCons (dC (.ref t.c_StandsOn)) dNil))) (dCons (dFn (fun vs H Q _ => (rIsi K) vs H Q) (dCons (dVar 0) (dCons (dC (.ref t.c_NoEditor)) dNil))) dNil)))))))
  (dSeq (dRet (dVar 1))
  dNext))))
theorem rd_law_first (K : PySem.W.Frag) (t : Adr) : wSs 40 (defG K N_law_first (defScope s_law_first) (gb_0 K t) bl) (defBody s_law_first) = t_law_first K t := by kernel_rfl
theorem sc_law_first : FnScope N_law_first P_law_first (defScope s_law_first) := ⟨rfl, rfl, rfl, by decide +kernel, rfl, by decide +kernel, by decide +kernel⟩
theorem vi_law_first : visOk N_law_first (defScope s_law_first) = true := by decide +kernel
def t_law_edits (K : PySem.W.Frag) (t : Adr) : DS :=
  (dSeq (dSet 1 (dLst (dCons (dFn (fun vs H Q _ => (rIsi K) vs H Q) (dCons (dVar 0) (dCons (dC (.ref t.c_NoPart)) dNil))) (dCons (dFn (fun vs H Q _ => (rIsi K) vs H Q) (dCons (dVar 0) (dCons (dC (.ref t.c_Doubled)) dNil))) (dCons (dFn (fun vs H Q _ => (rIsi K) vs H Q) (dCons (dVar 0) (dCons (dC (.ref t.c_Lost)) dNil))) (dCons (dFn (fun vs H Q _ => (rIsi K) vs H Q) (dCons (dVar 0) (dCons (dC (.ref t.c_Ring)) dNil))) dNil))))))
  (dSeq (dSet 1 (dBin (rAddD K) (dVar 1) (dLst (dCons (dFn (fun vs H Q _ => (rIsi K) vs H Q) (dCons (dVar 0) (dCons (dC (.ref t.c_NoHolder)) dNil))) (dCons (dFn (fun vs H Q _ => (rIsi K) vs H Q) (dCons (dVar 0) (dCons (dC (.ref t.c_WrongKind)) dNil))) (dCons (dFn (fun vs H Q _ => (rIsi K) vs H Q) (dCons (dVar 0) (dCons (dC (.ref t.c_Far)) dNil))) (dCons (dFn (fun vs H Q _ => (rIsi K) vs H Q) (dCons (dVar 0) (dCons (dC (.ref t.c_TooLong)) dNil))) dNil)))))))
  (dSeq (dRet (dVar 1))
  dNext)))
theorem rd_law_edits (K : PySem.W.Frag) (t : Adr) : wSs 40 (defG K N_law_edits (defScope s_law_edits) (gb_0 K t) bl) (defBody s_law_edits) = t_law_edits K t := by kernel_rfl
theorem sc_law_edits : FnScope N_law_edits P_law_edits (defScope s_law_edits) := ⟨rfl, rfl, rfl, by decide +kernel, rfl, by decide +kernel, by decide +kernel⟩
theorem vi_law_edits : visOk N_law_edits (defScope s_law_edits) = true := by decide +kernel
def t_law_good (K : PySem.W.Frag) (t : Adr) : DS :=
  (dSeq (dSet 3 (dComp [none, some 1, some 2] (iRng (dCons (dC (.int 12)) dNil)) (gdN 0) dYes (dAndV K (dBin (rEqD K false) (dVar 0) (dVar 1)) (dNotV K (dVar 2)))))
  (dSeq (dSet 4 (dComp [none, some 1, some 2] (iRng (dCons (dC (.int 8)) dNil)) (gdN 0) dYes (dAndV K (dBin (rEqD K false) (dVar 0) (dVar 1)) (dVar 2))))
  (dSeq (dIf (dOr (dTst (dBin (rEqD K true) (dFn (spE (sp_law_first K t) []) (dCons (dVar 0) dNil)) (dVar 3))) (dOr (dTst (dBin (rEqD K true) (dFn (spE (sp_law_edits K t) []) (dCons (dVar 0) dNil)) (dVar 4))) (dTst (dBin (rEqD K true) (dFn (fun vs H Q _ => (rIsi K) vs H Q) (dCons (dVar 0) (dCons (dC (.ref t.c_EditError)) dNil))) (dVar 2))))) (dSeq (dRet (dC (.bl false)))
    dNext) dNext)
  (dSeq (dRet (dAndV K (dFn (fun vs H Q _ => (rIsi K) vs H Q) (dCons (dVar 0) (dCons (dC (.ref t.c_LeafError)) dNil))) (dFn (fun vs H Q _ => (rIsi K) vs H Q) (dCons (dVar 0) (dCons (dC (.ty "ValueError")) dNil)))))
  dNext))))
theorem rd_law_good (K : PySem.W.Frag) (t : Adr) : wSs 40 (defG K N_law_good (defScope s_law_good) (gb_1 K t) bl) (defBody s_law_good) = t_law_good K t := by kernel_rfl
theorem sc_law_good : FnScope N_law_good P_law_good (defScope s_law_good) := ⟨rfl, rfl, rfl, by decide +kernel, rfl, by decide +kernel, by decide +kernel⟩
theorem vi_law_good : visOk N_law_good (defScope s_law_good) = true := by decide +kernel
def t_law_plain_ones (K : PySem.W.Frag) (t : Adr) : DS :=
  (dSeq (dSet 0 (dLst (dCons (dFn (mkX t.c_BadPanel none 0) dNil) (dCons (dFn (mkX t.c_NoChoice none 0) dNil) (dCons (dFn (mkX t.c_BadCond none 0) dNil) (dCons (dFn (mkX t.c_BadEdit none 0) dNil) (dCons (dFn (mkX t.c_NoRow none 0) dNil) dNil)))))))
  (dSeq (dSet 1 (dLst (dCons (dFn (fun vs H Q E => vs.length ≤ 1000 ∧ mkX t.c_BadPanel none 0 vs H Q E) (dCons (dC (.str "a")) dNil)) (dCons (dFn (fun vs H Q E => vs.length ≤ 1000 ∧ mkX t.c_NoChoice none 0 vs H Q E) (dCons (dC (.str "a")) dNil)) (dCons (dFn (fun vs H Q E => vs.length ≤ 1000 ∧ mkX t.c_BadCond none 0 vs H Q E) (dCons (dC (.str "a")) dNil)) (dCons (dFn (fun vs H Q E => vs.length ≤ 1000 ∧ mkX t.c_BadEdit none 0 vs H Q E) (dCons (dC (.str "a")) dNil)) (dCons (dFn (fun vs H Q E => vs.length ≤ 1000 ∧ mkX t.c_NoRow none 0 vs H Q E) (dCons (dC (.str "a")) dNil)) dNil)))))))
  (dSeq (dFor (iRng (dCons (dC (.int 5)) dNil)) (gdN 2) (dSeq (dIf (dOr (dNot (dTru K (dFn (spE (sp_law_good K t) []) (dCons (dBin (rIxD K) (dVar 0) (dVar 2)) (dCons (dVar 2) (dCons (dC (.bl false)) dNil)))))) (dNot (dTru K (dFn (spE (sp_law_good K t) []) (dCons (dBin (rIxD K) (dVar 1) (dVar 2)) (dCons (dVar 2) (dCons (dC (.bl false)) dNil))))))) (dSeq (dRet (dC (.bl false)))
      dNext) dNext)
    dNext))
  (dSeq (dRet (dFn (fun vs H Q _ => (rIsi K) vs H Q) (dCons (dFn (fun vs H Q E => vs.length ≤ 1000 ∧ mkX t.c_LeafError none 0 vs H Q E) (dCons (dC (.str "a")) dNil)) (dCons (dC (.ty "ValueError")) dNil))))
  dNext))))
theorem rd_law_plain_ones (K : PySem.W.Frag) (t : Adr) : wSs 40 (defG K N_law_plain_ones (defScope s_law_plain_ones) (gb_2 K t) bl) (defBody s_law_plain_ones) = t_law_plain_ones K t := by kernel_rfl
theorem sc_law_plain_ones : FnScope N_law_plain_ones P_law_plain_ones (defScope s_law_plain_ones) := ⟨rfl, rfl, rfl, by decide +kernel, rfl, by decide +kernel, by decide +kernel⟩
theorem vi_law_plain_ones : visOk N_law_plain_ones (defScope s_law_plain_ones) = true := by decide +kernel
def t_BadPage_init (K : PySem.W.Frag) (t : Adr) : DS :=
  (dSeq (dFld K "line" (dVar 0) (dVar 1))
  (dSeq (dFld K "choice" (dVar 0) (dVar 2))
  dNext))
theorem rd_BadPage_init (K : PySem.W.Frag) (t : Adr) : wSs 40 (defG K N_BadPage_init (defScope s_BadPage_init) (gb_0 K t) bl) (defBody s_BadPage_init) = t_BadPage_init K t := by kernel_rfl
theorem sc_BadPage_init : FnScope N_BadPage_init P_BadPage_init (defScope s_BadPage_init) := ⟨rfl, rfl, rfl, by decide +kernel, rfl, by decide +kernel, by decide +kernel⟩
theorem vi_BadPage_init : visOk N_BadPage_init (defScope s_BadPage_init) = true := by decide +kernel
def t_Unlike_init (K : PySem.W.Frag) (t : Adr) : DS :=
  (dSeq (dFld K "part" (dVar 0) (dVar 1))
  (dSeq (dFld K "one" (dVar 0) (dVar 2))
  (dSeq (dFld K "other" (dVar 0) (dVar 3))
  dNext)))
theorem rd_Unlike_init (K : PySem.W.Frag) (t : Adr) : wSs 40 (defG K N_Unlike_init (defScope s_Unlike_init) (gb_0 K t) bl) (defBody s_Unlike_init) = t_Unlike_init K t := by kernel_rfl
theorem sc_Unlike_init : FnScope N_Unlike_init P_Unlike_init (defScope s_Unlike_init) := ⟨rfl, rfl, rfl, by decide +kernel, rfl, by decide +kernel, by decide +kernel⟩
theorem vi_Unlike_init : visOk N_Unlike_init (defScope s_Unlike_init) = true := by decide +kernel
def t_NoEdit_init (K : PySem.W.Frag) (t : Adr) : DS :=
  (dSeq (dFld K "number" (dVar 0) (dVar 1))
  dNext)
theorem rd_NoEdit_init (K : PySem.W.Frag) (t : Adr) : wSs 40 (defG K N_NoEdit_init (defScope s_NoEdit_init) (gb_0 K t) bl) (defBody s_NoEdit_init) = t_NoEdit_init K t := by kernel_rfl
theorem sc_NoEdit_init : FnScope N_NoEdit_init P_NoEdit_init (defScope s_NoEdit_init) := ⟨rfl, rfl, rfl, by decide +kernel, rfl, by decide +kernel, by decide +kernel⟩
theorem vi_NoEdit_init : visOk N_NoEdit_init (defScope s_NoEdit_init) = true := by decide +kernel
def t_NotLive_init (K : PySem.W.Frag) (t : Adr) : DS :=
  (dSeq (dFld K "number" (dVar 0) (dVar 1))
  dNext)
theorem rd_NotLive_init (K : PySem.W.Frag) (t : Adr) : wSs 40 (defG K N_NotLive_init (defScope s_NotLive_init) (gb_0 K t) bl) (defBody s_NotLive_init) = t_NotLive_init K t := by kernel_rfl
theorem sc_NotLive_init : FnScope N_NotLive_init P_NotLive_init (defScope s_NotLive_init) := ⟨rfl, rfl, rfl, by decide +kernel, rfl, by decide +kernel, by decide +kernel⟩
theorem vi_NotLive_init : visOk N_NotLive_init (defScope s_NotLive_init) = true := by decide +kernel
def t_IsLive_init (K : PySem.W.Frag) (t : Adr) : DS :=
  (dSeq (dFld K "number" (dVar 0) (dVar 1))
  dNext)
theorem rd_IsLive_init (K : PySem.W.Frag) (t : Adr) : wSs 40 (defG K N_IsLive_init (defScope s_IsLive_init) (gb_0 K t) bl) (defBody s_IsLive_init) = t_IsLive_init K t := by kernel_rfl
theorem sc_IsLive_init : FnScope N_IsLive_init P_IsLive_init (defScope s_IsLive_init) := ⟨rfl, rfl, rfl, by decide +kernel, rfl, by decide +kernel, by decide +kernel⟩
theorem vi_IsLive_init : visOk N_IsLive_init (defScope s_IsLive_init) = true := by decide +kernel
def t_StandsOn_init (K : PySem.W.Frag) (t : Adr) : DS :=
  (dSeq (dFld K "number" (dVar 0) (dVar 1))
  (dSeq (dFld K "choice" (dVar 0) (dVar 2))
  dNext))
theorem rd_StandsOn_init (K : PySem.W.Frag) (t : Adr) : wSs 40 (defG K N_StandsOn_init (defScope s_StandsOn_init) (gb_0 K t) bl) (defBody s_StandsOn_init) = t_StandsOn_init K t := by kernel_rfl
theorem sc_StandsOn_init : FnScope N_StandsOn_init P_StandsOn_init (defScope s_StandsOn_init) := ⟨rfl, rfl, rfl, by decide +kernel, rfl, by decide +kernel, by decide +kernel⟩
theorem vi_StandsOn_init : visOk N_StandsOn_init (defScope s_StandsOn_init) = true := by decide +kernel
def t_NoEditor_init (K : PySem.W.Frag) (t : Adr) : DS :=
  (dSeq (dFld K "editor" (dVar 0) (dVar 1))
  dNext)
theorem rd_NoEditor_init (K : PySem.W.Frag) (t : Adr) : wSs 40 (defG K N_NoEditor_init (defScope s_NoEditor_init) (gb_0 K t) bl) (defBody s_NoEditor_init) = t_NoEditor_init K t := by kernel_rfl
theorem sc_NoEditor_init : FnScope N_NoEditor_init P_NoEditor_init (defScope s_NoEditor_init) := ⟨rfl, rfl, rfl, by decide +kernel, rfl, by decide +kernel, by decide +kernel⟩
theorem vi_NoEditor_init : visOk N_NoEditor_init (defScope s_NoEditor_init) = true := by decide +kernel
def t_law_with_fields (K : PySem.W.Frag) (t : Adr) : DS :=
  (dSeq (dSet 3 (dFn (fun vs H Q E => vs.length ≤ 1000 ∧ mkX t.c_BadPage (some (i_BadPage_init K t)) 0 vs H Q E) (dCons (dVar 1) (dCons (dVar 2) dNil))))
  (dSeq (dSet 4 (dFn (fun vs H Q E => vs.length ≤ 1000 ∧ mkX t.c_Unlike (some (i_Unlike_init K t)) 0 vs H Q E) (dCons (dVar 0) (dCons (dVar 1) (dCons (dVar 2) dNil)))))
  (dSeq (dSet 5 (dFn (fun vs H Q E => vs.length ≤ 1000 ∧ mkX t.c_StandsOn (some (i_StandsOn_init K t)) 0 vs H Q E) (dCons (dVar 1) (dCons (dVar 2) dNil))))
  (dSeq (dSet 6 (dFn (fun vs H Q E => vs.length ≤ 1000 ∧ mkX t.c_NoEditor (some (i_NoEditor_init K t)) 0 vs H Q E) (dCons (dVar 0) dNil)))
  (dSeq (dIf (dTst (dBin (rEqD K true) (dLst (dCons (dUn (rGetD K "line") (dVar 3)) (dCons (dUn (rGetD K "choice") (dVar 3)) (dCons (dUn (rGetD K "number") (dVar 5)) (dCons (dUn (rGetD K "choice") (dVar 5)) (dCons (dUn (rGetD K "editor") (dVar 6)) dNil)))))) (dLst (dCons (dVar 1) (dCons (dVar 2) (dCons (dVar 1) (dCons (dVar 2) (dCons (dVar 0) dNil)))))))) (dSeq (dRet (dC (.bl false)))
    dNext) dNext)
  (dSeq (dIf (dTst (dBin (rEqD K true) (dLst (dCons (dUn (rGetD K "part") (dVar 4)) (dCons (dUn (rGetD K "one") (dVar 4)) (dCons (dUn (rGetD K "other") (dVar 4)) dNil)))) (dLst (dCons (dVar 0) (dCons (dVar 1) (dCons (dVar 2) dNil)))))) (dSeq (dRet (dC (.bl false)))
    dNext) dNext)
  (dSeq (dIf (dOr (dNot (dTru K (dFn (spE (sp_law_good K t) []) (dCons (dVar 3) (dCons (dC (.int 5)) (dCons (dC (.bl false)) dNil)))))) (dOr (dNot (dTru K (dFn (spE (sp_law_good K t) []) (dCons (dVar 4) (dCons (dC (.int 6)) (dCons (dC (.bl false)) dNil)))))) (dNot (dTru K (dFn (spE (sp_law_good K t) []) (dCons (dVar 5) (dCons (dC (.int 10)) (dCons (dC (.bl false)) dNil)))))))) (dSeq (dRet (dC (.bl false)))
    dNext) dNext)
  (dSeq (dFor (iEn K (dCons (dLst (dCons (dFn (fun vs H Q E => vs.length ≤ 1000 ∧ mkX t.c_NoEdit (some (i_NoEdit_init K t)) 0 vs H Q E) (dCons (dVar 1) dNil)) (dCons (dFn (fun vs H Q E => vs.length ≤ 1000 ∧ mkX t.c_NotLive (some (i_NotLive_init K t)) 0 vs H Q E) (dCons (dVar 1) dNil)) (dCons (dFn (fun vs H Q E => vs.length ≤ 1000 ∧ mkX t.c_IsLive (some (i_IsLive_init K t)) 0 vs H Q E) (dCons (dVar 1) dNil)) dNil)))) dNil)) (gdT K 2 [(gdN 7), (gdN 8)]) (dSeq (dIf (dOr (dTst (dBin (rEqD K true) (dUn (rGetD K "number") (dVar 8)) (dVar 1))) (dNot (dTru K (dFn (spE (sp_law_good K t) []) (dCons (dVar 8) (dCons (dBin (rAddD K) (dC (.int 7)) (dVar 7)) (dCons (dC (.bl false)) dNil))))))) (dSeq (dRet (dC (.bl false)))
      dNext) dNext)
    dNext))
  (dSeq (dRet (dFn (spE (sp_law_good K t) []) (dCons (dVar 6) (dCons (dC (.int 11)) (dCons (dC (.bl false)) dNil)))))
  dNext)))))))))
theorem rd_law_with_fields (K : PySem.W.Frag) (t : Adr) : wSs 40 (defG K N_law_with_fields (defScope s_law_with_fields) (gb_2 K t) bl) (defBody s_law_with_fields) = t_law_with_fields K t := by kernel_rfl
theorem sc_law_with_fields : FnScope N_law_with_fields P_law_with_fields (defScope s_law_with_fields) := ⟨rfl, rfl, rfl, by decide +kernel, rfl, by decide +kernel, by decide +kernel⟩
theorem vi_law_with_fields : visOk N_law_with_fields (defScope s_law_with_fields) = true := by decide +kernel
def t_EditError_init (K : PySem.W.Frag) (t : Adr) : DS :=
  (dSeq (dFld K "part" (dVar 0) (dVar 1))
  (dSeq (dFld K "choice" (dVar 0) (dVar 2))
  dNext))
theorem rd_EditError_init (K : PySem.W.Frag) (t : Adr) : wSs 40 (defG K N_EditError_init (defScope s_EditError_init) (gb_0 K t) bl) (defBody s_EditError_init) = t_EditError_init K t := by kernel_rfl
theorem sc_EditError_init : FnScope N_EditError_init P_EditError_init (defScope s_EditError_init) := ⟨rfl, rfl, rfl, by decide +kernel, rfl, by decide +kernel, by decide +kernel⟩
theorem vi_EditError_init : visOk N_EditError_init (defScope s_EditError_init) = true := by decide +kernel
def t_law_of_edits (K : PySem.W.Frag) (t : Adr) : DS :=
  (dSeq (dSet 2 (dLst (dCons (dFn (fun vs H Q E => vs.length ≤ 1000 ∧ mkX t.c_NoPart (some (i_EditError_init K t)) 1 vs H Q E) (dCons (dVar 0) (dCons (dVar 1) dNil))) (dCons (dFn (fun vs H Q E => vs.length ≤ 1000 ∧ mkX t.c_Doubled (some (i_EditError_init K t)) 1 vs H Q E) (dCons (dVar 0) (dCons (dVar 1) dNil))) (dCons (dFn (fun vs H Q E => vs.length ≤ 1000 ∧ mkX t.c_Lost (some (i_EditError_init K t)) 1 vs H Q E) (dCons (dVar 0) (dCons (dVar 1) dNil))) (dCons (dFn (fun vs H Q E => vs.length ≤ 1000 ∧ mkX t.c_Ring (some (i_EditError_init K t)) 1 vs H Q E) (dCons (dVar 0) (dCons (dVar 1) dNil))) dNil))))))
  (dSeq (dSet 2 (dBin (rAddD K) (dVar 2) (dLst (dCons (dFn (fun vs H Q E => vs.length ≤ 1000 ∧ mkX t.c_NoHolder (some (i_EditError_init K t)) 1 vs H Q E) (dCons (dVar 0) (dCons (dVar 1) dNil))) (dCons (dFn (fun vs H Q E => vs.length ≤ 1000 ∧ mkX t.c_WrongKind (some (i_EditError_init K t)) 1 vs H Q E) (dCons (dVar 0) (dCons (dVar 1) dNil))) (dCons (dFn (fun vs H Q E => vs.length ≤ 1000 ∧ mkX t.c_Far (some (i_EditError_init K t)) 1 vs H Q E) (dCons (dVar 0) (dCons (dVar 1) dNil))) (dCons (dFn (fun vs H Q E => vs.length ≤ 1000 ∧ mkX t.c_TooLong (some (i_EditError_init K t)) 1 vs H Q E) (dCons (dVar 0) (dCons (dVar 1) dNil))) dNil)))))))
  (dSeq (dSet 3 (dLst (dCons (dFn (fun vs H Q E => vs.length ≤ 1000 ∧ mkX t.c_NoPart (some (i_EditError_init K t)) 0 vs H Q E) (dCons (dVar 0) dNil)) (dCons (dFn (fun vs H Q E => vs.length ≤ 1000 ∧ mkX t.c_Doubled (some (i_EditError_init K t)) 0 vs H Q E) (dCons (dVar 0) dNil)) (dCons (dFn (fun vs H Q E => vs.length ≤ 1000 ∧ mkX t.c_Lost (some (i_EditError_init K t)) 0 vs H Q E) (dCons (dVar 0) dNil)) (dCons (dFn (fun vs H Q E => vs.length ≤ 1000 ∧ mkX t.c_Ring (some (i_EditError_init K t)) 0 vs H Q E) (dCons (dVar 0) dNil)) dNil))))))
  (dSeq (dSet 3 (dBin (rAddD K) (dVar 3) (dLst (dCons (dFn (fun vs H Q E => vs.length ≤ 1000 ∧ mkX t.c_NoHolder (some (i_EditError_init K t)) 0 vs H Q E) (dCons (dVar 0) dNil)) (dCons (dFn (fun vs H Q E => vs.length ≤ 1000 ∧ mkX t.c_WrongKind (some (i_EditError_init K t)) 0 vs H Q E) (dCons (dVar 0) dNil)) (dCons (dFn (fun vs H Q E => vs.length ≤ 1000 ∧ mkX t.c_Far (some (i_EditError_init K t)) 0 vs H Q E) (dCons (dVar 0) dNil)) (dCons (dFn (fun vs H Q E => vs.length ≤ 1000 ∧ mkX t.c_TooLong (some (i_EditError_init K t)) 0 vs H Q E) (dCons (dVar 0) dNil)) dNil)))))))
  (dSeq (dFor (iRng (dCons (dC (.int 8)) dNil)) (gdN 4) (dSeq (dIf (dTst (dBin (rEqD K true) (dLst (dCons (dUn (rGetD K "part") (dBin (rIxD K) (dVar 2) (dVar 4))) (dCons (dUn (rGetD K "choice") (dBin (rIxD K) (dVar 2) (dVar 4))) (dCons (dUn (rGetD K "part") (dBin (rIxD K) (dVar 3) (dVar 4))) (dCons (dUn (rGetD K "choice") (dBin (rIxD K) (dVar 3) (dVar 4))) dNil))))) (dLst (dCons (dVar 0) (dCons (dVar 1) (dCons (dVar 0) (dCons (dC .non) dNil))))))) (dSeq (dRet (dC (.bl false)))
      dNext) dNext)
    (dSeq (dIf (dOr (dNot (dTru K (dFn (spE (sp_law_good K t) []) (dCons (dBin (rIxD K) (dVar 2) (dVar 4)) (dCons (dVar 4) (dCons (dC (.bl true)) dNil)))))) (dNot (dTru K (dFn (spE (sp_law_good K t) []) (dCons (dBin (rIxD K) (dVar 3) (dVar 4)) (dCons (dVar 4) (dCons (dC (.bl true)) dNil))))))) (dSeq (dRet (dC (.bl false)))
      dNext) dNext)
    dNext)))
  (dSeq (dSet 5 (dFn (fun vs H Q E => vs.length ≤ 1000 ∧ mkX t.c_EditError (some (i_EditError_init K t)) 1 vs H Q E) (dCons (dVar 0) (dCons (dVar 1) dNil))))
  (dSeq (dIf (dOr (dTst (dBin (rEqD K true) (dUn (rGetD K "part") (dVar 5)) (dVar 0))) (dOr (dTst (dBin (rEqD K true) (dUn (rGetD K "choice") (dVar 5)) (dVar 1))) (dTst (dBin (rIsD true) (dUn (rGetD K "choice") (dFn (fun vs H Q E => vs.length ≤ 1000 ∧ mkX t.c_EditError (some (i_EditError_init K t)) 0 vs H Q E) (dCons (dVar 0) dNil))) (dC .non))))) (dSeq (dRet (dC (.bl false)))
    dNext) dNext)
  (dSeq (dRet (dAndV K (dFn (fun vs H Q _ => (rIsi K) vs H Q) (dCons (dVar 5) (dCons (dC (.ref t.c_LeafError)) dNil))) (dBin (rInD K true) (dC (.bl true)) (dBin (rAddD K) (dFn (spE (sp_law_first K t) []) (dCons (dVar 5) dNil)) (dFn (spE (sp_law_edits K t) []) (dCons (dVar 5) dNil))))))
  dNext))))))))
theorem rd_law_of_edits (K : PySem.W.Frag) (t : Adr) : wSs 40 (defG K N_law_of_edits (defScope s_law_of_edits) (gb_2 K t) bl) (defBody s_law_of_edits) = t_law_of_edits K t := by kernel_rfl
theorem sc_law_of_edits : FnScope N_law_of_edits P_law_of_edits (defScope s_law_of_edits) := ⟨rfl, rfl, rfl, by decide +kernel, rfl, by decide +kernel, by decide +kernel⟩
theorem vi_law_of_edits : visOk N_law_of_edits (defScope s_law_of_edits) = true := by decide +kernel
def t_law (K : PySem.W.Frag) (t : Adr) : DS :=
  (dSeq (dFor (iRng (dCons (dC (.int 4)) dNil)) (gdN 1) (dSeq (dSet 2 (dFn (spE (sp_law_cell_at K t) []) (dCons (dVar 0) (dCons (dVar 1) dNil))))
    (dSeq (dSet 3 (dBin (rIxD K) (dLst (dCons (dC (.str "")) (dCons (dC (.str "a")) (dCons (dC (.str "b.2")) (dCons (dC (.str "abcdefghijkl")) dNil))))) (dBin rModD (dVar 2) (dC (.int 4)))))
    (dSeq (dSet 4 (dBin rModD (dBin rFdivD (dVar 2) (dC (.int 4))) (dC (.int 300))))
    (dSeq (dSet 5 (dBin (rIxD K) (dLst (dCons (dC .non) (dCons (dBin rModD (dFn (spE (sp_law_mix K t) []) (dCons (dVar 2) (dCons (dC (.int 1)) dNil))) (dC (.int 256))) dNil))) (dBin rModD (dBin rFdivD (dVar 2) (dC (.int 1200))) (dC (.int 2)))))
    (dSeq (dIf (dOr (dNot (dTru K (dFn (spE (sp_law_with_fields K t) []) (dCons (dVar 3) (dCons (dVar 4) (dCons (dVar 5) dNil)))))) (dNot (dTru K (dFn (spE (sp_law_of_edits K t) []) (dCons (dVar 3) (dCons (dVar 4) dNil)))))) (dSeq (dRet (dC (.bl false)))
      dNext) dNext)
    dNext))))))
  (dSeq (dRet (dFn (spE (sp_law_plain_ones K t) []) dNil))
  dNext))
theorem rd_law (K : PySem.W.Frag) (t : Adr) : wSs 40 (defG K N_law (defScope s_law) (gb_3 K t) bl) (defBody s_law) = t_law K t := by kernel_rfl
theorem sc_law : FnScope N_law P_law (defScope s_law) := ⟨rfl, rfl, rfl, by decide +kernel, rfl, by decide +kernel, by decide +kernel⟩
theorem vi_law : visOk N_law (defScope s_law) = true := by decide +kernel
end K06

set_option maxRecDepth 100000
set_option maxHeartbeats 4000000
namespace K06
open PySem L2
theorem ExcAt_up {H H' : Hp} {a C : Addr} {fs : List (Str × V)} (e : ExcAt H a C fs) (s : Same H H') : ExcAt H' a C fs := by
  rcases e with ⟨z, e⟩ | ⟨dx, ne, e, ed⟩
  · exact .inl ⟨z, e.imp (s _ _) (s _ _)⟩
  · exact .inr ⟨dx, ne, e.imp (s _ _) (s _ _), s _ _ ed⟩
/-- an exception under way: made above H0, its fields set so far -/
def Mk (H0 : Hp) (a C : Addr) (fs : List (Str × V)) (H : Hp) : Prop :=
  H0 a = none ∧ Same H0 H ∧ ((fs = [] ∧ H a = some (excO a C none)) ∨ ∃ dx, dx ≠ a ∧ H0 dx = none ∧ H a = some (excO a C (some dx)) ∧ H dx = some (xdO dx fs))
theorem Mk.start {H0 : Hp} {a C : Addr} (h : H0 a = none) : Mk H0 a C [] (upd H0 a (excO a C none)) := ⟨h, Same.upd h, .inl ⟨rfl, upd_same⟩⟩
theorem Mk.exc {H0 H : Hp} {a C : Addr} {fs : List (Str × V)} (m : Mk H0 a C fs H) : ExcAt H a C fs := by
  rcases m.2.2 with h | ⟨dx, ne, _, e, ed⟩
  · exact .inl ⟨h.1, .inl h.2⟩
  · exact .inr ⟨dx, ne, .inl e, ed⟩
theorem Mk.step {H0 H : Hp} {a C : Addr} {fs : List (Str × V)} {f : Str} {y : V} {N : Hp → Prop} (m : Mk H0 a C fs H) (hl : fs.length < 1000) (h : ∀ H', Mk H0 a C (putF f y fs) H' → N H') : SetX H a C f y N := by
  obtain ⟨h0, S, ⟨z, e⟩ | ⟨dx, ne, d0, e, ed⟩⟩ := m
  · subst z
    refine .inl ⟨e, fun dx hd ne => h _ ⟨h0, ?_, .inr ⟨dx, ne, S.free hd, upd_same, ?_⟩⟩⟩
    · exact (S.set (S.free hd)).set h0
    · rw [upd_ne ne, upd_same]; rfl
  · refine .inr ⟨dx, fs, ne, e, ed, hl, h _ ⟨h0, S.set d0, .inr ⟨dx, ne, d0, ?_, upd_same⟩⟩⟩
    rw [upd_ne (Ne.symm ne)]; exact e
theorem atI_map {ns : List Int} {k : Nat} (hk : k < ns.length) : atI (ns.map V.int) (k : Int) = some (V.int ns[k]) := by
  unfold atI ixN
  rw [List.length_map]
  have h1 : ¬ ((k : Int) < 0) := by omega
  have h2 : (k : Int) < (ns.length : Int) := by omega
  simp [h1, h2, hk]
theorem iteFe {b : Bool} {A B : Prop} (e : b = false) (h : B) : if b = true then A else B := by subst e; exact iteF h
theorem mod_lt64 {a b : Int} (h : 0 < b) (h2 : b < 2 ^ 64) : -(2 ^ 64) < a % b ∧ a % b < 2 ^ 64 := by
  have h1 := Int.emod_nonneg a (Int.ne_of_gt h)
  have h3 := Int.emod_lt_of_pos a h
  constructor <;> omega
section
variable {P : Program} {w : World} {K : PySem.W.Frag} {mg : Str → Option Value} {base : Heap} {t : Adr}
theorem ok_law_cell_at {f : Addr} {fd : FuncData} (Z : Facts K t) (F : FunD K "_law_cell_at" "_law_cell_at" s_law_cell_at f fd .none) (T : Tab P w K mg base 0 (gb_0 K t) bl) : FnOk P w K mg base CX0 1 f fd P_law_cell_at (sp_law_cell_at K t) := by
  refine F.okW0 sc_law_cell_at vi_law_cell_at T (rd_law_cell_at K t) (fun vs H Q E h => ?_) (fun vs H Q E h => ?_)
  · obtain ⟨a, ns, k, rfl, _⟩ := h; rfl
  · obtain ⟨a, ns, k, rfl, hS, q⟩ := h
    refine ⟨_, .inl hS, ite2 (fun hlt => ?_) (fun _ => q _)⟩
    have hlt : (k : Int) < ((ns.map V.int).length : Int) := of_decide_eq_true hlt
    have hk : k < ns.length := by rw [List.length_map] at hlt; omega
    refine ⟨_, .int ns[k], .inl hS, ?_, q _⟩
    exact atI_map hk
theorem ok_law_mix {f : Addr} {fd : FuncData} (Z : Facts K t) (F : FunD K "_law_mix" "_law_mix" s_law_mix f fd .none) (T : Tab P w K mg base 0 (gb_0 K t) bl) : FnOk P w K mg base CX0 1 f fd P_law_mix (sp_law_mix K t) := by
  refine F.okW0 sc_law_mix vi_law_mix T (rd_law_mix K t) (fun vs H Q E h => ?_) (fun vs H Q E h => ?_)
  · obtain ⟨c, n, rfl, _⟩ := h; rfl
  · obtain ⟨c, n, rfl, h0, h1, k⟩ := h
    refine ⟨.inl ⟨by decide, by decide⟩, by omega, by decide, ?_⟩
    have fin : ∀ H', Same H H' → dSeq (dSet 3 (dBin rModD (dBin rMulD (dBin (rAddD K) (dBin rModD (dVar 0) (dC (.int 1000000007))) (dBin rMulD (dC (.int 7919)) (dVar 1))) (dC (.int 48271))) (dC (.int 2147483647))))
        (dSeq (dSet 3 (dBin rModD (dBin rMulD (dVar 3) (dVar 3)) (dC (.int 2147483629))))
        (dSeq (dRet (dBin rModD (dBin rMulD (dVar 3) (dBin (rAddD K) (dVar 3) (dC (.int 3)))) (dC (.int 2147483587)))) dNext)) (endsOf Q fun _ _ => False) [some (.int c), some (.int n), some (.int (c / 2 ^ (27 * n + 1).toNat)), none] H' := fun H' S =>
      ⟨by decide, .inl ⟨by decide, by decide⟩, .inr ⟨by decide, by decide⟩, by decide, .inl (mod_lt64 (by decide) (by decide)), by decide, .inl (mod_lt64 (by decide) (by decide)), by decide, k _ _ S⟩
    refine ite2 (fun _ => ?_) (fun _ => fin H (Same.refl _))
    refine ⟨by decide, fun p hp => ⟨p, _, rfl, .inr (SqT.of upd_same), rfl, rfl, ?_⟩⟩
    refine ite2 (fun _ => k _ _ (Same.upd hp)) (fun _ => fin _ (Same.upd hp))
theorem ok_BadPage_init {f : Addr} {fd : FuncData} (Z : Facts K t) (F : FunD K "__init__" "BadPage.__init__" s_BadPage_init f fd .none) (T : Tab P w K mg base 0 (gb_0 K t) bl) : FnOk P w K mg base CX0 1 f fd P_BadPage_init (sp_BadPage_init K t) := by
  refine F.okW0 sc_BadPage_init vi_BadPage_init T (rd_BadPage_init K t) (fun vs H Q E h => ?_) (fun vs H Q E h => ?_)
  · obtain ⟨H0, a, C, xs, rfl, hl, _⟩ := h
    show xs.length + 1 = _
    rw [hl]; rfl
  · obtain ⟨H0, a, C, xs, rfl, hl, h0, rfl, ec, na, q⟩ := h
    obtain ⟨x0, x1, rfl⟩ : ∃ x0 x1, xs = [x0, x1] := by
      match xs, hl with
      | [x0, x1], _ => exact ⟨_, _, rfl⟩
    refine .inr ⟨C, ec, na "line" (by decide), Mk.step (fs := []) (Mk.start h0) (by decide) fun H1 m1 => ?_⟩
    refine .inr ⟨C, ec, na "choice" (by decide), Mk.step (fs := [("line", x0)]) m1 (by simp) fun H2 m2 => ?_⟩
    exact q _ m2.2.1 m2.exc
theorem ok_Unlike_init {f : Addr} {fd : FuncData} (Z : Facts K t) (F : FunD K "__init__" "Unlike.__init__" s_Unlike_init f fd .none) (T : Tab P w K mg base 0 (gb_0 K t) bl) : FnOk P w K mg base CX0 1 f fd P_Unlike_init (sp_Unlike_init K t) := by
  refine F.okW0 sc_Unlike_init vi_Unlike_init T (rd_Unlike_init K t) (fun vs H Q E h => ?_) (fun vs H Q E h => ?_)
  · obtain ⟨H0, a, C, xs, rfl, hl, _⟩ := h
    show xs.length + 1 = _
    rw [hl]; rfl
  · obtain ⟨H0, a, C, xs, rfl, hl, h0, rfl, ec, na, q⟩ := h
    obtain ⟨x0, x1, x2, rfl⟩ : ∃ x0 x1 x2, xs = [x0, x1, x2] := by
      match xs, hl with
      | [x0, x1, x2], _ => exact ⟨_, _, _, rfl⟩
    refine .inr ⟨C, ec, na "part" (by decide), Mk.step (fs := []) (Mk.start h0) (by decide) fun H1 m1 => ?_⟩
    refine .inr ⟨C, ec, na "one" (by decide), Mk.step (fs := [("part", x0)]) m1 (by simp) fun H2 m2 => ?_⟩
    refine .inr ⟨C, ec, na "other" (by decide), Mk.step (fs := [("part", x0), ("one", x1)]) m2 (by simp) fun H3 m3 => ?_⟩
    exact q _ m3.2.1 m3.exc
theorem ok_NoEdit_init {f : Addr} {fd : FuncData} (Z : Facts K t) (F : FunD K "__init__" "NoEdit.__init__" s_NoEdit_init f fd .none) (T : Tab P w K mg base 0 (gb_0 K t) bl) : FnOk P w K mg base CX0 1 f fd P_NoEdit_init (sp_NoEdit_init K t) := by
  refine F.okW0 sc_NoEdit_init vi_NoEdit_init T (rd_NoEdit_init K t) (fun vs H Q E h => ?_) (fun vs H Q E h => ?_)
  · obtain ⟨H0, a, C, xs, rfl, hl, _⟩ := h
    show xs.length + 1 = _
    rw [hl]; rfl
  · obtain ⟨H0, a, C, xs, rfl, hl, h0, rfl, ec, na, q⟩ := h
    obtain ⟨x0, rfl⟩ : ∃ x0, xs = [x0] := by
      match xs, hl with
      | [x0], _ => exact ⟨_, rfl⟩
    refine .inr ⟨C, ec, na "number" (by decide), Mk.step (fs := []) (Mk.start h0) (by decide) fun H1 m1 => ?_⟩
    exact q _ m1.2.1 m1.exc
theorem ok_NotLive_init {f : Addr} {fd : FuncData} (Z : Facts K t) (F : FunD K "__init__" "NotLive.__init__" s_NotLive_init f fd .none) (T : Tab P w K mg base 0 (gb_0 K t) bl) : FnOk P w K mg base CX0 1 f fd P_NotLive_init (sp_NotLive_init K t) := by
  refine F.okW0 sc_NotLive_init vi_NotLive_init T (rd_NotLive_init K t) (fun vs H Q E h => ?_) (fun vs H Q E h => ?_)
  · obtain ⟨H0, a, C, xs, rfl, hl, _⟩ := h
    show xs.length + 1 = _
    rw [hl]; rfl
  · obtain ⟨H0, a, C, xs, rfl, hl, h0, rfl, ec, na, q⟩ := h
    obtain ⟨x0, rfl⟩ : ∃ x0, xs = [x0] := by
      match xs, hl with
      | [x0], _ => exact ⟨_, rfl⟩
    refine .inr ⟨C, ec, na "number" (by decide), Mk.step (fs := []) (Mk.start h0) (by decide) fun H1 m1 => ?_⟩
    exact q _ m1.2.1 m1.exc
theorem ok_IsLive_init {f : Addr} {fd : FuncData} (Z : Facts K t) (F : FunD K "__init__" "IsLive.__init__" s_IsLive_init f fd .none) (T : Tab P w K mg base 0 (gb_0 K t) bl) : FnOk P w K mg base CX0 1 f fd P_IsLive_init (sp_IsLive_init K t) := by
  refine F.okW0 sc_IsLive_init vi_IsLive_init T (rd_IsLive_init K t) (fun vs H Q E h => ?_) (fun vs H Q E h => ?_)
  · obtain ⟨H0, a, C, xs, rfl, hl, _⟩ := h
    show xs.length + 1 = _
    rw [hl]; rfl
  · obtain ⟨H0, a, C, xs, rfl, hl, h0, rfl, ec, na, q⟩ := h
    obtain ⟨x0, rfl⟩ : ∃ x0, xs = [x0] := by
      match xs, hl with
      | [x0], _ => exact ⟨_, rfl⟩
    refine .inr ⟨C, ec, na "number" (by decide), Mk.step (fs := []) (Mk.start h0) (by decide) fun H1 m1 => ?_⟩
    exact q _ m1.2.1 m1.exc
theorem ok_StandsOn_init {f : Addr} {fd : FuncData} (Z : Facts K t) (F : FunD K "__init__" "StandsOn.__init__" s_StandsOn_init f fd .none) (T : Tab P w K mg base 0 (gb_0 K t) bl) : FnOk P w K mg base CX0 1 f fd P_StandsOn_init (sp_StandsOn_init K t) := by
  refine F.okW0 sc_StandsOn_init vi_StandsOn_init T (rd_StandsOn_init K t) (fun vs H Q E h => ?_) (fun vs H Q E h => ?_)
  · obtain ⟨H0, a, C, xs, rfl, hl, _⟩ := h
    show xs.length + 1 = _
    rw [hl]; rfl
  · obtain ⟨H0, a, C, xs, rfl, hl, h0, rfl, ec, na, q⟩ := h
    obtain ⟨x0, x1, rfl⟩ : ∃ x0 x1, xs = [x0, x1] := by
      match xs, hl with
      | [x0, x1], _ => exact ⟨_, _, rfl⟩
    refine .inr ⟨C, ec, na "number" (by decide), Mk.step (fs := []) (Mk.start h0) (by decide) fun H1 m1 => ?_⟩
    refine .inr ⟨C, ec, na "choice" (by decide), Mk.step (fs := [("number", x0)]) m1 (by simp) fun H2 m2 => ?_⟩
    exact q _ m2.2.1 m2.exc
theorem ok_NoEditor_init {f : Addr} {fd : FuncData} (Z : Facts K t) (F : FunD K "__init__" "NoEditor.__init__" s_NoEditor_init f fd .none) (T : Tab P w K mg base 0 (gb_0 K t) bl) : FnOk P w K mg base CX0 1 f fd P_NoEditor_init (sp_NoEditor_init K t) := by
  refine F.okW0 sc_NoEditor_init vi_NoEditor_init T (rd_NoEditor_init K t) (fun vs H Q E h => ?_) (fun vs H Q E h => ?_)
  · obtain ⟨H0, a, C, xs, rfl, hl, _⟩ := h
    show xs.length + 1 = _
    rw [hl]; rfl
  · obtain ⟨H0, a, C, xs, rfl, hl, h0, rfl, ec, na, q⟩ := h
    obtain ⟨x0, rfl⟩ : ∃ x0, xs = [x0] := by
      match xs, hl with
      | [x0], _ => exact ⟨_, rfl⟩
    refine .inr ⟨C, ec, na "editor" (by decide), Mk.step (fs := []) (Mk.start h0) (by decide) fun H1 m1 => ?_⟩
    exact q _ m1.2.1 m1.exc
theorem ok_EditError_init {f : Addr} {fd : FuncData} (Z : Facts K t) (F : FunD K "__init__" "EditError.__init__" s_EditError_init f fd t.dv_EditError_init) (T : Tab P w K mg base 0 (gb_0 K t) bl) : FnOk P w K mg base CX0 1 f fd P_EditError_init (sp_EditError_init K t) := by
  refine F.okW0 sc_EditError_init vi_EditError_init T (rd_EditError_init K t) (fun vs H Q E h => ?_) (fun vs H Q E h => ?_)
  · obtain ⟨H0, a, C, xs, rfl, hl, _⟩ := h
    show xs.length + 1 = _
    rw [hl]; rfl
  · obtain ⟨H0, a, C, xs, rfl, hl, h0, rfl, ec, na, q⟩ := h
    obtain ⟨x0, x1, rfl⟩ : ∃ x0 x1, xs = [x0, x1] := by
      match xs, hl with
      | [x0, x1], _ => exact ⟨_, _, rfl⟩
    refine .inr ⟨C, ec, na "part" (by decide), Mk.step (fs := []) (Mk.start h0) (by decide) fun H1 m1 => ?_⟩
    refine .inr ⟨C, ec, na "choice" (by decide), Mk.step (fs := [("part", x0)]) m1 (by simp) fun H2 m2 => ?_⟩
    exact q _ m2.2.1 m2.exc
theorem ok_law_first {f : Addr} {fd : FuncData} (Z : Facts K t) (F : FunD K "_law_first" "_law_first" s_law_first f fd .none) (T : Tab P w K mg base 0 (gb_0 K t) bl) : FnOk P w K mg base CX0 1 f fd P_law_first (sp_law_first K t) := by
  refine F.okW0 sc_law_first vi_law_first T (rd_law_first K t) (fun vs H Q E h => ?_) (fun vs H Q E h => ?_)
  · obtain ⟨a, C, fs, n, ed, rfl, _⟩ := h; rfl
  · obtain ⟨a, C, fs, n, ed, rfl, hx, kd, q⟩ := h
    refine ⟨_, _, .exc rfl hx kd.cls rfl, kd.first 0 _ rfl, _, _, .exc rfl hx kd.cls rfl, kd.first 1 _ rfl, _, _, .exc rfl hx kd.cls rfl, kd.first 2 _ rfl, _, _, .exc rfl hx kd.cls rfl, kd.first 3 _ rfl, (show 4 ≤ sizeLine by decide), fun p0 h0 => ?_⟩
    have S0 := Same.upd (o := .lst [.bl (decide (0 = n) && !ed), .bl (decide (1 = n) && !ed), .bl (decide (2 = n) && !ed), .bl (decide (3 = n) && !ed)]) h0
    have hx0 := ExcAt_up hx S0
    refine ⟨_, _, .exc rfl hx0 kd.cls rfl, kd.first 4 _ rfl, _, _, .exc rfl hx0 kd.cls rfl, kd.first 5 _ rfl, _, _, .exc rfl hx0 kd.cls rfl, kd.first 6 _ rfl, _, _, .exc rfl hx0 kd.cls rfl, kd.first 7 _ rfl, (show 4 ≤ sizeLine by decide), fun p1 h1 => .inl ⟨_, _, _, _, rfl, rfl, (Same.upd h1) _ _ upd_same, upd_same, (show 4 + 4 ≤ sizeLine by decide), fun p2 h2 => ?_⟩⟩
    have S1 := (S0.trans (Same.upd (o := .lst [.bl (decide (4 = n) && !ed), .bl (decide (5 = n) && !ed), .bl (decide (6 = n) && !ed), .bl (decide (7 = n) && !ed)]) h1)).trans (Same.upd (o := .lst (([.bl (decide (0 = n) && !ed), .bl (decide (1 = n) && !ed), .bl (decide (2 = n) && !ed), .bl (decide (3 = n) && !ed)] : List V) ++ [.bl (decide (4 = n) && !ed), .bl (decide (5 = n) && !ed), .bl (decide (6 = n) && !ed), .bl (decide (7 = n) && !ed)])) h2)
    have hx1 := ExcAt_up hx S1
    refine ⟨_, _, .exc rfl hx1 kd.cls rfl, kd.first 8 _ rfl, _, _, .exc rfl hx1 kd.cls rfl, kd.first 9 _ rfl, _, _, .exc rfl hx1 kd.cls rfl, kd.first 10 _ rfl, _, _, .exc rfl hx1 kd.cls rfl, kd.first 11 _ rfl, (show 4 ≤ sizeLine by decide), fun p3 h3 => .inl ⟨_, _, _, _, rfl, rfl, (Same.upd h3) _ _ upd_same, upd_same, (show 8 + 4 ≤ sizeLine by decide), fun p4 h4 => ?_⟩⟩
    have S2 := (S1.trans (Same.upd (o := .lst [.bl (decide (8 = n) && !ed), .bl (decide (9 = n) && !ed), .bl (decide (10 = n) && !ed), .bl (decide (11 = n) && !ed)]) h3)).trans (Same.upd (o := .lst ((([.bl (decide (0 = n) && !ed), .bl (decide (1 = n) && !ed), .bl (decide (2 = n) && !ed), .bl (decide (3 = n) && !ed)] : List V) ++ [.bl (decide (4 = n) && !ed), .bl (decide (5 = n) && !ed), .bl (decide (6 = n) && !ed), .bl (decide (7 = n) && !ed)]) ++ [.bl (decide (8 = n) && !ed), .bl (decide (9 = n) && !ed), .bl (decide (10 = n) && !ed), .bl (decide (11 = n) && !ed)])) h4)
    have hx2 := ExcAt_up hx S2
    exact q _ _ S2 upd_same
theorem ok_law_edits {f : Addr} {fd : FuncData} (Z : Facts K t) (F : FunD K "_law_edits" "_law_edits" s_law_edits f fd .none) (T : Tab P w K mg base 0 (gb_0 K t) bl) : FnOk P w K mg base CX0 1 f fd P_law_edits (sp_law_edits K t) := by
  refine F.okW0 sc_law_edits vi_law_edits T (rd_law_edits K t) (fun vs H Q E h => ?_) (fun vs H Q E h => ?_)
  · obtain ⟨a, C, fs, n, ed, rfl, _⟩ := h; rfl
  · obtain ⟨a, C, fs, n, ed, rfl, hx, kd, q⟩ := h
    refine ⟨_, _, .exc rfl hx kd.cls rfl, kd.edits 0 _ rfl, _, _, .exc rfl hx kd.cls rfl, kd.edits 1 _ rfl, _, _, .exc rfl hx kd.cls rfl, kd.edits 2 _ rfl, _, _, .exc rfl hx kd.cls rfl, kd.edits 3 _ rfl, (show 4 ≤ sizeLine by decide), fun p0 h0 => ?_⟩
    have S0 := Same.upd (o := .lst [.bl (decide (0 = n) && ed), .bl (decide (1 = n) && ed), .bl (decide (2 = n) && ed), .bl (decide (3 = n) && ed)]) h0
    have hx0 := ExcAt_up hx S0
    refine ⟨_, _, .exc rfl hx0 kd.cls rfl, kd.edits 4 _ rfl, _, _, .exc rfl hx0 kd.cls rfl, kd.edits 5 _ rfl, _, _, .exc rfl hx0 kd.cls rfl, kd.edits 6 _ rfl, _, _, .exc rfl hx0 kd.cls rfl, kd.edits 7 _ rfl, (show 4 ≤ sizeLine by decide), fun p1 h1 => .inl ⟨_, _, _, _, rfl, rfl, (Same.upd h1) _ _ upd_same, upd_same, (show 4 + 4 ≤ sizeLine by decide), fun p2 h2 => ?_⟩⟩
    have S1 := (S0.trans (Same.upd (o := .lst [.bl (decide (4 = n) && ed), .bl (decide (5 = n) && ed), .bl (decide (6 = n) && ed), .bl (decide (7 = n) && ed)]) h1)).trans (Same.upd (o := .lst (([.bl (decide (0 = n) && ed), .bl (decide (1 = n) && ed), .bl (decide (2 = n) && ed), .bl (decide (3 = n) && ed)] : List V) ++ [.bl (decide (4 = n) && ed), .bl (decide (5 = n) && ed), .bl (decide (6 = n) && ed), .bl (decide (7 = n) && ed)])) h2)
    have hx1 := ExcAt_up hx S1
    exact q _ _ S1 upd_same
end
end K06

set_option maxRecDepth 100000
set_option maxHeartbeats 4000000
namespace K06
open PySem L2
theorem eqV_self {x : V} (h : flatV x = true) : eqV x x = true := by
  cases x with
  | non => rfl
  | bl b => exact beq_self_eq_true b
  | int i => exact beq_self_eq_true i
  | str z => exact beq_self_eq_true z
  | _ => cases h
theorem eqVs_self {xs : List V} (h : xs.all flatV = true) : eqVs xs xs = true := by
  unfold eqVs
  rw [decide_eq_true rfl, Bool.true_and, List.all_eq_true]
  intro j hj
  have hj : j < xs.length := by simpa using hj
  have e : xs.getD j .non = xs[j] := by simp [List.getD, hj]
  rw [e]
  exact eqV_self (List.all_eq_true.mp h _ (List.getElem_mem hj))
theorem flat12 (n : Nat) (ed : Bool) : (first12 n ed).all flatV = true := rfl
theorem flat8 (n : Nat) (ed : Bool) : (edits8 n ed).all flatV = true := rfl
/-- a comprehension of truths over a range -/
theorem rng_comp {n : Nat} {te : DE} {p : Nat → Bool} {H : Hp} {D : Addr} {R : Hp → Prop} {σ : St} (Sg : St → Prop) (hn : n ≤ 1000) (hσ : Sg σ) (hD : H D = none)
    (he : ∀ (i : Nat) (σ' : St) (H1 : Hp) (Q1 : VK), Sg σ' → Q1 (.bl (p i)) H1 → te (σ'.set 0 (some (.int i))) H1 Q1 (fun _ _ => False)) (hg : ∀ (i : Nat) σ', Sg σ' → Sg (σ'.set 0 (some (.int i))))
    (k : ∀ H', Same H H' → H' D = some (.lst ((List.range n).map fun i => V.bl (p i))) → R H') : CmpW (Itr 0 n) (gdN 0) dYes te D R σ (upd H D (.lst [])) := by
  refine cmp_map (yl_range 0 n) Sg (fun _ => true) (fun v => match v with | .int i => .bl (p i.toNat) | _ => .non) hD (fun _ _ => True.intro) ?_ hσ ?_ ?_
  · rw [rngV_len]; exact Nat.lt_of_le_of_lt hn (by decide)
  · intro x σ1 H1 hx h1 S Fin Skip hF hS
    unfold rngV at hx
    obtain ⟨i, hi, rfl⟩ := List.mem_map.mp hx
    have e : (V.int (0 + (i : Int))) = V.int i := by rw [Int.zero_add]
    rw [e]
    refine he i σ1 H1 _ h1 ?_
    exact hF _ _ _ (hg i σ1 h1) (Same.refl _) rfl (by show V.bl (p i) = V.bl (p ((0 : Int) + (i : Int)).toNat); rw [Int.zero_add, Int.toNat_natCast])
  · intro H' S hD'
    refine k H' S ?_
    rw [hD', List.filter_eq_self.mpr (fun _ _ => rfl)]
    unfold rngV
    rw [List.map_map]
    congr 2
    refine List.map_congr_left fun i _ => ?_
    show V.bl (p ((0 : Int) + (i : Int)).toNat) = _
    rw [Int.zero_add, Int.toNat_natCast]
section
variable {P : Program} {w : World} {K : PySem.W.Frag} {mg : Str → Option Value} {base : Heap} {t : Adr}
theorem ok_law_good {f : Addr} {fd : FuncData} (Z : Facts K t) (F : FunD K "_law_good" "_law_good" s_law_good f fd .none) (T : Tab P w K mg base 1 (gb_1 K t) bl) : FnOk P w K mg base CX0 2 f fd P_law_good (sp_law_good K t) := by
  refine F.okW0 sc_law_good vi_law_good T (rd_law_good K t) (fun vs H Q E h => ?_) (fun vs H Q E h => ?_)
  · obtain ⟨a, C, fs, n, ed, rfl, _⟩ := h; rfl
  · obtain ⟨a, C, fs, n, ed, rfl, hx, kd, q⟩ := h
    refine ⟨⟨by decide, by decide⟩, fun D hD => ?_⟩
    refine rng_comp (n := 12) (p := fun i => decide (i = n) && !ed) (fun σ => ∃ v, σ = [v, some (.int n), some (.bl ed)]) (by decide) ⟨_, rfl⟩ hD ?_ (fun i σ' hh => by obtain ⟨v, rfl⟩ := hh; exact ⟨_, rfl⟩) fun H1 S1 hL1 => ?_
    · rintro i σ' H1 Q1 ⟨v, rfl⟩ k
      refine ite2 (fun hk => ?_) (fun hk => ?_)
      · have e : i = n := by have := of_decide_eq_true hk; omega
        have e2 : (decide (i = n) && !ed) = !ed := by rw [decide_eq_true e, Bool.true_and]
        rw [e2] at k
        exact k
      · have e : ¬ i = n := fun z => hk (by rw [z]; exact decide_eq_true rfl)
        have e2 : (decide (i = n) && !ed) = false := by rw [decide_eq_false e, Bool.false_and]
        have e3 : decide ((i : Int) = (n : Int)) = false := by cases hh : decide ((i : Int) = (n : Int)) with | false => rfl | true => exact absurd hh hk
        rw [e2] at k
        show Q1 (.bl (decide ((i : Int) = (n : Int)))) H1
        rw [e3]
        exact k
    refine ⟨⟨by decide, by decide⟩, fun D2 hD2 => ?_⟩
    refine rng_comp (n := 8) (p := fun i => decide (i = n) && ed) (fun σ => ∃ v, σ = [v, some (.int n), some (.bl ed)]) (by decide) ⟨_, rfl⟩ hD2 ?_ (fun i σ' hh => by obtain ⟨v, rfl⟩ := hh; exact ⟨_, rfl⟩) fun H2 S2 hL2 => ?_
    · rintro i σ' H1 Q1 ⟨v, rfl⟩ k
      refine ite2 (fun hk => ?_) (fun hk => ?_)
      · have e : i = n := by have := of_decide_eq_true hk; omega
        have e2 : (decide (i = n) && ed) = ed := by rw [decide_eq_true e, Bool.true_and]
        rw [e2] at k
        exact k
      · have e : ¬ i = n := fun z => hk (by rw [z]; exact decide_eq_true rfl)
        have e2 : (decide (i = n) && ed) = false := by rw [decide_eq_false e, Bool.false_and]
        have e3 : decide ((i : Int) = (n : Int)) = false := by cases hh : decide ((i : Int) = (n : Int)) with | false => rfl | true => exact absurd hh hk
        rw [e2] at k
        show Q1 (.bl (decide ((i : Int) = (n : Int)))) H1
        rw [e3]
        exact k
    have S12 := S1.trans S2
    refine ⟨a, C, fs, n, ed, rfl, ExcAt_up hx S12, kd, fun H3 l S3 hl => ⟨_, _, _, _, rfl, rfl, .of hl, .of (S3 _ _ (S2 _ _ hL1)), flat12 n ed, flat12 n ed, iteFe (by rw [show ((List.range 12).map fun i => V.bl (decide (i = n) && !ed)) = first12 n ed from rfl, if_pos rfl, eqVs_self (flat12 n ed)]; rfl) ?_⟩⟩
    refine ⟨a, C, fs, n, ed, rfl, ExcAt_up hx (S12.trans S3), kd, fun H4 l S4 hl => ⟨_, _, _, _, rfl, rfl, .of hl, .of (S4 _ _ (S3 _ _ hL2)), flat8 n ed, flat8 n ed, iteFe (by rw [show ((List.range 8).map fun i => V.bl (decide (i = n) && ed)) = edits8 n ed from rfl, if_pos rfl, eqVs_self (flat8 n ed)]; rfl) ?_⟩⟩
    have hx4 := ExcAt_up hx ((S12.trans S3).trans S4)
    refine ⟨_, _, .exc rfl hx4 kd.cls rfl, kd.edit, ?_⟩
    have e : (!(ed == ed)) = false := by cases ed <;> rfl
    refine iteFe e ?_
    refine ⟨_, _, .exc rfl hx4 kd.cls rfl, kd.leaf, ?_⟩
    exact ⟨_, _, .exc rfl hx4 kd.cls rfl, kd.val, q _ ((S12.trans S3).trans S4)⟩
end
end K06

set_option maxRecDepth 100000
set_option maxHeartbeats 4000000
namespace K06
open PySem L2
theorem na1 {K : PySem.W.Frag} {C : Addr} {f1 : Str} (h1 : NoAttr K C f1) : ∀ f ∈ [f1], NoAttr K C f := fun f hf => by
  cases hf with
  | head => exact h1
  | tail _ h => cases h
theorem naC {K : PySem.W.Frag} {C : Addr} {f1 : Str} {l : List Str} (h1 : NoAttr K C f1) (h2 : ∀ f ∈ l, NoAttr K C f) : ∀ f ∈ f1 :: l, NoAttr K C f := fun f hf => by
  cases hf with
  | head => exact h1
  | tail _ h => exact h2 f h
theorem mk0 {C : Addr} {vs : List V} {H : Hp} {Q : VK} {E : EK} (h : ∀ a H1, Same H H1 → ExcAt H1 a C [] → Q (.ref a) H1) : mkX C none 0 vs H Q E := fun a ha => h a _ (Same.upd ha) (.inl ⟨rfl, .inl upd_same⟩)
theorem mkI {K : PySem.W.Frag} {C : Addr} {vs : List V} {H : Hp} {Q : VK} {E : EK} {i : FI} {j : Nat} (names : List Str) (hi : i.sp = sp_init names K) (ec : ECls K C) (na : ∀ f ∈ names, NoAttr K C f) (hl : (vs ++ i.dfs.drop j).length = names.length)
    (h : ∀ a H1, Same H H1 → ExcAt H1 a C (names.zip (vs ++ i.dfs.drop j)) → Q (.ref a) H1) : mkX C (some i) j vs H Q E := fun a ha => by
  rw [hi]
  exact ⟨H, a, C, vs ++ i.dfs.drop j, rfl, hl, ha, rfl, ec, na, fun H' S e => ⟨rfl, h a H' S e⟩⟩
/-- a new thing: the heap behind it, by what it keeps -/
@[elab_as_elim] theorem gn {H : Hp} {p : Addr} {o : HO} {P : Hp → Prop} (hp : H p = none) (h : ∀ H1, Same H H1 → H1 p = some o → P H1) : P (upd H p o) := h _ (Same.upd hp) upd_same
theorem lk {xs : List V} (h : xs.length ≤ 1000) : xs.length ≤ sizeLine := Nat.le_trans h (by decide)
theorem fl {x : V} {xs : List V} (h : flatV x = true) (hs : xs.all flatV = true) : (x :: xs).all flatV = true := by rw [List.all_cons, h, hs]; rfl
theorem gnX {H : Hp} {p C : Addr} (e : H p = some (excO p C none)) : ExcAt H p C [] := .inl ⟨rfl, .inl e⟩
theorem eqF {xs : List V} (hf : xs.all flatV = true) : (if true = true then !eqVs xs xs else eqVs xs xs) = false := by rw [if_pos rfl, eqVs_self hf]; rfl
section
variable {P : Program} {w : World} {K : PySem.W.Frag} {mg : Str → Option Value} {base : Heap} {t : Adr}
theorem ok_law_plain_ones {f : Addr} {fd : FuncData} (Z : Facts K t) (F : FunD K "_law_plain_ones" "_law_plain_ones" s_law_plain_ones f fd .none) (T : Tab P w K mg base 2 (gb_2 K t) bl) : FnOk P w K mg base CX0 3 f fd P_law_plain_ones (sp_law_plain_ones K t) := by
  refine F.okW0 sc_law_plain_ones vi_law_plain_ones T (rd_law_plain_ones K t) (fun vs H Q E h => ?_) (fun vs H Q E h => ?_)
  · obtain ⟨rfl, _⟩ := h; rfl
  · obtain ⟨rfl, q⟩ := h
    refine fun a0 h0 => gn h0 fun H0 S0 x0 => ?_
    have x0 := gnX x0
    refine fun a1 h1 => gn h1 fun H1 S1 x1 => ?_
    have x1 := gnX x1
    refine fun a2 h2 => gn h2 fun H2 S2 x2 => ?_
    have x2 := gnX x2
    refine fun a3 h3 => gn h3 fun H3 S3 x3 => ?_
    have x3 := gnX x3
    refine fun a4 h4 => gn h4 fun H4 S4 x4 => ?_
    have x4 := gnX x4
    refine ⟨lk (by simp), fun l1 hh => gn hh fun H5 S5 g1 => ?_⟩
    refine ⟨by simp, mk0 fun b0 G0 T0 y0 => ?_⟩
    refine ⟨by simp, mk0 fun b1 G1 T1 y1 => ?_⟩
    refine ⟨by simp, mk0 fun b2 G2 T2 y2 => ?_⟩
    refine ⟨by simp, mk0 fun b3 G3 T3 y3 => ?_⟩
    refine ⟨by simp, mk0 fun b4 G4 T4 y4 => ?_⟩
    refine ⟨lk (by simp), fun l2 hh => gn hh fun G5 T5 g2 => ?_⟩
    have U4 := T5
    have U3 := T4.trans U4
    have U2 := T3.trans U3
    have U1 := T2.trans U2
    have U0 := T1.trans U1
    have U := T0.trans U0
    have V4 := S5.trans U
    have V3 := S4.trans V4
    have V2 := S3.trans V3
    have V1 := S2.trans V2
    have V0 := S1.trans V1
    have A : ∀ i C, i < 5 → (firstC t)[i]? = some C → ∃ a b, [V.ref a0, .ref a1, .ref a2, .ref a3, .ref a4][i]? = some (.ref a) ∧ [V.ref b0, .ref b1, .ref b2, .ref b3, .ref b4][i]? = some (.ref b) ∧ ExcAt G5 a C [] ∧ ExcAt G5 b C [] := fun i C hi hc => by
      match i, hi with
      | 0, _ => cases hc; exact ⟨_, _, rfl, rfl, ExcAt_up x0 V0, ExcAt_up y0 U0⟩
      | 1, _ => cases hc; exact ⟨_, _, rfl, rfl, ExcAt_up x1 V1, ExcAt_up y1 U1⟩
      | 2, _ => cases hc; exact ⟨_, _, rfl, rfl, ExcAt_up x2 V2, ExcAt_up y2 U2⟩
      | 3, _ => cases hc; exact ⟨_, _, rfl, rfl, ExcAt_up x3 V3, ExcAt_up y3 U3⟩
      | 4, _ => cases hc; exact ⟨_, _, rfl, rfl, ExcAt_up x4 V4, ExcAt_up y4 U4⟩
    have g1' := U _ _ g1
    refine ⟨⟨by decide, by decide⟩, ?_⟩
    refine for_by (yl_range 0 5) (fun i σ H' => Same G5 H' ∧ ∃ v, σ = [some (.ref l1), some (.ref l2), v]) ⟨Same.refl _, _, rfl⟩ (fun _ _ _ _ _ => True.intro) ?_ ?_
    · rintro i x σ H' hx ⟨S, v, rfl⟩
      have hi : i < 5 := by have := (List.getElem?_eq_some_iff.mp hx).1; rwa [rngV_len] at this
      rw [rngV_get hi, Int.zero_add] at hx
      cases hx
      obtain ⟨C, hc⟩ : ∃ C, (firstC t)[i]? = some C := ⟨_, List.getElem?_eq_getElem (show i < 12 by omega)⟩
      obtain ⟨a, b, e1, e2, z1, z2⟩ := A i C hi hc
      have kd := Z.kf i C hc
      refine ⟨_, _, .inl (.of (S _ _ g1')), atI_nat e1, _, _, _, i, false, rfl, ExcAt_up z1 S, kd, fun H1 W1 => ?_⟩
      refine ⟨_, _, .inl (.of (W1 _ _ (S _ _ g2))), atI_nat e2, _, _, _, i, false, rfl, ExcAt_up z2 (S.trans W1), kd, fun H2 W2 => ?_⟩
      exact ⟨(S.trans W1).trans W2, _, rfl⟩
    · rintro σ H' ⟨S, v, rfl⟩
      exact ⟨by decide, mk0 fun a H1 S1 z => ⟨_, _, .exc rfl z Z.lf rfl, Z.lv, q _⟩⟩
theorem ok_law_with_fields {f : Addr} {fd : FuncData} (Z : Facts K t) (F : FunD K "_law_with_fields" "_law_with_fields" s_law_with_fields f fd .none) (T : Tab P w K mg base 2 (gb_2 K t) bl) : FnOk P w K mg base CX0 3 f fd P_law_with_fields (sp_law_with_fields K t) := by
  refine F.okW0 sc_law_with_fields vi_law_with_fields T (rd_law_with_fields K t) (fun vs H Q E h => ?_) (fun vs H Q E h => ?_)
  · obtain ⟨x, i, o, rfl, _⟩ := h; rfl
  · obtain ⟨x, i, o, rfl, ho, q⟩ := h
    have fo : flatV o = true := by rcases ho with rfl | ⟨j, rfl⟩ <;> rfl
    have f5 : [V.int i, o, V.int i, o, V.str x].all flatV = true := fl rfl (fl fo (fl rfl (fl fo (fl rfl rfl))))
    have f3 : [V.str x, V.int i, o].all flatV = true := fl rfl (fl rfl (fl fo rfl))
    have k5 := Z.kf 5 _ rfl
    have k6 := Z.kf 6 _ rfl
    have k10 := Z.kf 10 _ rfl
    have k11 := Z.kf 11 _ rfl
    have k7 := Z.kf 7 _ rfl
    have k8 := Z.kf 8 _ rfl
    have k9 := Z.kf 9 _ rfl
    refine ⟨by simp, mkI ["line", "choice"] rfl k5.cls (naC Z.page1 (na1 Z.page2)) rfl fun a0 H0 S0 x0 => ?_⟩
    refine ⟨by simp, mkI ["part", "one", "other"] rfl k6.cls (naC Z.unl1 (naC Z.unl2 (na1 Z.unl3))) rfl fun a1 H1 S1 x1 => ?_⟩
    refine ⟨by simp, mkI ["number", "choice"] rfl k10.cls (naC Z.st1 (na1 Z.st2)) rfl fun a2 H2 S2 x2 => ?_⟩
    refine ⟨by simp, mkI ["editor"] rfl k11.cls (na1 Z.ned) rfl fun a3 H3 S3 x3 => ?_⟩
    have x0' := ExcAt_up x0 (S1.trans (S2.trans S3))
    have x1' := ExcAt_up x1 (S2.trans S3)
    have x2' := ExcAt_up x2 S3
    refine .inr ⟨_, _, _, x0', k5.cls, Z.page1, rfl, ?_⟩
    refine .inr ⟨_, _, _, x0', k5.cls, Z.page2, rfl, ?_⟩
    refine .inr ⟨_, _, _, x2', k10.cls, Z.st1, rfl, ?_⟩
    refine .inr ⟨_, _, _, x2', k10.cls, Z.st2, rfl, ?_⟩
    refine .inr ⟨_, _, _, x3, k11.cls, Z.ned, rfl, ?_⟩
    refine ⟨lk (by simp), fun p hh => gn hh fun H4 S4 g4 => ?_⟩
    refine ⟨lk (by simp), fun p' hh => gn hh fun H5 S5 g5 => ?_⟩
    refine ⟨_, _, _, _, rfl, rfl, .of (S5 _ _ g4), .of g5, f5, f5, iteFe (eqF f5) ?_⟩
    have x1'' := ExcAt_up x1' (S4.trans S5)
    refine .inr ⟨_, _, _, x1'', k6.cls, Z.unl1, rfl, ?_⟩
    refine .inr ⟨_, _, _, x1'', k6.cls, Z.unl2, rfl, ?_⟩
    refine .inr ⟨_, _, _, x1'', k6.cls, Z.unl3, rfl, ?_⟩
    refine ⟨lk (by simp), fun p hh => gn hh fun H6 S6 g6 => ?_⟩
    refine ⟨lk (by simp), fun p' hh => gn hh fun H7 S7 g7 => ?_⟩
    refine ⟨_, _, _, _, rfl, rfl, .of (S7 _ _ g6), .of g7, f3, f3, iteFe (eqF f3) ?_⟩
    have S37 := S4.trans (S5.trans (S6.trans S7))
    refine ⟨_, _, _, 5, false, rfl, ExcAt_up x0' S37, k5, fun H8 S8 => ?_⟩
    refine ⟨_, _, _, 6, false, rfl, ExcAt_up x1' (S37.trans S8), k6, fun H9 S9 => ?_⟩
    refine ⟨_, _, _, 10, false, rfl, ExcAt_up x2' ((S37.trans S8).trans S9), k10, fun HA SA => ?_⟩
    have S3A := ((S37.trans S8).trans S9).trans SA
    have S0A := S0.trans (S1.trans (S2.trans (S3.trans S3A)))
    have x3' := ExcAt_up x3 S3A
    refine ⟨by simp, mkI ["number"] rfl k7.cls (na1 Z.n1) rfl fun b0 G0 T0 y0 => ?_⟩
    refine ⟨by simp, mkI ["number"] rfl k8.cls (na1 Z.n2) rfl fun b1 G1 T1 y1 => ?_⟩
    refine ⟨by simp, mkI ["number"] rfl k9.cls (na1 Z.n3) rfl fun b2 G2 T2 y2 => ?_⟩
    refine ⟨lk (by simp), fun l hh => gn hh fun G3 T3 g => ⟨⟨_, .of g⟩, ?_⟩⟩
    have A : ∀ (j : Nat) (y : V), [V.ref b0, .ref b1, .ref b2][j]? = some y → ∃ b C, y = .ref b ∧ ExcAt G3 b C [("number", .int i)] ∧ Kd K t C (7 + j) false ∧ NoAttr K C "number" := fun j y hy => by
      match j, hy with
      | 0, hy => cases hy; exact ⟨_, _, rfl, ExcAt_up y0 (T1.trans (T2.trans T3)), k7, Z.n1⟩
      | 1, hy => cases hy; exact ⟨_, _, rfl, ExcAt_up y1 (T2.trans T3), k8, Z.n2⟩
      | 2, hy => cases hy; exact ⟨_, _, rfl, ExcAt_up y2 T3, k9, Z.n3⟩
    refine for_by2 (yl_enum [V.ref b0, .ref b1, .ref b2]) (fun _ σ H' => Same G3 H' ∧ ∃ v7 v8, σ = [some (.str x), some (.int i), some o, some (.ref a0), some (.ref a1), some (.ref a2), some (.ref a3), v7, v8]) ⟨Same.refl _, _, _, rfl⟩ (fun _ _ _ _ q => .of (q.1 _ _ g)) ?_ ?_
    · rintro j u v T0' σ H' hz hT ⟨S, v7, v8, rfl⟩
      have hj : j < 3 := by have := (List.getElem?_eq_some_iff.mp hz).1; rwa [enumV_len] at this
      obtain ⟨w', hw⟩ : ∃ w', [V.ref b0, .ref b1, .ref b2][j]? = some w' := ⟨_, List.getElem?_eq_getElem hj⟩
      rw [enumV_get hw, Nat.zero_add] at hz
      cases hz
      obtain ⟨b, C, rfl, z, kd, na⟩ := A j _ hw
      have W := S.trans (Same.upd (o := .tup [.int (j : Int), .ref b]) hT)
      have z' := ExcAt_up z W
      refine ⟨_, SqT.of upd_same, rfl, .inr ⟨_, _, _, z', kd.cls, na, rfl, (iteFe (by show (!decide (i = i)) = false; rw [decide_eq_true rfl]; rfl) ?_)⟩⟩
      have e : (7 : Int) + (j : Int) = ((7 + j : Nat) : Int) := by omega
      exact ⟨_, _, _, 7 + j, false, (by rw [← e]; rfl), z', kd, fun H1 W1 => ⟨W.trans W1, _, _, rfl⟩⟩
    · rintro σ H' ⟨S, v7, v8, rfl⟩
      have SF := (T0.trans (T1.trans (T2.trans T3))).trans S
      exact ⟨_, _, _, 11, false, rfl, ExcAt_up x3' SF, k11, fun H1 W1 => q _ ((S0A.trans SF).trans W1)⟩
end
end K06

set_option maxRecDepth 100000
set_option maxHeartbeats 4000000
namespace K06
open PySem L2
section
variable {P : Program} {w : World} {K : PySem.W.Frag} {mg : Str → Option Value} {base : Heap} {t : Adr}
theorem lk8 {xs ys : List V} (h : xs.length + ys.length ≤ 1000) : xs.length + ys.length ≤ sizeLine := Nat.le_trans h (by decide)
theorem ok_law_of_edits {f : Addr} {fd : FuncData} (Z : Facts K t) (F : FunD K "_law_of_edits" "_law_of_edits" s_law_of_edits f fd .none) (T : Tab P w K mg base 2 (gb_2 K t) bl) : FnOk P w K mg base CX0 3 f fd P_law_of_edits (sp_law_of_edits K t) := by
  refine F.okW0 sc_law_of_edits vi_law_of_edits T (rd_law_of_edits K t) (fun vs H Q E h => ?_) (fun vs H Q E h => ?_)
  · obtain ⟨x, i, rfl, _⟩ := h; rfl
  · obtain ⟨x, i, rfl, q⟩ := h
    have ep : ∀ (n : Nat) C, (editC t)[n]? = some C → NoAttr K C "part" := fun n C h => Z.ep C (List.mem_cons_of_mem _ (List.mem_of_getElem? h))
    have ecx : ∀ (n : Nat) C, (editC t)[n]? = some C → NoAttr K C "choice" := fun n C h => Z.ec C (List.mem_cons_of_mem _ (List.mem_of_getElem? h))
    have na : ∀ (n : Nat) C, (editC t)[n]? = some C → ∀ f ∈ ([("part" : Str), "choice"]), NoAttr K C f := fun n C h => naC (ep n C h) (na1 (ecx n C h))
    refine ⟨by simp, mkI ["part", "choice"] rfl (Z.ke 0 _ rfl).cls (na 0 _ rfl) rfl fun a0 A0 S0 x0 => ?_⟩
    refine ⟨by simp, mkI ["part", "choice"] rfl (Z.ke 1 _ rfl).cls (na 1 _ rfl) rfl fun a1 A1 S1 x1 => ?_⟩
    refine ⟨by simp, mkI ["part", "choice"] rfl (Z.ke 2 _ rfl).cls (na 2 _ rfl) rfl fun a2 A2 S2 x2 => ?_⟩
    refine ⟨by simp, mkI ["part", "choice"] rfl (Z.ke 3 _ rfl).cls (na 3 _ rfl) rfl fun a3 A3 S3 x3 => ?_⟩
    refine ⟨lk (by simp), fun l0 hh => gn hh fun B0 U0 g0 => ?_⟩
    refine ⟨by simp, mkI ["part", "choice"] rfl (Z.ke 4 _ rfl).cls (na 4 _ rfl) rfl fun a4 A4 S4 x4 => ?_⟩
    refine ⟨by simp, mkI ["part", "choice"] rfl (Z.ke 5 _ rfl).cls (na 5 _ rfl) rfl fun a5 A5 S5 x5 => ?_⟩
    refine ⟨by simp, mkI ["part", "choice"] rfl (Z.ke 6 _ rfl).cls (na 6 _ rfl) rfl fun a6 A6 S6 x6 => ?_⟩
    refine ⟨by simp, mkI ["part", "choice"] rfl (Z.ke 7 _ rfl).cls (na 7 _ rfl) rfl fun a7 A7 S7 x7 => ?_⟩
    refine ⟨lk (by simp), fun l1 hh => gn hh fun B1 U1 g1 => ?_⟩
    have g0 := U1 _ _ (S7 _ _ (S6 _ _ (S5 _ _ (S4 _ _ g0))))
    refine .inl ⟨_, _, _, _, rfl, rfl, g0, g1, lk8 (by simp), fun l2 hh => gn hh fun B2 U2 g2 => ?_⟩
    refine ⟨by simp, mkI ["part", "choice"] rfl (Z.ke 0 _ rfl).cls (na 0 _ rfl) rfl fun b0 D0 T0 y0 => ?_⟩
    refine ⟨by simp, mkI ["part", "choice"] rfl (Z.ke 1 _ rfl).cls (na 1 _ rfl) rfl fun b1 D1 T1 y1 => ?_⟩
    refine ⟨by simp, mkI ["part", "choice"] rfl (Z.ke 2 _ rfl).cls (na 2 _ rfl) rfl fun b2 D2 T2 y2 => ?_⟩
    refine ⟨by simp, mkI ["part", "choice"] rfl (Z.ke 3 _ rfl).cls (na 3 _ rfl) rfl fun b3 D3 T3 y3 => ?_⟩
    refine ⟨lk (by simp), fun l3 hh => gn hh fun B3 U3 g3 => ?_⟩
    refine ⟨by simp, mkI ["part", "choice"] rfl (Z.ke 4 _ rfl).cls (na 4 _ rfl) rfl fun b4 D4 T4 y4 => ?_⟩
    refine ⟨by simp, mkI ["part", "choice"] rfl (Z.ke 5 _ rfl).cls (na 5 _ rfl) rfl fun b5 D5 T5 y5 => ?_⟩
    refine ⟨by simp, mkI ["part", "choice"] rfl (Z.ke 6 _ rfl).cls (na 6 _ rfl) rfl fun b6 D6 T6 y6 => ?_⟩
    refine ⟨by simp, mkI ["part", "choice"] rfl (Z.ke 7 _ rfl).cls (na 7 _ rfl) rfl fun b7 D7 T7 y7 => ?_⟩
    refine ⟨lk (by simp), fun l4 hh => gn hh fun B4 U4 g4 => ?_⟩
    have g3 := U4 _ _ (T7 _ _ (T6 _ _ (T5 _ _ (T4 _ _ g3))))
    refine .inl ⟨_, _, _, _, rfl, rfl, g3, g4, lk8 (by simp), fun l5 hh => gn hh fun B5 U5 g5 => ?_⟩
    have R21 : Same B5 B5 := Same.refl _
    have R20 : Same B4 B5 := U5.trans R21
    have R19 : Same D7 B5 := U4.trans R20
    have R18 : Same D6 B5 := T7.trans R19
    have R17 : Same D5 B5 := T6.trans R18
    have R16 : Same D4 B5 := T5.trans R17
    have R15 : Same B3 B5 := T4.trans R16
    have R14 : Same D3 B5 := U3.trans R15
    have R13 : Same D2 B5 := T3.trans R14
    have R12 : Same D1 B5 := T2.trans R13
    have R11 : Same D0 B5 := T1.trans R12
    have R10 : Same B2 B5 := T0.trans R11
    have R9 : Same B1 B5 := U2.trans R10
    have R8 : Same A7 B5 := U1.trans R9
    have R7 : Same A6 B5 := S7.trans R8
    have R6 : Same A5 B5 := S6.trans R7
    have R5 : Same A4 B5 := S5.trans R6
    have R4 : Same B0 B5 := S4.trans R5
    have R3 : Same A3 B5 := U0.trans R4
    have R2 : Same A2 B5 := S3.trans R3
    have R1 : Same A1 B5 := S2.trans R2
    have R0 : Same A0 B5 := S1.trans R1
    have R : Same H B5 := S0.trans R0
    have gm := R10 _ _ g2
    have A : ∀ (n : Nat) C, (editC t)[n]? = some C → ∃ a b, [V.ref a0, .ref a1, .ref a2, .ref a3, .ref a4, .ref a5, .ref a6, .ref a7][n]? = some (.ref a) ∧ [V.ref b0, .ref b1, .ref b2, .ref b3, .ref b4, .ref b5, .ref b6, .ref b7][n]? = some (.ref b) ∧ ExcAt B5 a C [("part", .str x), ("choice", .int i)] ∧ ExcAt B5 b C [("part", .str x), ("choice", .non)] := fun n C hc => by
      match n, hc with
      | 0, hc => cases hc; exact ⟨_, _, rfl, rfl, ExcAt_up x0 R0, ExcAt_up y0 R11⟩
      | 1, hc => cases hc; exact ⟨_, _, rfl, rfl, ExcAt_up x1 R1, ExcAt_up y1 R12⟩
      | 2, hc => cases hc; exact ⟨_, _, rfl, rfl, ExcAt_up x2 R2, ExcAt_up y2 R13⟩
      | 3, hc => cases hc; exact ⟨_, _, rfl, rfl, ExcAt_up x3 R3, ExcAt_up y3 R14⟩
      | 4, hc => cases hc; exact ⟨_, _, rfl, rfl, ExcAt_up x4 R5, ExcAt_up y4 R16⟩
      | 5, hc => cases hc; exact ⟨_, _, rfl, rfl, ExcAt_up x5 R6, ExcAt_up y5 R17⟩
      | 6, hc => cases hc; exact ⟨_, _, rfl, rfl, ExcAt_up x6 R7, ExcAt_up y6 R18⟩
      | 7, hc => cases hc; exact ⟨_, _, rfl, rfl, ExcAt_up x7 R8, ExcAt_up y7 R19⟩
    refine ⟨⟨by decide, by decide⟩, ?_⟩
    have f4 : [V.str x, V.int i, V.str x, V.non].all flatV = true := rfl
    refine for_by (yl_range 0 8) (fun _ σ H' => Same B5 H' ∧ ∃ v4, σ = [some (.str x), some (.int i), some (.ref l2), some (.ref l5), v4, none]) ⟨Same.refl _, _, rfl⟩ (fun _ _ _ _ _ => True.intro) ?_ ?_
    · rintro n y σ H' hy ⟨S, v4, rfl⟩
      have hn : n < 8 := by have := (List.getElem?_eq_some_iff.mp hy).1; rwa [rngV_len] at this
      rw [rngV_get hn, Int.zero_add] at hy
      cases hy
      obtain ⟨C, hc⟩ : ∃ C, (editC t)[n]? = some C := ⟨_, List.getElem?_eq_getElem hn⟩
      obtain ⟨a, b, e1, e2, z1, z2⟩ := A n C hc
      have kd := Z.ke n C hc
      have z1' := ExcAt_up z1 S
      have z2' := ExcAt_up z2 S
      have gm' := S _ _ gm
      have g5' := S _ _ g5
      refine ⟨_, _, .inl (.of gm'), atI_nat e1, .inr ⟨_, _, _, z1', kd.cls, ep n C hc, rfl, ?_⟩⟩
      refine ⟨_, _, .inl (.of gm'), atI_nat e1, .inr ⟨_, _, _, z1', kd.cls, ecx n C hc, rfl, ?_⟩⟩
      refine ⟨_, _, .inl (.of g5'), atI_nat e2, .inr ⟨_, _, _, z2', kd.cls, ep n C hc, rfl, ?_⟩⟩
      refine ⟨_, _, .inl (.of g5'), atI_nat e2, .inr ⟨_, _, _, z2', kd.cls, ecx n C hc, rfl, ?_⟩⟩
      refine ⟨lk (by simp), fun p hh => gn hh fun M1 W1 q1 => ?_⟩
      refine ⟨lk (by simp), fun p' hh => gn hh fun M2 W2 q2 => ?_⟩
      refine ⟨_, _, _, _, rfl, rfl, .of (W2 _ _ q1), .of q2, f4, f4, iteFe (eqF f4) ?_⟩
      have W := W1.trans W2
      refine ⟨_, _, .inl (.of (W _ _ gm')), atI_nat e1, _, _, _, n, true, rfl, ExcAt_up z1' W, kd, fun M3 W3 => ?_⟩
      refine ⟨_, _, .inl (.of ((W.trans W3) _ _ g5')), atI_nat e2, _, _, _, n, true, rfl, ExcAt_up z2' (W.trans W3), kd, fun M4 W4 => ?_⟩
      exact ⟨S.trans ((W.trans W3).trans W4), _, rfl⟩
    · rintro σ H' ⟨S, v4, rfl⟩
      have nb : ∀ f ∈ ([("part" : Str), "choice"]), NoAttr K t.c_EditError f := naC (Z.ep _ (.head _)) (na1 (Z.ec _ (.head _)))
      refine ⟨by simp, mkI ["part", "choice"] rfl Z.kb.cls nb rfl fun a M0 W0 z => ?_⟩
      refine .inr ⟨_, _, _, z, Z.kb.cls, Z.ep _ (.head _), rfl, (iteFe (by show (!decide (x = x)) = false; rw [decide_eq_true rfl]; rfl) ?_)⟩
      refine .inr ⟨_, _, _, z, Z.kb.cls, Z.ec _ (.head _), rfl, (iteFe (by show (!decide (i = i)) = false; rw [decide_eq_true rfl]; rfl) ?_)⟩
      refine ⟨by simp, mkI ["part", "choice"] rfl Z.kb.cls nb rfl fun a2 M1 W1 z2 => ?_⟩
      refine .inr ⟨_, _, _, z2, Z.kb.cls, Z.ec _ (.head _), rfl, ?_⟩
      have z' := ExcAt_up z W1
      refine ⟨_, _, .exc rfl z' Z.kb.cls rfl, Z.kb.leaf, ?_⟩
      refine ⟨_, _, _, 99, true, rfl, z', Z.kb, fun M2 r1 W2 h1 => ?_⟩
      refine ⟨_, _, _, 99, true, rfl, ExcAt_up z' W2, Z.kb, fun M3 r2 W3 h2 => ?_⟩
      refine .inl ⟨_, _, _, _, rfl, rfl, W3 _ _ h1, h2, lk8 (by decide), fun r3 hh => gn hh fun M4 W4 h4 => ?_⟩
      exact ⟨_, _, rfl, .inl (.of h4), rfl, rfl, q _ (R.trans (S.trans (W0.trans (W1.trans (W2.trans (W3.trans W4))))))⟩
theorem ok_law {f : Addr} {fd : FuncData} (Z : Facts K t) (F : FunD K "law" "law" s_law f fd .none) (T : Tab P w K mg base 3 (gb_3 K t) bl) : FnOk P w K mg base CX0 4 f fd P_law (sp_law K t) := by
  refine F.okW0 sc_law vi_law T (rd_law K t) (fun vs H Q E h => ?_) (fun vs H Q E h => ?_)
  · obtain ⟨a, ns, rfl, _⟩ := h; rfl
  · obtain ⟨a, ns, rfl, hS, hn, k⟩ := h
    refine ⟨⟨by decide, by decide⟩, ?_⟩
    refine for_by (yl_range 0 4) (fun _ σ H' => Same H H' ∧ ∃ v1 v2 v3 v4 v5, σ = [some (.ref a), v1, v2, v3, v4, v5]) ⟨Same.refl _, _, _, _, _, _, rfl⟩ (fun _ _ _ _ _ => True.intro) ?_ ?_
    · rintro n y σ H' hy ⟨S, v1, v2, v3, v4, v5, rfl⟩
      have hn : n < 4 := by have := (List.getElem?_eq_some_iff.mp hy).1; rwa [rngV_len] at this
      rw [rngV_get hn, Int.zero_add] at hy
      cases hy
      refine ⟨a, ns, n, rfl, S.seq hS, fun c => ?_⟩
      refine ⟨lk (by simp), fun p hh => gn hh fun M1 W1 q1 => ⟨by decide, ?_⟩⟩
      obtain ⟨j, hj, ej⟩ : ∃ j : Nat, j < 4 ∧ c % 4 = (j : Int) := ⟨(c % 4).toNat, by have := Int.emod_nonneg c (show (4 : Int) ≠ 0 by decide); have := Int.emod_lt_of_pos c (show (0 : Int) < 4 by decide); omega, by have := Int.emod_nonneg c (show (4 : Int) ≠ 0 by decide); omega⟩
      obtain ⟨z, hz⟩ : ∃ z : Str, [V.str "", V.str "a", V.str "b.2", V.str "abcdefghijkl"][j]? = some (.str z) := by
        match j, hj with
        | 0, _ => exact ⟨_, rfl⟩
        | 1, _ => exact ⟨_, rfl⟩
        | 2, _ => exact ⟨_, rfl⟩
        | 3, _ => exact ⟨_, rfl⟩
      refine ⟨_, _, .inl (.of q1), by rw [ej]; exact atI_nat hz, ?_⟩
      refine ⟨⟨by decide, by decide⟩, by decide, ?_⟩
      refine ⟨c, 1, rfl, by decide, by decide, fun r M2 W2 => ⟨by decide, ?_⟩⟩
      refine ⟨lk (by simp), fun p' hh => gn hh fun M3 W3 q3 => ⟨⟨by decide, by decide⟩, by decide, ?_⟩⟩
      obtain ⟨o, ho, hz2⟩ : ∃ o, (o = .non ∨ ∃ j : Int, o = .int j) ∧ atI [V.non, V.int (r % 256)] (c / 1200 % 2) = some o := by
        have h1 := Int.emod_nonneg (c / 1200) (show (2 : Int) ≠ 0 by decide)
        have h2 := Int.emod_lt_of_pos (c / 1200) (show (0 : Int) < 2 by decide)
        have h3 : c / 1200 % 2 = ((0 : Nat) : Int) ∨ c / 1200 % 2 = ((1 : Nat) : Int) := by omega
        rcases h3 with h3 | h3
        · exact ⟨_, .inl rfl, by rw [h3]; exact atI_nat rfl⟩
        · exact ⟨_, .inr ⟨_, rfl⟩, by rw [h3]; exact atI_nat rfl⟩
      refine ⟨_, _, .inl (.of q3), hz2, ?_⟩
      refine ⟨z, _, o, rfl, ho, fun M4 W4 => ?_⟩
      refine ⟨z, _, rfl, fun M5 W5 => ?_⟩
      exact ⟨S.trans (W1.trans (W2.trans (W3.trans (W4.trans W5)))), _, _, _, _, _, rfl⟩
    · rintro σ H' ⟨S, v1, v2, v3, v4, v5, rfl⟩
      exact ⟨rfl, k⟩
end
end K06

set_option maxRecDepth 100000
set_option maxHeartbeats 4000000
namespace K06
open PySem L2
def allC (t : Adr) : List Addr := t.c_LeafError :: t.c_EditError :: (firstC t ++ editC t)
theorem all_first {t : Adr} {i : Nat} {C : Addr} (h : (firstC t)[i]? = some C) : (allC t)[i + 2]? = some C := by
  show (firstC t ++ editC t)[i]? = some C
  rw [List.getElem?_append_left (List.getElem?_eq_some_iff.mp h).1]
  exact h
theorem all_edit {t : Adr} {i : Nat} {C : Addr} (h : (editC t)[i]? = some C) : (allC t)[i + 14]? = some C := by
  show (firstC t ++ editC t)[i + 12]? = some C
  rw [List.getElem?_append_right (show (firstC t).length ≤ i + 12 by show 12 ≤ i + 12; omega)]
  show (editC t)[i + 12 - 12]? = some C
  rw [Nat.add_sub_cancel]
  exact h
theorem nd_ix {N : List Addr} (hN : N.Nodup) {i j : Nat} {x : Addr} (a : N[i]? = some x) (b : N[j]? = some x) : i = j := by
  obtain ⟨hi, ei⟩ := List.getElem?_eq_some_iff.mp a
  obtain ⟨hj, ej⟩ := List.getElem?_eq_some_iff.mp b
  exact (List.getElem_inj hN).mp (ei.trans ej.symm)
theorem cont_ref (l : List Addr) (D : Addr) : (l.map Value.ref ++ valTail).contains (.ref D) = l.contains D := by
  induction l with
  | nil => rfl
  | cons a r ih =>
    have e : (Value.ref D == Value.ref a) = (D == a) := by
      rw [Bool.eq_iff_iff, beq_iff_eq, beq_iff_eq]
      exact ⟨Value.ref.inj, fun z => by rw [z]⟩
    rw [List.map_cons, List.cons_append, List.contains_cons, List.contains_cons, ih, e]
theorem kitN {K : PySem.W.Frag} {t : Adr} (nd : (allC t).Nodup) {C D : Addr} {bm bd : List Value} (x : XC K C bm) (y : XC K D bd) {L : List Nat} {b : Nat} (hL : Value.ref C :: bm = (L.filterMap fun k => (allC t)[k]?).map Value.ref ++ valTail) (hb : (allC t)[b]? = some D) :
    PySem.W.kitOne K (.ref C) (.ref D) = some (L.contains b) := by
  refine x.kit y ?_
  rw [hL, cont_ref, Bool.eq_iff_iff, List.contains_iff_mem, List.contains_iff_mem, List.mem_filterMap]
  constructor
  · rintro ⟨k, hk, e⟩
    rw [nd_ix nd hb e]
    exact hk
  · exact fun h => ⟨b, h, hb⟩
theorem c2 (a j : Nat) : [a + 2, 0].contains (j + 2) = decide (j = a) := by
  rw [Bool.eq_iff_iff, List.contains_iff_mem, decide_eq_true_iff]
  simp
theorem c14 (a j : Nat) (h : a < 12) : [a + 2, 0].contains (j + 14) = false := by
  rw [Bool.eq_false_iff]
  intro z
  rw [List.contains_iff_mem] at z
  simp at z
  omega
theorem d2 (a j : Nat) (h : j < 12) : [a + 14, 1, 0].contains (j + 2) = false := by
  rw [Bool.eq_false_iff]
  intro z
  rw [List.contains_iff_mem] at z
  simp at z
  omega
theorem d14 (a j : Nat) : [a + 14, 1, 0].contains (j + 14) = decide (j = a) := by
  rw [Bool.eq_iff_iff, List.contains_iff_mem, decide_eq_true_iff]
  simp
theorem facts_of {K : PySem.W.Frag} {t : Adr} (nd : (allC t).Nodup) (xl : XC K t.c_LeafError valTail) (xd : XC K t.c_EditError (.ref t.c_LeafError :: valTail))
    (xf : ∀ (i : Nat) C, (firstC t)[i]? = some C → XC K C (.ref t.c_LeafError :: valTail)) (xe : ∀ (i : Nat) C, (editC t)[i]? = some C → XC K C (.ref t.c_EditError :: .ref t.c_LeafError :: valTail))
    (page1 : NoAttr K t.c_BadPage "line") (page2 : NoAttr K t.c_BadPage "choice") (unl1 : NoAttr K t.c_Unlike "part") (unl2 : NoAttr K t.c_Unlike "one") (unl3 : NoAttr K t.c_Unlike "other")
    (st1 : NoAttr K t.c_StandsOn "number") (st2 : NoAttr K t.c_StandsOn "choice") (ned : NoAttr K t.c_NoEditor "editor") (n1 : NoAttr K t.c_NoEdit "number") (n2 : NoAttr K t.c_NotLive "number") (n3 : NoAttr K t.c_IsLive "number")
    (ep : ∀ C ∈ t.c_EditError :: editC t, NoAttr K C "part") (ec : ∀ C ∈ t.c_EditError :: editC t, NoAttr K C "choice") : Facts K t := by
  have t0 : excTail valTail = true := by decide +kernel
  have t1 : excTail (Value.ref t.c_LeafError :: valTail) = true := t0
  have t2 : excTail (Value.ref t.c_EditError :: Value.ref t.c_LeafError :: valTail) = true := t0
  have e0 : (allC t)[0]? = some t.c_LeafError := rfl
  have e1 : (allC t)[1]? = some t.c_EditError := rfl
  have i12 : ∀ {i : Nat} {C}, (firstC t)[i]? = some C → i < 12 := fun h => (List.getElem?_eq_some_iff.mp h).1
  have i8 : ∀ {i : Nat} {C}, (editC t)[i]? = some C → i < 8 := fun h => (List.getElem?_eq_some_iff.mp h).1
  have lf : ∀ {i : Nat} {C}, (firstC t)[i]? = some C → Value.ref C :: (.ref t.c_LeafError :: valTail) = ([i + 2, 0].filterMap fun k => (allC t)[k]?).map Value.ref ++ valTail := fun {i C} h => by
    simp only [List.filterMap_cons, List.filterMap_nil, all_first h, e0]
    rfl
  have le : ∀ {i : Nat} {C}, (editC t)[i]? = some C → Value.ref C :: (.ref t.c_EditError :: .ref t.c_LeafError :: valTail) = ([i + 14, 1, 0].filterMap fun k => (allC t)[k]?).map Value.ref ++ valTail := fun {i C} h => by
    simp only [List.filterMap_cons, List.filterMap_nil, all_edit h, e0, e1]
    rfl
  have ld : Value.ref t.c_EditError :: (.ref t.c_LeafError :: valTail) = ([1, 0].filterMap fun k => (allC t)[k]?).map Value.ref ++ valTail := rfl
  refine ⟨fun i C h => ?_, fun i C h => ?_, ?_, xl.ecls t0, xl.kitV t0, page1, page2, unl1, unl2, unl3, st1, st2, ned, n1, n2, n3, ep, ec⟩
  · have x := xf i C h
    refine ⟨x.ecls t1, fun j D hD => ?_, fun j D hD => ?_, ?_, ?_, x.kitV t1⟩
    · rw [kitN nd x (xf j D hD) (lf h) (all_first hD), c2, Bool.not_false, Bool.and_true]
    · rw [kitN nd x (xe j D hD) (lf h) (all_edit hD), c14 i j (i12 h), Bool.and_false]
    · rw [kitN nd x xd (lf h) e1]
      simp
    · rw [kitN nd x xl (lf h) e0]
      simp
  · have x := xe i C h
    refine ⟨x.ecls t2, fun j D hD => ?_, fun j D hD => ?_, ?_, ?_, x.kitV t2⟩
    · rw [kitN nd x (xf j D hD) (le h) (all_first hD), d2 i j (i12 hD), Bool.not_true, Bool.and_false]
    · rw [kitN nd x (xe j D hD) (le h) (all_edit hD), d14, Bool.and_true]
    · rw [kitN nd x xd (le h) e1]
      simp
    · rw [kitN nd x xl (le h) e0]
      simp
  · refine ⟨xd.ecls t1, fun j D hD => ?_, fun j D hD => ?_, ?_, ?_, xd.kitV t1⟩
    · rw [kitN nd xd (xf j D hD) ld (all_first hD), Bool.not_true, Bool.and_false]
      rw [show [1, 0].contains (j + 2) = false from by simp]
    · have := i8 hD
      rw [kitN nd xd (xe j D hD) ld (all_edit hD), decide_eq_false (by omega), Bool.false_and]
      rw [show [1, 0].contains (j + 14) = false from by simp]
    · rw [kitN nd xd xd ld e1]
      rfl
    · rw [kitN nd xd xl ld e0]
      rfl
end K06

set_option maxRecDepth 100000
set_option maxHeartbeats 4000000
namespace K06
open PySem L2
structure AdrOk (K : PySem.W.Frag) (mg : Str → Option Value) (t : Adr) : Prop where
  F_law_cell_at : FunD K "_law_cell_at" "_law_cell_at" s_law_cell_at t.f_law_cell_at t.d_law_cell_at .none
  b_law_cell_at : ∀ j, j ≤ 0 → Binds K t.d_law_cell_at P_law_cell_at (([] : List Value).drop j)
  w_law_cell_at : Vals [] ([] : List Value)
  m_law_cell_at : mg "_law_cell_at" = some (.ref t.f_law_cell_at)
  F_law_mix : FunD K "_law_mix" "_law_mix" s_law_mix t.f_law_mix t.d_law_mix .none
  b_law_mix : ∀ j, j ≤ 0 → Binds K t.d_law_mix P_law_mix (([] : List Value).drop j)
  w_law_mix : Vals [] ([] : List Value)
  m_law_mix : mg "_law_mix" = some (.ref t.f_law_mix)
  F_law_first : FunD K "_law_first" "_law_first" s_law_first t.f_law_first t.d_law_first .none
  b_law_first : ∀ j, j ≤ 0 → Binds K t.d_law_first P_law_first (([] : List Value).drop j)
  w_law_first : Vals [] ([] : List Value)
  m_law_first : mg "_law_first" = some (.ref t.f_law_first)
  F_law_edits : FunD K "_law_edits" "_law_edits" s_law_edits t.f_law_edits t.d_law_edits .none
  b_law_edits : ∀ j, j ≤ 0 → Binds K t.d_law_edits P_law_edits (([] : List Value).drop j)
  w_law_edits : Vals [] ([] : List Value)
  m_law_edits : mg "_law_edits" = some (.ref t.f_law_edits)
  F_law_good : FunD K "_law_good" "_law_good" s_law_good t.f_law_good t.d_law_good .none
  b_law_good : ∀ j, j ≤ 0 → Binds K t.d_law_good P_law_good (([] : List Value).drop j)
  w_law_good : Vals [] ([] : List Value)
  m_law_good : mg "_law_good" = some (.ref t.f_law_good)
  F_law_plain_ones : FunD K "_law_plain_ones" "_law_plain_ones" s_law_plain_ones t.f_law_plain_ones t.d_law_plain_ones .none
  b_law_plain_ones : ∀ j, j ≤ 0 → Binds K t.d_law_plain_ones P_law_plain_ones (([] : List Value).drop j)
  w_law_plain_ones : Vals [] ([] : List Value)
  m_law_plain_ones : mg "_law_plain_ones" = some (.ref t.f_law_plain_ones)
  F_BadPage_init : FunD K "__init__" "BadPage.__init__" s_BadPage_init t.f_BadPage_init t.d_BadPage_init .none
  b_BadPage_init : ∀ j, j ≤ 0 → Binds K t.d_BadPage_init P_BadPage_init (([] : List Value).drop j)
  w_BadPage_init : Vals [] ([] : List Value)
  if_BadPage_init : PySem.W.isFn K (.ref t.f_BadPage_init) = true
  F_Unlike_init : FunD K "__init__" "Unlike.__init__" s_Unlike_init t.f_Unlike_init t.d_Unlike_init .none
  b_Unlike_init : ∀ j, j ≤ 0 → Binds K t.d_Unlike_init P_Unlike_init (([] : List Value).drop j)
  w_Unlike_init : Vals [] ([] : List Value)
  if_Unlike_init : PySem.W.isFn K (.ref t.f_Unlike_init) = true
  F_NoEdit_init : FunD K "__init__" "NoEdit.__init__" s_NoEdit_init t.f_NoEdit_init t.d_NoEdit_init .none
  b_NoEdit_init : ∀ j, j ≤ 0 → Binds K t.d_NoEdit_init P_NoEdit_init (([] : List Value).drop j)
  w_NoEdit_init : Vals [] ([] : List Value)
  if_NoEdit_init : PySem.W.isFn K (.ref t.f_NoEdit_init) = true
  F_NotLive_init : FunD K "__init__" "NotLive.__init__" s_NotLive_init t.f_NotLive_init t.d_NotLive_init .none
  b_NotLive_init : ∀ j, j ≤ 0 → Binds K t.d_NotLive_init P_NotLive_init (([] : List Value).drop j)
  w_NotLive_init : Vals [] ([] : List Value)
  if_NotLive_init : PySem.W.isFn K (.ref t.f_NotLive_init) = true
  F_IsLive_init : FunD K "__init__" "IsLive.__init__" s_IsLive_init t.f_IsLive_init t.d_IsLive_init .none
  b_IsLive_init : ∀ j, j ≤ 0 → Binds K t.d_IsLive_init P_IsLive_init (([] : List Value).drop j)
  w_IsLive_init : Vals [] ([] : List Value)
  if_IsLive_init : PySem.W.isFn K (.ref t.f_IsLive_init) = true
  F_StandsOn_init : FunD K "__init__" "StandsOn.__init__" s_StandsOn_init t.f_StandsOn_init t.d_StandsOn_init .none
  b_StandsOn_init : ∀ j, j ≤ 0 → Binds K t.d_StandsOn_init P_StandsOn_init (([] : List Value).drop j)
  w_StandsOn_init : Vals [] ([] : List Value)
  if_StandsOn_init : PySem.W.isFn K (.ref t.f_StandsOn_init) = true
  F_NoEditor_init : FunD K "__init__" "NoEditor.__init__" s_NoEditor_init t.f_NoEditor_init t.d_NoEditor_init .none
  b_NoEditor_init : ∀ j, j ≤ 0 → Binds K t.d_NoEditor_init P_NoEditor_init (([] : List Value).drop j)
  w_NoEditor_init : Vals [] ([] : List Value)
  if_NoEditor_init : PySem.W.isFn K (.ref t.f_NoEditor_init) = true
  F_law_with_fields : FunD K "_law_with_fields" "_law_with_fields" s_law_with_fields t.f_law_with_fields t.d_law_with_fields .none
  b_law_with_fields : ∀ j, j ≤ 0 → Binds K t.d_law_with_fields P_law_with_fields (([] : List Value).drop j)
  w_law_with_fields : Vals [] ([] : List Value)
  m_law_with_fields : mg "_law_with_fields" = some (.ref t.f_law_with_fields)
  F_EditError_init : FunD K "__init__" "EditError.__init__" s_EditError_init t.f_EditError_init t.d_EditError_init t.dv_EditError_init
  b_EditError_init : ∀ j, j ≤ 1 → Binds K t.d_EditError_init P_EditError_init (t.du_EditError_init.drop j)
  w_EditError_init : Vals [.non] t.du_EditError_init
  if_EditError_init : PySem.W.isFn K (.ref t.f_EditError_init) = true
  F_law_of_edits : FunD K "_law_of_edits" "_law_of_edits" s_law_of_edits t.f_law_of_edits t.d_law_of_edits .none
  b_law_of_edits : ∀ j, j ≤ 0 → Binds K t.d_law_of_edits P_law_of_edits (([] : List Value).drop j)
  w_law_of_edits : Vals [] ([] : List Value)
  m_law_of_edits : mg "_law_of_edits" = some (.ref t.f_law_of_edits)
  F_law : FunD K "law" "law" s_law t.f_law t.d_law .none
  b_law : ∀ j, j ≤ 0 → Binds K t.d_law P_law (([] : List Value).drop j)
  w_law : Vals [] ([] : List Value)
  m_law : mg "law" = some (.ref t.f_law)
  at_LeafError : mg "LeafError" = some (.ref t.c_LeafError)
  kp_LeafError : PySem.W.keepIn K (.ref t.c_LeafError) = true
  ec_LeafError : ECls K t.c_LeafError
  in_LeafError : PySem.W.findIn K (.ref t.c_LeafError) "__init__" = some (some (.builtin "ValueError.__init__"))
  at_BadPanel : mg "BadPanel" = some (.ref t.c_BadPanel)
  kp_BadPanel : PySem.W.keepIn K (.ref t.c_BadPanel) = true
  ec_BadPanel : ECls K t.c_BadPanel
  in_BadPanel : PySem.W.findIn K (.ref t.c_BadPanel) "__init__" = some (some (.builtin "ValueError.__init__"))
  at_NoChoice : mg "NoChoice" = some (.ref t.c_NoChoice)
  kp_NoChoice : PySem.W.keepIn K (.ref t.c_NoChoice) = true
  ec_NoChoice : ECls K t.c_NoChoice
  in_NoChoice : PySem.W.findIn K (.ref t.c_NoChoice) "__init__" = some (some (.builtin "ValueError.__init__"))
  at_BadCond : mg "BadCond" = some (.ref t.c_BadCond)
  kp_BadCond : PySem.W.keepIn K (.ref t.c_BadCond) = true
  ec_BadCond : ECls K t.c_BadCond
  in_BadCond : PySem.W.findIn K (.ref t.c_BadCond) "__init__" = some (some (.builtin "ValueError.__init__"))
  at_BadEdit : mg "BadEdit" = some (.ref t.c_BadEdit)
  kp_BadEdit : PySem.W.keepIn K (.ref t.c_BadEdit) = true
  ec_BadEdit : ECls K t.c_BadEdit
  in_BadEdit : PySem.W.findIn K (.ref t.c_BadEdit) "__init__" = some (some (.builtin "ValueError.__init__"))
  at_NoRow : mg "NoRow" = some (.ref t.c_NoRow)
  kp_NoRow : PySem.W.keepIn K (.ref t.c_NoRow) = true
  ec_NoRow : ECls K t.c_NoRow
  in_NoRow : PySem.W.findIn K (.ref t.c_NoRow) "__init__" = some (some (.builtin "ValueError.__init__"))
  at_BadPage : mg "BadPage" = some (.ref t.c_BadPage)
  kp_BadPage : PySem.W.keepIn K (.ref t.c_BadPage) = true
  ec_BadPage : ECls K t.c_BadPage
  in_BadPage : PySem.W.findIn K (.ref t.c_BadPage) "__init__" = some (some (.ref t.f_BadPage_init))
  at_Unlike : mg "Unlike" = some (.ref t.c_Unlike)
  kp_Unlike : PySem.W.keepIn K (.ref t.c_Unlike) = true
  ec_Unlike : ECls K t.c_Unlike
  in_Unlike : PySem.W.findIn K (.ref t.c_Unlike) "__init__" = some (some (.ref t.f_Unlike_init))
  at_NoEdit : mg "NoEdit" = some (.ref t.c_NoEdit)
  kp_NoEdit : PySem.W.keepIn K (.ref t.c_NoEdit) = true
  ec_NoEdit : ECls K t.c_NoEdit
  in_NoEdit : PySem.W.findIn K (.ref t.c_NoEdit) "__init__" = some (some (.ref t.f_NoEdit_init))
  at_NotLive : mg "NotLive" = some (.ref t.c_NotLive)
  kp_NotLive : PySem.W.keepIn K (.ref t.c_NotLive) = true
  ec_NotLive : ECls K t.c_NotLive
  in_NotLive : PySem.W.findIn K (.ref t.c_NotLive) "__init__" = some (some (.ref t.f_NotLive_init))
  at_IsLive : mg "IsLive" = some (.ref t.c_IsLive)
  kp_IsLive : PySem.W.keepIn K (.ref t.c_IsLive) = true
  ec_IsLive : ECls K t.c_IsLive
  in_IsLive : PySem.W.findIn K (.ref t.c_IsLive) "__init__" = some (some (.ref t.f_IsLive_init))
  at_StandsOn : mg "StandsOn" = some (.ref t.c_StandsOn)
  kp_StandsOn : PySem.W.keepIn K (.ref t.c_StandsOn) = true
  ec_StandsOn : ECls K t.c_StandsOn
  in_StandsOn : PySem.W.findIn K (.ref t.c_StandsOn) "__init__" = some (some (.ref t.f_StandsOn_init))
  at_NoEditor : mg "NoEditor" = some (.ref t.c_NoEditor)
  kp_NoEditor : PySem.W.keepIn K (.ref t.c_NoEditor) = true
  ec_NoEditor : ECls K t.c_NoEditor
  in_NoEditor : PySem.W.findIn K (.ref t.c_NoEditor) "__init__" = some (some (.ref t.f_NoEditor_init))
  at_EditError : mg "EditError" = some (.ref t.c_EditError)
  kp_EditError : PySem.W.keepIn K (.ref t.c_EditError) = true
  ec_EditError : ECls K t.c_EditError
  in_EditError : PySem.W.findIn K (.ref t.c_EditError) "__init__" = some (some (.ref t.f_EditError_init))
  at_NoPart : mg "NoPart" = some (.ref t.c_NoPart)
  kp_NoPart : PySem.W.keepIn K (.ref t.c_NoPart) = true
  ec_NoPart : ECls K t.c_NoPart
  in_NoPart : PySem.W.findIn K (.ref t.c_NoPart) "__init__" = some (some (.ref t.f_EditError_init))
  at_Doubled : mg "Doubled" = some (.ref t.c_Doubled)
  kp_Doubled : PySem.W.keepIn K (.ref t.c_Doubled) = true
  ec_Doubled : ECls K t.c_Doubled
  in_Doubled : PySem.W.findIn K (.ref t.c_Doubled) "__init__" = some (some (.ref t.f_EditError_init))
  at_Lost : mg "Lost" = some (.ref t.c_Lost)
  kp_Lost : PySem.W.keepIn K (.ref t.c_Lost) = true
  ec_Lost : ECls K t.c_Lost
  in_Lost : PySem.W.findIn K (.ref t.c_Lost) "__init__" = some (some (.ref t.f_EditError_init))
  at_Ring : mg "Ring" = some (.ref t.c_Ring)
  kp_Ring : PySem.W.keepIn K (.ref t.c_Ring) = true
  ec_Ring : ECls K t.c_Ring
  in_Ring : PySem.W.findIn K (.ref t.c_Ring) "__init__" = some (some (.ref t.f_EditError_init))
  at_NoHolder : mg "NoHolder" = some (.ref t.c_NoHolder)
  kp_NoHolder : PySem.W.keepIn K (.ref t.c_NoHolder) = true
  ec_NoHolder : ECls K t.c_NoHolder
  in_NoHolder : PySem.W.findIn K (.ref t.c_NoHolder) "__init__" = some (some (.ref t.f_EditError_init))
  at_WrongKind : mg "WrongKind" = some (.ref t.c_WrongKind)
  kp_WrongKind : PySem.W.keepIn K (.ref t.c_WrongKind) = true
  ec_WrongKind : ECls K t.c_WrongKind
  in_WrongKind : PySem.W.findIn K (.ref t.c_WrongKind) "__init__" = some (some (.ref t.f_EditError_init))
  at_Far : mg "Far" = some (.ref t.c_Far)
  kp_Far : PySem.W.keepIn K (.ref t.c_Far) = true
  ec_Far : ECls K t.c_Far
  in_Far : PySem.W.findIn K (.ref t.c_Far) "__init__" = some (some (.ref t.f_EditError_init))
  at_TooLong : mg "TooLong" = some (.ref t.c_TooLong)
  kp_TooLong : PySem.W.keepIn K (.ref t.c_TooLong) = true
  ec_TooLong : ECls K t.c_TooLong
  in_TooLong : PySem.W.findIn K (.ref t.c_TooLong) "__init__" = some (some (.ref t.f_EditError_init))
  z_ValueError : mg "ValueError" = none
  z_enumerate : mg "enumerate" = none
  z_isinstance : mg "isinstance" = none
  z_len : mg "len" = none
  z_range : mg "range" = none
  Z : Facts K t
theorem law_ok {P : Program} {w : World} {K : PySem.W.Frag} {mg : Str → Option Value} {base : Heap} {t : Adr} (A : AdrOk K mg t) : FnOk P w K mg base CX0 4 t.f_law t.d_law P_law (sp_law K t) := by
  have T0 : Tab P w K mg base 0 (gb_0 K t) bl := ((((((((((((((((((((((Tab.nil (fun x hx => by
    simp only [bl, List.mem_cons, List.not_mem_nil, or_false] at hx
    rcases hx with rfl | rfl | rfl | rfl | rfl
    · exact A.z_ValueError
    · exact A.z_enumerate
    · exact A.z_isinstance
    · exact A.z_len
    · exact A.z_range)).consV (v := .ref t.c_TooLong) A.at_TooLong rfl).consV (v := .ref t.c_Far) A.at_Far rfl).consV (v := .ref t.c_WrongKind) A.at_WrongKind rfl).consV (v := .ref t.c_NoHolder) A.at_NoHolder rfl).consV (v := .ref t.c_Ring) A.at_Ring rfl).consV (v := .ref t.c_Lost) A.at_Lost rfl).consV (v := .ref t.c_Doubled) A.at_Doubled rfl).consV (v := .ref t.c_NoPart) A.at_NoPart rfl).consV (v := .ref t.c_EditError) A.at_EditError rfl).consV (v := .ref t.c_NoEditor) A.at_NoEditor rfl).consV (v := .ref t.c_StandsOn) A.at_StandsOn rfl).consV (v := .ref t.c_IsLive) A.at_IsLive rfl).consV (v := .ref t.c_NotLive) A.at_NotLive rfl).consV (v := .ref t.c_NoEdit) A.at_NoEdit rfl).consV (v := .ref t.c_Unlike) A.at_Unlike rfl).consV (v := .ref t.c_BadPage) A.at_BadPage rfl).consX (oi := none) ⟨A.at_NoRow, A.kp_NoRow, A.ec_NoRow, A.in_NoRow⟩).consX (oi := none) ⟨A.at_BadEdit, A.kp_BadEdit, A.ec_BadEdit, A.in_BadEdit⟩).consX (oi := none) ⟨A.at_BadCond, A.kp_BadCond, A.ec_BadCond, A.in_BadCond⟩).consX (oi := none) ⟨A.at_NoChoice, A.kp_NoChoice, A.ec_NoChoice, A.in_NoChoice⟩).consX (oi := none) ⟨A.at_BadPanel, A.kp_BadPanel, A.ec_BadPanel, A.in_BadPanel⟩).consX (oi := none) ⟨A.at_LeafError, A.kp_LeafError, A.ec_LeafError, A.in_LeafError⟩
  have T1 : Tab P w K mg base 1 (gb_1 K t) bl := ((((T0.mono (show 0 ≤ 1 by decide)).cons (i := i_law_edits K t) ⟨A.m_law_edits, A.F_law_edits.kp, ⟨CX0, fun X' _ _ => pass_CX0 X', ok_law_edits (t := t) A.Z A.F_law_edits T0⟩, Nat.le_refl 1, A.b_law_edits, A.w_law_edits⟩).cons (i := i_law_first K t) ⟨A.m_law_first, A.F_law_first.kp, ⟨CX0, fun X' _ _ => pass_CX0 X', ok_law_first (t := t) A.Z A.F_law_first T0⟩, Nat.le_refl 1, A.b_law_first, A.w_law_first⟩).cons (i := i_law_mix K t) ⟨A.m_law_mix, A.F_law_mix.kp, ⟨CX0, fun X' _ _ => pass_CX0 X', ok_law_mix (t := t) A.Z A.F_law_mix T0⟩, Nat.le_refl 1, A.b_law_mix, A.w_law_mix⟩).cons (i := i_law_cell_at K t) ⟨A.m_law_cell_at, A.F_law_cell_at.kp, ⟨CX0, fun X' _ _ => pass_CX0 X', ok_law_cell_at (t := t) A.Z A.F_law_cell_at T0⟩, Nat.le_refl 1, A.b_law_cell_at, A.w_law_cell_at⟩
  have T2 : Tab P w K mg base 2 (gb_2 K t) bl := (((((((((((((((((T1.mono (show 1 ≤ 2 by decide)).consX (oi := some (i_EditError_init K t)) ⟨A.at_TooLong, A.kp_TooLong, A.ec_TooLong, A.in_TooLong, A.if_EditError_init, A.F_EditError_init.kp, ⟨CX0, fun X' _ _ => pass_CX0 X', ok_EditError_init (t := t) A.Z A.F_EditError_init T0⟩, Nat.le_refl 2, A.b_EditError_init, A.w_EditError_init⟩).consX (oi := some (i_EditError_init K t)) ⟨A.at_Far, A.kp_Far, A.ec_Far, A.in_Far, A.if_EditError_init, A.F_EditError_init.kp, ⟨CX0, fun X' _ _ => pass_CX0 X', ok_EditError_init (t := t) A.Z A.F_EditError_init T0⟩, Nat.le_refl 2, A.b_EditError_init, A.w_EditError_init⟩).consX (oi := some (i_EditError_init K t)) ⟨A.at_WrongKind, A.kp_WrongKind, A.ec_WrongKind, A.in_WrongKind, A.if_EditError_init, A.F_EditError_init.kp, ⟨CX0, fun X' _ _ => pass_CX0 X', ok_EditError_init (t := t) A.Z A.F_EditError_init T0⟩, Nat.le_refl 2, A.b_EditError_init, A.w_EditError_init⟩).consX (oi := some (i_EditError_init K t)) ⟨A.at_NoHolder, A.kp_NoHolder, A.ec_NoHolder, A.in_NoHolder, A.if_EditError_init, A.F_EditError_init.kp, ⟨CX0, fun X' _ _ => pass_CX0 X', ok_EditError_init (t := t) A.Z A.F_EditError_init T0⟩, Nat.le_refl 2, A.b_EditError_init, A.w_EditError_init⟩).consX (oi := some (i_EditError_init K t)) ⟨A.at_Ring, A.kp_Ring, A.ec_Ring, A.in_Ring, A.if_EditError_init, A.F_EditError_init.kp, ⟨CX0, fun X' _ _ => pass_CX0 X', ok_EditError_init (t := t) A.Z A.F_EditError_init T0⟩, Nat.le_refl 2, A.b_EditError_init, A.w_EditError_init⟩).consX (oi := some (i_EditError_init K t)) ⟨A.at_Lost, A.kp_Lost, A.ec_Lost, A.in_Lost, A.if_EditError_init, A.F_EditError_init.kp, ⟨CX0, fun X' _ _ => pass_CX0 X', ok_EditError_init (t := t) A.Z A.F_EditError_init T0⟩, Nat.le_refl 2, A.b_EditError_init, A.w_EditError_init⟩).consX (oi := some (i_EditError_init K t)) ⟨A.at_Doubled, A.kp_Doubled, A.ec_Doubled, A.in_Doubled, A.if_EditError_init, A.F_EditError_init.kp, ⟨CX0, fun X' _ _ => pass_CX0 X', ok_EditError_init (t := t) A.Z A.F_EditError_init T0⟩, Nat.le_refl 2, A.b_EditError_init, A.w_EditError_init⟩).consX (oi := some (i_EditError_init K t)) ⟨A.at_NoPart, A.kp_NoPart, A.ec_NoPart, A.in_NoPart, A.if_EditError_init, A.F_EditError_init.kp, ⟨CX0, fun X' _ _ => pass_CX0 X', ok_EditError_init (t := t) A.Z A.F_EditError_init T0⟩, Nat.le_refl 2, A.b_EditError_init, A.w_EditError_init⟩).consX (oi := some (i_EditError_init K t)) ⟨A.at_EditError, A.kp_EditError, A.ec_EditError, A.in_EditError, A.if_EditError_init, A.F_EditError_init.kp, ⟨CX0, fun X' _ _ => pass_CX0 X', ok_EditError_init (t := t) A.Z A.F_EditError_init T0⟩, Nat.le_refl 2, A.b_EditError_init, A.w_EditError_init⟩).consX (oi := some (i_NoEditor_init K t)) ⟨A.at_NoEditor, A.kp_NoEditor, A.ec_NoEditor, A.in_NoEditor, A.if_NoEditor_init, A.F_NoEditor_init.kp, ⟨CX0, fun X' _ _ => pass_CX0 X', ok_NoEditor_init (t := t) A.Z A.F_NoEditor_init T0⟩, Nat.le_refl 2, A.b_NoEditor_init, A.w_NoEditor_init⟩).consX (oi := some (i_StandsOn_init K t)) ⟨A.at_StandsOn, A.kp_StandsOn, A.ec_StandsOn, A.in_StandsOn, A.if_StandsOn_init, A.F_StandsOn_init.kp, ⟨CX0, fun X' _ _ => pass_CX0 X', ok_StandsOn_init (t := t) A.Z A.F_StandsOn_init T0⟩, Nat.le_refl 2, A.b_StandsOn_init, A.w_StandsOn_init⟩).consX (oi := some (i_IsLive_init K t)) ⟨A.at_IsLive, A.kp_IsLive, A.ec_IsLive, A.in_IsLive, A.if_IsLive_init, A.F_IsLive_init.kp, ⟨CX0, fun X' _ _ => pass_CX0 X', ok_IsLive_init (t := t) A.Z A.F_IsLive_init T0⟩, Nat.le_refl 2, A.b_IsLive_init, A.w_IsLive_init⟩).consX (oi := some (i_NotLive_init K t)) ⟨A.at_NotLive, A.kp_NotLive, A.ec_NotLive, A.in_NotLive, A.if_NotLive_init, A.F_NotLive_init.kp, ⟨CX0, fun X' _ _ => pass_CX0 X', ok_NotLive_init (t := t) A.Z A.F_NotLive_init T0⟩, Nat.le_refl 2, A.b_NotLive_init, A.w_NotLive_init⟩).consX (oi := some (i_NoEdit_init K t)) ⟨A.at_NoEdit, A.kp_NoEdit, A.ec_NoEdit, A.in_NoEdit, A.if_NoEdit_init, A.F_NoEdit_init.kp, ⟨CX0, fun X' _ _ => pass_CX0 X', ok_NoEdit_init (t := t) A.Z A.F_NoEdit_init T0⟩, Nat.le_refl 2, A.b_NoEdit_init, A.w_NoEdit_init⟩).consX (oi := some (i_Unlike_init K t)) ⟨A.at_Unlike, A.kp_Unlike, A.ec_Unlike, A.in_Unlike, A.if_Unlike_init, A.F_Unlike_init.kp, ⟨CX0, fun X' _ _ => pass_CX0 X', ok_Unlike_init (t := t) A.Z A.F_Unlike_init T0⟩, Nat.le_refl 2, A.b_Unlike_init, A.w_Unlike_init⟩).consX (oi := some (i_BadPage_init K t)) ⟨A.at_BadPage, A.kp_BadPage, A.ec_BadPage, A.in_BadPage, A.if_BadPage_init, A.F_BadPage_init.kp, ⟨CX0, fun X' _ _ => pass_CX0 X', ok_BadPage_init (t := t) A.Z A.F_BadPage_init T0⟩, Nat.le_refl 2, A.b_BadPage_init, A.w_BadPage_init⟩).cons (i := i_law_good K t) ⟨A.m_law_good, A.F_law_good.kp, ⟨CX0, fun X' _ _ => pass_CX0 X', ok_law_good (t := t) A.Z A.F_law_good T1⟩, Nat.le_refl 2, A.b_law_good, A.w_law_good⟩
  have T3 : Tab P w K mg base 3 (gb_3 K t) bl := (((T2.mono (show 2 ≤ 3 by decide)).cons (i := i_law_of_edits K t) ⟨A.m_law_of_edits, A.F_law_of_edits.kp, ⟨CX0, fun X' _ _ => pass_CX0 X', ok_law_of_edits (t := t) A.Z A.F_law_of_edits T2⟩, Nat.le_refl 3, A.b_law_of_edits, A.w_law_of_edits⟩).cons (i := i_law_with_fields K t) ⟨A.m_law_with_fields, A.F_law_with_fields.kp, ⟨CX0, fun X' _ _ => pass_CX0 X', ok_law_with_fields (t := t) A.Z A.F_law_with_fields T2⟩, Nat.le_refl 3, A.b_law_with_fields, A.w_law_with_fields⟩).cons (i := i_law_plain_ones K t) ⟨A.m_law_plain_ones, A.F_law_plain_ones.kp, ⟨CX0, fun X' _ _ => pass_CX0 X', ok_law_plain_ones (t := t) A.Z A.F_law_plain_ones T2⟩, Nat.le_refl 3, A.b_law_plain_ones, A.w_law_plain_ones⟩
  exact ok_law (t := t) A.Z A.F_law T3
theorem all_mk {l : PySem.W.OpenLaw} {w : World} {K : PySem.W.Frag} {h : Heap} {mg : Str → Option Value} {fa f_law_cell_at f_law_mix f_law_first f_law_edits f_law_good f_law_plain_ones f_BadPage_init f_Unlike_init f_NoEdit_init f_NotLive_init f_IsLive_init f_StandsOn_init f_NoEditor_init f_law_with_fields f_EditError_init f_law_of_edits f_law c_LeafError c_BadPanel c_NoChoice c_BadCond c_BadEdit c_NoRow c_BadPage c_Unlike c_NoEdit c_NotLive c_IsLive c_StandsOn c_NoEditor c_EditError c_NoPart c_Doubled c_Lost c_Ring c_NoHolder c_WrongKind c_Far c_TooLong Td_EditError_init : Addr} (X : K.In h) (G : h.Ns mainGlobals mg) (hfa : mg "law" = some (.ref fa))
    {od_law_cell_at an_law_cell_at od_law_mix an_law_mix od_law_first an_law_first od_law_edits an_law_edits od_law_good an_law_good od_law_plain_ones an_law_plain_ones od_BadPage_init an_BadPage_init od_Unlike_init an_Unlike_init od_NoEdit_init an_NoEdit_init od_NotLive_init an_NotLive_init od_IsLive_init an_IsLive_init od_StandsOn_init an_StandsOn_init od_NoEditor_init an_NoEditor_init od_law_with_fields an_law_with_fields od_EditError_init an_EditError_init od_law_of_edits an_law_of_edits od_law an_law td_EditError_init : Option Addr} {sl_law_cell_at sl_law_mix sl_law_first sl_law_edits sl_law_good sl_law_plain_ones sl_BadPage_init sl_Unlike_init sl_NoEdit_init sl_NotLive_init sl_IsLive_init sl_StandsOn_init sl_NoEditor_init sl_law_with_fields sl_EditError_init sl_law_of_edits sl_law ts_EditError_init : Array (Option Value)}
    {oc_law_cell_at kV_law_cell_at dc_law_cell_at pm_law_cell_at cd_law_cell_at ct_law_cell_at oc_law_mix kV_law_mix dc_law_mix pm_law_mix cd_law_mix ct_law_mix oc_law_first kV_law_first dc_law_first pm_law_first cd_law_first ct_law_first oc_law_edits kV_law_edits dc_law_edits pm_law_edits cd_law_edits ct_law_edits oc_law_good kV_law_good dc_law_good pm_law_good cd_law_good ct_law_good oc_law_plain_ones kV_law_plain_ones dc_law_plain_ones pm_law_plain_ones cd_law_plain_ones ct_law_plain_ones oc_BadPage_init kV_BadPage_init dc_BadPage_init pm_BadPage_init cd_BadPage_init ct_BadPage_init oc_Unlike_init kV_Unlike_init dc_Unlike_init pm_Unlike_init cd_Unlike_init ct_Unlike_init oc_NoEdit_init kV_NoEdit_init dc_NoEdit_init pm_NoEdit_init cd_NoEdit_init ct_NoEdit_init oc_NotLive_init kV_NotLive_init dc_NotLive_init pm_NotLive_init cd_NotLive_init ct_NotLive_init oc_IsLive_init kV_IsLive_init dc_IsLive_init pm_IsLive_init cd_IsLive_init ct_IsLive_init oc_StandsOn_init kV_StandsOn_init dc_StandsOn_init pm_StandsOn_init cd_StandsOn_init ct_StandsOn_init oc_NoEditor_init kV_NoEditor_init dc_NoEditor_init pm_NoEditor_init cd_NoEditor_init ct_NoEditor_init oc_law_with_fields kV_law_with_fields dc_law_with_fields pm_law_with_fields cd_law_with_fields ct_law_with_fields oc_EditError_init kV_EditError_init dc_EditError_init pm_EditError_init cd_EditError_init ct_EditError_init oc_law_of_edits kV_law_of_edits dc_law_of_edits pm_law_of_edits cd_law_of_edits ct_law_of_edits oc_law kV_law dc_law pm_law cd_law ct_law tc_EditError_init : Value}
    {tn_EditError_init : Nat}
    (a_LeafError : PySem.W.nsIn K mainGlobals "LeafError" = some (some (.ref c_LeafError)))
    (a_BadPanel : PySem.W.nsIn K mainGlobals "BadPanel" = some (some (.ref c_BadPanel)))
    (a_NoChoice : PySem.W.nsIn K mainGlobals "NoChoice" = some (some (.ref c_NoChoice)))
    (a_BadCond : PySem.W.nsIn K mainGlobals "BadCond" = some (some (.ref c_BadCond)))
    (a_BadEdit : PySem.W.nsIn K mainGlobals "BadEdit" = some (some (.ref c_BadEdit)))
    (a_NoRow : PySem.W.nsIn K mainGlobals "NoRow" = some (some (.ref c_NoRow)))
    (a_BadPage : PySem.W.nsIn K mainGlobals "BadPage" = some (some (.ref c_BadPage)))
    (a_Unlike : PySem.W.nsIn K mainGlobals "Unlike" = some (some (.ref c_Unlike)))
    (a_NoEdit : PySem.W.nsIn K mainGlobals "NoEdit" = some (some (.ref c_NoEdit)))
    (a_NotLive : PySem.W.nsIn K mainGlobals "NotLive" = some (some (.ref c_NotLive)))
    (a_IsLive : PySem.W.nsIn K mainGlobals "IsLive" = some (some (.ref c_IsLive)))
    (a_StandsOn : PySem.W.nsIn K mainGlobals "StandsOn" = some (some (.ref c_StandsOn)))
    (a_NoEditor : PySem.W.nsIn K mainGlobals "NoEditor" = some (some (.ref c_NoEditor)))
    (a_EditError : PySem.W.nsIn K mainGlobals "EditError" = some (some (.ref c_EditError)))
    (a_NoPart : PySem.W.nsIn K mainGlobals "NoPart" = some (some (.ref c_NoPart)))
    (a_Doubled : PySem.W.nsIn K mainGlobals "Doubled" = some (some (.ref c_Doubled)))
    (a_Lost : PySem.W.nsIn K mainGlobals "Lost" = some (some (.ref c_Lost)))
    (a_Ring : PySem.W.nsIn K mainGlobals "Ring" = some (some (.ref c_Ring)))
    (a_NoHolder : PySem.W.nsIn K mainGlobals "NoHolder" = some (some (.ref c_NoHolder)))
    (a_WrongKind : PySem.W.nsIn K mainGlobals "WrongKind" = some (some (.ref c_WrongKind)))
    (a_Far : PySem.W.nsIn K mainGlobals "Far" = some (some (.ref c_Far)))
    (a_TooLong : PySem.W.nsIn K mainGlobals "TooLong" = some (some (.ref c_TooLong)))
    (in_LeafError : PySem.W.findIn K (.ref c_LeafError) "__init__" = some (some (.builtin "ValueError.__init__")))
    (kp_LeafError : PySem.W.keepIn K (.ref c_LeafError) = true)
    (in_BadPanel : PySem.W.findIn K (.ref c_BadPanel) "__init__" = some (some (.builtin "ValueError.__init__")))
    (kp_BadPanel : PySem.W.keepIn K (.ref c_BadPanel) = true)
    (in_NoChoice : PySem.W.findIn K (.ref c_NoChoice) "__init__" = some (some (.builtin "ValueError.__init__")))
    (kp_NoChoice : PySem.W.keepIn K (.ref c_NoChoice) = true)
    (in_BadCond : PySem.W.findIn K (.ref c_BadCond) "__init__" = some (some (.builtin "ValueError.__init__")))
    (kp_BadCond : PySem.W.keepIn K (.ref c_BadCond) = true)
    (in_BadEdit : PySem.W.findIn K (.ref c_BadEdit) "__init__" = some (some (.builtin "ValueError.__init__")))
    (kp_BadEdit : PySem.W.keepIn K (.ref c_BadEdit) = true)
    (in_NoRow : PySem.W.findIn K (.ref c_NoRow) "__init__" = some (some (.builtin "ValueError.__init__")))
    (kp_NoRow : PySem.W.keepIn K (.ref c_NoRow) = true)
    (in_BadPage : PySem.W.findIn K (.ref c_BadPage) "__init__" = some (some (.ref f_BadPage_init)))
    (kp_BadPage : PySem.W.keepIn K (.ref c_BadPage) = true)
    (in_Unlike : PySem.W.findIn K (.ref c_Unlike) "__init__" = some (some (.ref f_Unlike_init)))
    (kp_Unlike : PySem.W.keepIn K (.ref c_Unlike) = true)
    (in_NoEdit : PySem.W.findIn K (.ref c_NoEdit) "__init__" = some (some (.ref f_NoEdit_init)))
    (kp_NoEdit : PySem.W.keepIn K (.ref c_NoEdit) = true)
    (in_NotLive : PySem.W.findIn K (.ref c_NotLive) "__init__" = some (some (.ref f_NotLive_init)))
    (kp_NotLive : PySem.W.keepIn K (.ref c_NotLive) = true)
    (in_IsLive : PySem.W.findIn K (.ref c_IsLive) "__init__" = some (some (.ref f_IsLive_init)))
    (kp_IsLive : PySem.W.keepIn K (.ref c_IsLive) = true)
    (in_StandsOn : PySem.W.findIn K (.ref c_StandsOn) "__init__" = some (some (.ref f_StandsOn_init)))
    (kp_StandsOn : PySem.W.keepIn K (.ref c_StandsOn) = true)
    (in_NoEditor : PySem.W.findIn K (.ref c_NoEditor) "__init__" = some (some (.ref f_NoEditor_init)))
    (kp_NoEditor : PySem.W.keepIn K (.ref c_NoEditor) = true)
    (in_EditError : PySem.W.findIn K (.ref c_EditError) "__init__" = some (some (.ref f_EditError_init)))
    (kp_EditError : PySem.W.keepIn K (.ref c_EditError) = true)
    (in_NoPart : PySem.W.findIn K (.ref c_NoPart) "__init__" = some (some (.ref f_EditError_init)))
    (kp_NoPart : PySem.W.keepIn K (.ref c_NoPart) = true)
    (in_Doubled : PySem.W.findIn K (.ref c_Doubled) "__init__" = some (some (.ref f_EditError_init)))
    (kp_Doubled : PySem.W.keepIn K (.ref c_Doubled) = true)
    (in_Lost : PySem.W.findIn K (.ref c_Lost) "__init__" = some (some (.ref f_EditError_init)))
    (kp_Lost : PySem.W.keepIn K (.ref c_Lost) = true)
    (in_Ring : PySem.W.findIn K (.ref c_Ring) "__init__" = some (some (.ref f_EditError_init)))
    (kp_Ring : PySem.W.keepIn K (.ref c_Ring) = true)
    (in_NoHolder : PySem.W.findIn K (.ref c_NoHolder) "__init__" = some (some (.ref f_EditError_init)))
    (kp_NoHolder : PySem.W.keepIn K (.ref c_NoHolder) = true)
    (in_WrongKind : PySem.W.findIn K (.ref c_WrongKind) "__init__" = some (some (.ref f_EditError_init)))
    (kp_WrongKind : PySem.W.keepIn K (.ref c_WrongKind) = true)
    (in_Far : PySem.W.findIn K (.ref c_Far) "__init__" = some (some (.ref f_EditError_init)))
    (kp_Far : PySem.W.keepIn K (.ref c_Far) = true)
    (in_TooLong : PySem.W.findIn K (.ref c_TooLong) "__init__" = some (some (.ref f_EditError_init)))
    (kp_TooLong : PySem.W.keepIn K (.ref c_TooLong) = true)
    (a_law_cell_at : PySem.W.nsIn K mainGlobals "_law_cell_at" = some (some (.ref f_law_cell_at)))
    (l_law_cell_at : K.lookup f_law_cell_at = some ⟨oc_law_cell_at, od_law_cell_at, .func (PySem.W.fnOf "_law_cell_at" "_law_cell_at" (defArgs s_law_cell_at) (defBody s_law_cell_at) (defScope s_law_cell_at) .none kV_law_cell_at dc_law_cell_at pm_law_cell_at an_law_cell_at cd_law_cell_at ct_law_cell_at), sl_law_cell_at⟩)
    (c_law_cell_at : PySem.W.codeIn K cd_law_cell_at "_law_cell_at" = true)
    (k_law_cell_at : PySem.W.keepIn K (.ref f_law_cell_at) = true)
    (a_law_mix : PySem.W.nsIn K mainGlobals "_law_mix" = some (some (.ref f_law_mix)))
    (l_law_mix : K.lookup f_law_mix = some ⟨oc_law_mix, od_law_mix, .func (PySem.W.fnOf "_law_mix" "_law_mix" (defArgs s_law_mix) (defBody s_law_mix) (defScope s_law_mix) .none kV_law_mix dc_law_mix pm_law_mix an_law_mix cd_law_mix ct_law_mix), sl_law_mix⟩)
    (c_law_mix : PySem.W.codeIn K cd_law_mix "_law_mix" = true)
    (k_law_mix : PySem.W.keepIn K (.ref f_law_mix) = true)
    (a_law_first : PySem.W.nsIn K mainGlobals "_law_first" = some (some (.ref f_law_first)))
    (l_law_first : K.lookup f_law_first = some ⟨oc_law_first, od_law_first, .func (PySem.W.fnOf "_law_first" "_law_first" (defArgs s_law_first) (defBody s_law_first) (defScope s_law_first) .none kV_law_first dc_law_first pm_law_first an_law_first cd_law_first ct_law_first), sl_law_first⟩)
    (c_law_first : PySem.W.codeIn K cd_law_first "_law_first" = true)
    (k_law_first : PySem.W.keepIn K (.ref f_law_first) = true)
    (a_law_edits : PySem.W.nsIn K mainGlobals "_law_edits" = some (some (.ref f_law_edits)))
    (l_law_edits : K.lookup f_law_edits = some ⟨oc_law_edits, od_law_edits, .func (PySem.W.fnOf "_law_edits" "_law_edits" (defArgs s_law_edits) (defBody s_law_edits) (defScope s_law_edits) .none kV_law_edits dc_law_edits pm_law_edits an_law_edits cd_law_edits ct_law_edits), sl_law_edits⟩)
    (c_law_edits : PySem.W.codeIn K cd_law_edits "_law_edits" = true)
    (k_law_edits : PySem.W.keepIn K (.ref f_law_edits) = true)
    (a_law_good : PySem.W.nsIn K mainGlobals "_law_good" = some (some (.ref f_law_good)))
    (l_law_good : K.lookup f_law_good = some ⟨oc_law_good, od_law_good, .func (PySem.W.fnOf "_law_good" "_law_good" (defArgs s_law_good) (defBody s_law_good) (defScope s_law_good) .none kV_law_good dc_law_good pm_law_good an_law_good cd_law_good ct_law_good), sl_law_good⟩)
    (c_law_good : PySem.W.codeIn K cd_law_good "_law_good" = true)
    (k_law_good : PySem.W.keepIn K (.ref f_law_good) = true)
    (a_law_plain_ones : PySem.W.nsIn K mainGlobals "_law_plain_ones" = some (some (.ref f_law_plain_ones)))
    (l_law_plain_ones : K.lookup f_law_plain_ones = some ⟨oc_law_plain_ones, od_law_plain_ones, .func (PySem.W.fnOf "_law_plain_ones" "_law_plain_ones" (defArgs s_law_plain_ones) (defBody s_law_plain_ones) (defScope s_law_plain_ones) .none kV_law_plain_ones dc_law_plain_ones pm_law_plain_ones an_law_plain_ones cd_law_plain_ones ct_law_plain_ones), sl_law_plain_ones⟩)
    (c_law_plain_ones : PySem.W.codeIn K cd_law_plain_ones "_law_plain_ones" = true)
    (k_law_plain_ones : PySem.W.keepIn K (.ref f_law_plain_ones) = true)
    (l_BadPage_init : K.lookup f_BadPage_init = some ⟨oc_BadPage_init, od_BadPage_init, .func (PySem.W.fnOf "__init__" "BadPage.__init__" (defArgs s_BadPage_init) (defBody s_BadPage_init) (defScope s_BadPage_init) .none kV_BadPage_init dc_BadPage_init pm_BadPage_init an_BadPage_init cd_BadPage_init ct_BadPage_init), sl_BadPage_init⟩)
    (c_BadPage_init : PySem.W.codeIn K cd_BadPage_init "BadPage.__init__" = true)
    (k_BadPage_init : PySem.W.keepIn K (.ref f_BadPage_init) = true)
    (if_BadPage_init : PySem.W.isFn K (.ref f_BadPage_init) = true)
    (l_Unlike_init : K.lookup f_Unlike_init = some ⟨oc_Unlike_init, od_Unlike_init, .func (PySem.W.fnOf "__init__" "Unlike.__init__" (defArgs s_Unlike_init) (defBody s_Unlike_init) (defScope s_Unlike_init) .none kV_Unlike_init dc_Unlike_init pm_Unlike_init an_Unlike_init cd_Unlike_init ct_Unlike_init), sl_Unlike_init⟩)
    (c_Unlike_init : PySem.W.codeIn K cd_Unlike_init "Unlike.__init__" = true)
    (k_Unlike_init : PySem.W.keepIn K (.ref f_Unlike_init) = true)
    (if_Unlike_init : PySem.W.isFn K (.ref f_Unlike_init) = true)
    (l_NoEdit_init : K.lookup f_NoEdit_init = some ⟨oc_NoEdit_init, od_NoEdit_init, .func (PySem.W.fnOf "__init__" "NoEdit.__init__" (defArgs s_NoEdit_init) (defBody s_NoEdit_init) (defScope s_NoEdit_init) .none kV_NoEdit_init dc_NoEdit_init pm_NoEdit_init an_NoEdit_init cd_NoEdit_init ct_NoEdit_init), sl_NoEdit_init⟩)
    (c_NoEdit_init : PySem.W.codeIn K cd_NoEdit_init "NoEdit.__init__" = true)
    (k_NoEdit_init : PySem.W.keepIn K (.ref f_NoEdit_init) = true)
    (if_NoEdit_init : PySem.W.isFn K (.ref f_NoEdit_init) = true)
    (l_NotLive_init : K.lookup f_NotLive_init = some ⟨oc_NotLive_init, od_NotLive_init, .func (PySem.W.fnOf "__init__" "NotLive.__init__" (defArgs s_NotLive_init) (defBody s_NotLive_init) (defScope s_NotLive_init) .none kV_NotLive_init dc_NotLive_init pm_NotLive_init an_NotLive_init cd_NotLive_init ct_NotLive_init), sl_NotLive_init⟩)
    (c_NotLive_init : PySem.W.codeIn K cd_NotLive_init "NotLive.__init__" = true)
    (k_NotLive_init : PySem.W.keepIn K (.ref f_NotLive_init) = true)
    (if_NotLive_init : PySem.W.isFn K (.ref f_NotLive_init) = true)
    (l_IsLive_init : K.lookup f_IsLive_init = some ⟨oc_IsLive_init, od_IsLive_init, .func (PySem.W.fnOf "__init__" "IsLive.__init__" (defArgs s_IsLive_init) (defBody s_IsLive_init) (defScope s_IsLive_init) .none kV_IsLive_init dc_IsLive_init pm_IsLive_init an_IsLive_init cd_IsLive_init ct_IsLive_init), sl_IsLive_init⟩)
    (c_IsLive_init : PySem.W.codeIn K cd_IsLive_init "IsLive.__init__" = true)
    (k_IsLive_init : PySem.W.keepIn K (.ref f_IsLive_init) = true)
    (if_IsLive_init : PySem.W.isFn K (.ref f_IsLive_init) = true)
    (l_StandsOn_init : K.lookup f_StandsOn_init = some ⟨oc_StandsOn_init, od_StandsOn_init, .func (PySem.W.fnOf "__init__" "StandsOn.__init__" (defArgs s_StandsOn_init) (defBody s_StandsOn_init) (defScope s_StandsOn_init) .none kV_StandsOn_init dc_StandsOn_init pm_StandsOn_init an_StandsOn_init cd_StandsOn_init ct_StandsOn_init), sl_StandsOn_init⟩)
    (c_StandsOn_init : PySem.W.codeIn K cd_StandsOn_init "StandsOn.__init__" = true)
    (k_StandsOn_init : PySem.W.keepIn K (.ref f_StandsOn_init) = true)
    (if_StandsOn_init : PySem.W.isFn K (.ref f_StandsOn_init) = true)
    (l_NoEditor_init : K.lookup f_NoEditor_init = some ⟨oc_NoEditor_init, od_NoEditor_init, .func (PySem.W.fnOf "__init__" "NoEditor.__init__" (defArgs s_NoEditor_init) (defBody s_NoEditor_init) (defScope s_NoEditor_init) .none kV_NoEditor_init dc_NoEditor_init pm_NoEditor_init an_NoEditor_init cd_NoEditor_init ct_NoEditor_init), sl_NoEditor_init⟩)
    (c_NoEditor_init : PySem.W.codeIn K cd_NoEditor_init "NoEditor.__init__" = true)
    (k_NoEditor_init : PySem.W.keepIn K (.ref f_NoEditor_init) = true)
    (if_NoEditor_init : PySem.W.isFn K (.ref f_NoEditor_init) = true)
    (a_law_with_fields : PySem.W.nsIn K mainGlobals "_law_with_fields" = some (some (.ref f_law_with_fields)))
    (l_law_with_fields : K.lookup f_law_with_fields = some ⟨oc_law_with_fields, od_law_with_fields, .func (PySem.W.fnOf "_law_with_fields" "_law_with_fields" (defArgs s_law_with_fields) (defBody s_law_with_fields) (defScope s_law_with_fields) .none kV_law_with_fields dc_law_with_fields pm_law_with_fields an_law_with_fields cd_law_with_fields ct_law_with_fields), sl_law_with_fields⟩)
    (c_law_with_fields : PySem.W.codeIn K cd_law_with_fields "_law_with_fields" = true)
    (k_law_with_fields : PySem.W.keepIn K (.ref f_law_with_fields) = true)
    (l_EditError_init : K.lookup f_EditError_init = some ⟨oc_EditError_init, od_EditError_init, .func (PySem.W.fnOf "__init__" "EditError.__init__" (defArgs s_EditError_init) (defBody s_EditError_init) (defScope s_EditError_init) (.ref Td_EditError_init) kV_EditError_init dc_EditError_init pm_EditError_init an_EditError_init cd_EditError_init ct_EditError_init), sl_EditError_init⟩)
    (c_EditError_init : PySem.W.codeIn K cd_EditError_init "EditError.__init__" = true)
    (k_EditError_init : PySem.W.keepIn K (.ref f_EditError_init) = true)
    (if_EditError_init : PySem.W.isFn K (.ref f_EditError_init) = true)
    (ld_EditError_init : K.lookup Td_EditError_init = some ⟨tc_EditError_init, td_EditError_init, .seq #[.none] tn_EditError_init, ts_EditError_init⟩)
    (a_law_of_edits : PySem.W.nsIn K mainGlobals "_law_of_edits" = some (some (.ref f_law_of_edits)))
    (l_law_of_edits : K.lookup f_law_of_edits = some ⟨oc_law_of_edits, od_law_of_edits, .func (PySem.W.fnOf "_law_of_edits" "_law_of_edits" (defArgs s_law_of_edits) (defBody s_law_of_edits) (defScope s_law_of_edits) .none kV_law_of_edits dc_law_of_edits pm_law_of_edits an_law_of_edits cd_law_of_edits ct_law_of_edits), sl_law_of_edits⟩)
    (c_law_of_edits : PySem.W.codeIn K cd_law_of_edits "_law_of_edits" = true)
    (k_law_of_edits : PySem.W.keepIn K (.ref f_law_of_edits) = true)
    (a_law : PySem.W.nsIn K mainGlobals "law" = some (some (.ref f_law)))
    (l_law : K.lookup f_law = some ⟨oc_law, od_law, .func (PySem.W.fnOf "law" "law" (defArgs s_law) (defBody s_law) (defScope s_law) .none kV_law dc_law pm_law an_law cd_law ct_law), sl_law⟩)
    (c_law : PySem.W.codeIn K cd_law "law" = true)
    (k_law : PySem.W.keepIn K (.ref f_law) = true)
    (x_LeafError : XC K c_LeafError (valTail))
    (x_BadPanel : XC K c_BadPanel (.ref c_LeafError :: valTail))
    (x_NoChoice : XC K c_NoChoice (.ref c_LeafError :: valTail))
    (x_BadCond : XC K c_BadCond (.ref c_LeafError :: valTail))
    (x_BadEdit : XC K c_BadEdit (.ref c_LeafError :: valTail))
    (x_NoRow : XC K c_NoRow (.ref c_LeafError :: valTail))
    (x_BadPage : XC K c_BadPage (.ref c_LeafError :: valTail))
    (x_Unlike : XC K c_Unlike (.ref c_LeafError :: valTail))
    (x_NoEdit : XC K c_NoEdit (.ref c_LeafError :: valTail))
    (x_NotLive : XC K c_NotLive (.ref c_LeafError :: valTail))
    (x_IsLive : XC K c_IsLive (.ref c_LeafError :: valTail))
    (x_StandsOn : XC K c_StandsOn (.ref c_LeafError :: valTail))
    (x_NoEditor : XC K c_NoEditor (.ref c_LeafError :: valTail))
    (x_EditError : XC K c_EditError (.ref c_LeafError :: valTail))
    (x_NoPart : XC K c_NoPart (.ref c_EditError :: .ref c_LeafError :: valTail))
    (x_Doubled : XC K c_Doubled (.ref c_EditError :: .ref c_LeafError :: valTail))
    (x_Lost : XC K c_Lost (.ref c_EditError :: .ref c_LeafError :: valTail))
    (x_Ring : XC K c_Ring (.ref c_EditError :: .ref c_LeafError :: valTail))
    (x_NoHolder : XC K c_NoHolder (.ref c_EditError :: .ref c_LeafError :: valTail))
    (x_WrongKind : XC K c_WrongKind (.ref c_EditError :: .ref c_LeafError :: valTail))
    (x_Far : XC K c_Far (.ref c_EditError :: .ref c_LeafError :: valTail))
    (x_TooLong : XC K c_TooLong (.ref c_EditError :: .ref c_LeafError :: valTail))
    (z_ValueError : PySem.W.nsIn K mainGlobals "ValueError" = some none)
    (z_enumerate : PySem.W.nsIn K mainGlobals "enumerate" = some none)
    (z_isinstance : PySem.W.nsIn K mainGlobals "isinstance" = some none)
    (z_len : PySem.W.nsIn K mainGlobals "len" = some none)
    (z_range : PySem.W.nsIn K mainGlobals "range" = some none)
    (nd : [c_LeafError, c_EditError, c_BadPanel, c_NoChoice, c_BadCond, c_BadEdit, c_NoRow, c_BadPage, c_Unlike, c_NoEdit, c_NotLive, c_IsLive, c_StandsOn, c_NoEditor, c_NoPart, c_Doubled, c_Lost, c_Ring, c_NoHolder, c_WrongKind, c_Far, c_TooLong].Nodup)
    (n_BadPage_line : PySem.W.findIn K (.ref c_BadPage) "line" = some none)
    (n_BadPage_choice : PySem.W.findIn K (.ref c_BadPage) "choice" = some none)
    (n_Unlike_part : PySem.W.findIn K (.ref c_Unlike) "part" = some none)
    (n_Unlike_one : PySem.W.findIn K (.ref c_Unlike) "one" = some none)
    (n_Unlike_other : PySem.W.findIn K (.ref c_Unlike) "other" = some none)
    (n_StandsOn_number : PySem.W.findIn K (.ref c_StandsOn) "number" = some none)
    (n_StandsOn_choice : PySem.W.findIn K (.ref c_StandsOn) "choice" = some none)
    (n_NoEditor_editor : PySem.W.findIn K (.ref c_NoEditor) "editor" = some none)
    (n_NoEdit_number : PySem.W.findIn K (.ref c_NoEdit) "number" = some none)
    (n_NotLive_number : PySem.W.findIn K (.ref c_NotLive) "number" = some none)
    (n_IsLive_number : PySem.W.findIn K (.ref c_IsLive) "number" = some none)
    (n_EditError_part : PySem.W.findIn K (.ref c_EditError) "part" = some none)
    (n_NoPart_part : PySem.W.findIn K (.ref c_NoPart) "part" = some none)
    (n_Doubled_part : PySem.W.findIn K (.ref c_Doubled) "part" = some none)
    (n_Lost_part : PySem.W.findIn K (.ref c_Lost) "part" = some none)
    (n_Ring_part : PySem.W.findIn K (.ref c_Ring) "part" = some none)
    (n_NoHolder_part : PySem.W.findIn K (.ref c_NoHolder) "part" = some none)
    (n_WrongKind_part : PySem.W.findIn K (.ref c_WrongKind) "part" = some none)
    (n_Far_part : PySem.W.findIn K (.ref c_Far) "part" = some none)
    (n_TooLong_part : PySem.W.findIn K (.ref c_TooLong) "part" = some none)
    (n_EditError_choice : PySem.W.findIn K (.ref c_EditError) "choice" = some none)
    (n_NoPart_choice : PySem.W.findIn K (.ref c_NoPart) "choice" = some none)
    (n_Doubled_choice : PySem.W.findIn K (.ref c_Doubled) "choice" = some none)
    (n_Lost_choice : PySem.W.findIn K (.ref c_Lost) "choice" = some none)
    (n_Ring_choice : PySem.W.findIn K (.ref c_Ring) "choice" = some none)
    (n_NoHolder_choice : PySem.W.findIn K (.ref c_NoHolder) "choice" = some none)
    (n_WrongKind_choice : PySem.W.findIn K (.ref c_WrongKind) "choice" = some none)
    (n_Far_choice : PySem.W.findIn K (.ref c_Far) "choice" = some none)
    (n_TooLong_choice : PySem.W.findIn K (.ref c_TooLong) "choice" = some none)
    : ∃ (t : Adr) (fd : FuncData), (∀ (s : Shared) (v : Value), BindsTo s fd ⟨[v], []⟩ [("_law_script", v)]) ∧ ∀ base : Heap, K.In base → base.Ns mainGlobals mg → FnOk l.prog w K mg base CX0 4 fa fd ["_law_script"] (sp_law K t) := by
  have F_law_cell_at := fun_mk (st := s_law_cell_at) l_law_cell_at c_law_cell_at k_law_cell_at
  have b_law_cell_at := F_law_cell_at.binds (ps := P_law_cell_at) fun _ _ _ _ _ _ us hl => match us, hl with | [_, _], _ => rfl
  have F_law_mix := fun_mk (st := s_law_mix) l_law_mix c_law_mix k_law_mix
  have b_law_mix := F_law_mix.binds (ps := P_law_mix) fun _ _ _ _ _ _ us hl => match us, hl with | [_, _], _ => rfl
  have F_law_first := fun_mk (st := s_law_first) l_law_first c_law_first k_law_first
  have b_law_first := F_law_first.binds (ps := P_law_first) fun _ _ _ _ _ _ us hl => match us, hl with | [_], _ => rfl
  have F_law_edits := fun_mk (st := s_law_edits) l_law_edits c_law_edits k_law_edits
  have b_law_edits := F_law_edits.binds (ps := P_law_edits) fun _ _ _ _ _ _ us hl => match us, hl with | [_], _ => rfl
  have F_law_good := fun_mk (st := s_law_good) l_law_good c_law_good k_law_good
  have b_law_good := F_law_good.binds (ps := P_law_good) fun _ _ _ _ _ _ us hl => match us, hl with | [_, _, _], _ => rfl
  have F_law_plain_ones := fun_mk (st := s_law_plain_ones) l_law_plain_ones c_law_plain_ones k_law_plain_ones
  have b_law_plain_ones := F_law_plain_ones.binds (ps := P_law_plain_ones) fun _ _ _ _ _ _ us hl => match us, hl with | [], _ => rfl
  have F_BadPage_init := fun_mk (st := s_BadPage_init) l_BadPage_init c_BadPage_init k_BadPage_init
  have b_BadPage_init := F_BadPage_init.binds (ps := P_BadPage_init) fun _ _ _ _ _ _ us hl => match us, hl with | [_, _, _], _ => rfl
  have F_Unlike_init := fun_mk (st := s_Unlike_init) l_Unlike_init c_Unlike_init k_Unlike_init
  have b_Unlike_init := F_Unlike_init.binds (ps := P_Unlike_init) fun _ _ _ _ _ _ us hl => match us, hl with | [_, _, _, _], _ => rfl
  have F_NoEdit_init := fun_mk (st := s_NoEdit_init) l_NoEdit_init c_NoEdit_init k_NoEdit_init
  have b_NoEdit_init := F_NoEdit_init.binds (ps := P_NoEdit_init) fun _ _ _ _ _ _ us hl => match us, hl with | [_, _], _ => rfl
  have F_NotLive_init := fun_mk (st := s_NotLive_init) l_NotLive_init c_NotLive_init k_NotLive_init
  have b_NotLive_init := F_NotLive_init.binds (ps := P_NotLive_init) fun _ _ _ _ _ _ us hl => match us, hl with | [_, _], _ => rfl
  have F_IsLive_init := fun_mk (st := s_IsLive_init) l_IsLive_init c_IsLive_init k_IsLive_init
  have b_IsLive_init := F_IsLive_init.binds (ps := P_IsLive_init) fun _ _ _ _ _ _ us hl => match us, hl with | [_, _], _ => rfl
  have F_StandsOn_init := fun_mk (st := s_StandsOn_init) l_StandsOn_init c_StandsOn_init k_StandsOn_init
  have b_StandsOn_init := F_StandsOn_init.binds (ps := P_StandsOn_init) fun _ _ _ _ _ _ us hl => match us, hl with | [_, _, _], _ => rfl
  have F_NoEditor_init := fun_mk (st := s_NoEditor_init) l_NoEditor_init c_NoEditor_init k_NoEditor_init
  have b_NoEditor_init := F_NoEditor_init.binds (ps := P_NoEditor_init) fun _ _ _ _ _ _ us hl => match us, hl with | [_, _], _ => rfl
  have F_law_with_fields := fun_mk (st := s_law_with_fields) l_law_with_fields c_law_with_fields k_law_with_fields
  have b_law_with_fields := F_law_with_fields.binds (ps := P_law_with_fields) fun _ _ _ _ _ _ us hl => match us, hl with | [_, _, _], _ => rfl
  have F_EditError_init := funD_mk (st := s_EditError_init) l_EditError_init c_EditError_init k_EditError_init
  have b_EditError_init : ∀ j, j ≤ 1 → Binds K (PySem.W.fnOf "__init__" "EditError.__init__" (defArgs s_EditError_init) (defBody s_EditError_init) (defScope s_EditError_init) (.ref Td_EditError_init) kV_EditError_init dc_EditError_init pm_EditError_init an_EditError_init cd_EditError_init ct_EditError_init) P_EditError_init ([Value.none].drop j) := fun j hj => by
    match j, hj with
    | 0, _ => exact binds_dfltN 2 rfl ld_EditError_init rfl rfl (fun us hl => match us, hl with | [_, _], _ => ⟨_, rfl, rfl⟩)
    | 1, _ => exact binds_dfltN 3 rfl ld_EditError_init rfl rfl (fun us hl => match us, hl with | [_, _, _], _ => ⟨_, rfl, rfl⟩)
  have F_law_of_edits := fun_mk (st := s_law_of_edits) l_law_of_edits c_law_of_edits k_law_of_edits
  have b_law_of_edits := F_law_of_edits.binds (ps := P_law_of_edits) fun _ _ _ _ _ _ us hl => match us, hl with | [_, _], _ => rfl
  have F_law := fun_mk (st := s_law) l_law c_law k_law
  have b_law := F_law.binds (ps := P_law) fun _ _ _ _ _ _ us hl => match us, hl with | [_], _ => rfl
  have m := PySem.W.mg_of X G a_law
  have e : fa = f_law := by
    rw [hfa] at m
    injection m with m
    injection m
  subst e
  have tl_1 : ∀ {a : Addr}, excTail (.ref a :: valTail) = true := fun {a} => by show excTail valTail = true; decide +kernel
  have tl_2 : ∀ {a b : Addr}, excTail (.ref a :: .ref b :: valTail) = true := fun {a b} => by show excTail valTail = true; decide +kernel
  have AO : AdrOk K mg ⟨f_law_cell_at, PySem.W.fnOf "_law_cell_at" "_law_cell_at" (defArgs s_law_cell_at) (defBody s_law_cell_at) (defScope s_law_cell_at) .none kV_law_cell_at dc_law_cell_at pm_law_cell_at an_law_cell_at cd_law_cell_at ct_law_cell_at, f_law_mix, PySem.W.fnOf "_law_mix" "_law_mix" (defArgs s_law_mix) (defBody s_law_mix) (defScope s_law_mix) .none kV_law_mix dc_law_mix pm_law_mix an_law_mix cd_law_mix ct_law_mix, f_law_first, PySem.W.fnOf "_law_first" "_law_first" (defArgs s_law_first) (defBody s_law_first) (defScope s_law_first) .none kV_law_first dc_law_first pm_law_first an_law_first cd_law_first ct_law_first, f_law_edits, PySem.W.fnOf "_law_edits" "_law_edits" (defArgs s_law_edits) (defBody s_law_edits) (defScope s_law_edits) .none kV_law_edits dc_law_edits pm_law_edits an_law_edits cd_law_edits ct_law_edits, f_law_good, PySem.W.fnOf "_law_good" "_law_good" (defArgs s_law_good) (defBody s_law_good) (defScope s_law_good) .none kV_law_good dc_law_good pm_law_good an_law_good cd_law_good ct_law_good, f_law_plain_ones, PySem.W.fnOf "_law_plain_ones" "_law_plain_ones" (defArgs s_law_plain_ones) (defBody s_law_plain_ones) (defScope s_law_plain_ones) .none kV_law_plain_ones dc_law_plain_ones pm_law_plain_ones an_law_plain_ones cd_law_plain_ones ct_law_plain_ones, f_BadPage_init, PySem.W.fnOf "__init__" "BadPage.__init__" (defArgs s_BadPage_init) (defBody s_BadPage_init) (defScope s_BadPage_init) .none kV_BadPage_init dc_BadPage_init pm_BadPage_init an_BadPage_init cd_BadPage_init ct_BadPage_init, f_Unlike_init, PySem.W.fnOf "__init__" "Unlike.__init__" (defArgs s_Unlike_init) (defBody s_Unlike_init) (defScope s_Unlike_init) .none kV_Unlike_init dc_Unlike_init pm_Unlike_init an_Unlike_init cd_Unlike_init ct_Unlike_init, f_NoEdit_init, PySem.W.fnOf "__init__" "NoEdit.__init__" (defArgs s_NoEdit_init) (defBody s_NoEdit_init) (defScope s_NoEdit_init) .none kV_NoEdit_init dc_NoEdit_init pm_NoEdit_init an_NoEdit_init cd_NoEdit_init ct_NoEdit_init, f_NotLive_init, PySem.W.fnOf "__init__" "NotLive.__init__" (defArgs s_NotLive_init) (defBody s_NotLive_init) (defScope s_NotLive_init) .none kV_NotLive_init dc_NotLive_init pm_NotLive_init an_NotLive_init cd_NotLive_init ct_NotLive_init, f_IsLive_init, PySem.W.fnOf "__init__" "IsLive.__init__" (defArgs s_IsLive_init) (defBody s_IsLive_init) (defScope s_IsLive_init) .none kV_IsLive_init dc_IsLive_init pm_IsLive_init an_IsLive_init cd_IsLive_init ct_IsLive_init, f_StandsOn_init, PySem.W.fnOf "__init__" "StandsOn.__init__" (defArgs s_StandsOn_init) (defBody s_StandsOn_init) (defScope s_StandsOn_init) .none kV_StandsOn_init dc_StandsOn_init pm_StandsOn_init an_StandsOn_init cd_StandsOn_init ct_StandsOn_init, f_NoEditor_init, PySem.W.fnOf "__init__" "NoEditor.__init__" (defArgs s_NoEditor_init) (defBody s_NoEditor_init) (defScope s_NoEditor_init) .none kV_NoEditor_init dc_NoEditor_init pm_NoEditor_init an_NoEditor_init cd_NoEditor_init ct_NoEditor_init, f_law_with_fields, PySem.W.fnOf "_law_with_fields" "_law_with_fields" (defArgs s_law_with_fields) (defBody s_law_with_fields) (defScope s_law_with_fields) .none kV_law_with_fields dc_law_with_fields pm_law_with_fields an_law_with_fields cd_law_with_fields ct_law_with_fields, f_EditError_init, PySem.W.fnOf "__init__" "EditError.__init__" (defArgs s_EditError_init) (defBody s_EditError_init) (defScope s_EditError_init) (.ref Td_EditError_init) kV_EditError_init dc_EditError_init pm_EditError_init an_EditError_init cd_EditError_init ct_EditError_init, f_law_of_edits, PySem.W.fnOf "_law_of_edits" "_law_of_edits" (defArgs s_law_of_edits) (defBody s_law_of_edits) (defScope s_law_of_edits) .none kV_law_of_edits dc_law_of_edits pm_law_of_edits an_law_of_edits cd_law_of_edits ct_law_of_edits, fa, PySem.W.fnOf "law" "law" (defArgs s_law) (defBody s_law) (defScope s_law) .none kV_law dc_law pm_law an_law cd_law ct_law, .ref Td_EditError_init, [Value.none], c_LeafError, c_BadPanel, c_NoChoice, c_BadCond, c_BadEdit, c_NoRow, c_BadPage, c_Unlike, c_NoEdit, c_NotLive, c_IsLive, c_StandsOn, c_NoEditor, c_EditError, c_NoPart, c_Doubled, c_Lost, c_Ring, c_NoHolder, c_WrongKind, c_Far, c_TooLong⟩ := ⟨F_law_cell_at.toD,
    (fun j _ => by rw [List.drop_nil]; exact b_law_cell_at),
    .nil,
    PySem.W.mg_of X G a_law_cell_at,
    F_law_mix.toD,
    (fun j _ => by rw [List.drop_nil]; exact b_law_mix),
    .nil,
    PySem.W.mg_of X G a_law_mix,
    F_law_first.toD,
    (fun j _ => by rw [List.drop_nil]; exact b_law_first),
    .nil,
    PySem.W.mg_of X G a_law_first,
    F_law_edits.toD,
    (fun j _ => by rw [List.drop_nil]; exact b_law_edits),
    .nil,
    PySem.W.mg_of X G a_law_edits,
    F_law_good.toD,
    (fun j _ => by rw [List.drop_nil]; exact b_law_good),
    .nil,
    PySem.W.mg_of X G a_law_good,
    F_law_plain_ones.toD,
    (fun j _ => by rw [List.drop_nil]; exact b_law_plain_ones),
    .nil,
    PySem.W.mg_of X G a_law_plain_ones,
    F_BadPage_init.toD,
    (fun j _ => by rw [List.drop_nil]; exact b_BadPage_init),
    .nil,
    if_BadPage_init,
    F_Unlike_init.toD,
    (fun j _ => by rw [List.drop_nil]; exact b_Unlike_init),
    .nil,
    if_Unlike_init,
    F_NoEdit_init.toD,
    (fun j _ => by rw [List.drop_nil]; exact b_NoEdit_init),
    .nil,
    if_NoEdit_init,
    F_NotLive_init.toD,
    (fun j _ => by rw [List.drop_nil]; exact b_NotLive_init),
    .nil,
    if_NotLive_init,
    F_IsLive_init.toD,
    (fun j _ => by rw [List.drop_nil]; exact b_IsLive_init),
    .nil,
    if_IsLive_init,
    F_StandsOn_init.toD,
    (fun j _ => by rw [List.drop_nil]; exact b_StandsOn_init),
    .nil,
    if_StandsOn_init,
    F_NoEditor_init.toD,
    (fun j _ => by rw [List.drop_nil]; exact b_NoEditor_init),
    .nil,
    if_NoEditor_init,
    F_law_with_fields.toD,
    (fun j _ => by rw [List.drop_nil]; exact b_law_with_fields),
    .nil,
    PySem.W.mg_of X G a_law_with_fields,
    F_EditError_init,
    b_EditError_init,
    (.cons rfl .nil),
    if_EditError_init,
    F_law_of_edits.toD,
    (fun j _ => by rw [List.drop_nil]; exact b_law_of_edits),
    .nil,
    PySem.W.mg_of X G a_law_of_edits,
    F_law.toD,
    (fun j _ => by rw [List.drop_nil]; exact b_law),
    .nil,
    PySem.W.mg_of X G a_law,
    PySem.W.mg_of X G a_LeafError,
    kp_LeafError,
    x_LeafError.ecls (by decide +kernel),
    in_LeafError,
    PySem.W.mg_of X G a_BadPanel,
    kp_BadPanel,
    x_BadPanel.ecls tl_1,
    in_BadPanel,
    PySem.W.mg_of X G a_NoChoice,
    kp_NoChoice,
    x_NoChoice.ecls tl_1,
    in_NoChoice,
    PySem.W.mg_of X G a_BadCond,
    kp_BadCond,
    x_BadCond.ecls tl_1,
    in_BadCond,
    PySem.W.mg_of X G a_BadEdit,
    kp_BadEdit,
    x_BadEdit.ecls tl_1,
    in_BadEdit,
    PySem.W.mg_of X G a_NoRow,
    kp_NoRow,
    x_NoRow.ecls tl_1,
    in_NoRow,
    PySem.W.mg_of X G a_BadPage,
    kp_BadPage,
    x_BadPage.ecls tl_1,
    in_BadPage,
    PySem.W.mg_of X G a_Unlike,
    kp_Unlike,
    x_Unlike.ecls tl_1,
    in_Unlike,
    PySem.W.mg_of X G a_NoEdit,
    kp_NoEdit,
    x_NoEdit.ecls tl_1,
    in_NoEdit,
    PySem.W.mg_of X G a_NotLive,
    kp_NotLive,
    x_NotLive.ecls tl_1,
    in_NotLive,
    PySem.W.mg_of X G a_IsLive,
    kp_IsLive,
    x_IsLive.ecls tl_1,
    in_IsLive,
    PySem.W.mg_of X G a_StandsOn,
    kp_StandsOn,
    x_StandsOn.ecls tl_1,
    in_StandsOn,
    PySem.W.mg_of X G a_NoEditor,
    kp_NoEditor,
    x_NoEditor.ecls tl_1,
    in_NoEditor,
    PySem.W.mg_of X G a_EditError,
    kp_EditError,
    x_EditError.ecls tl_1,
    in_EditError,
    PySem.W.mg_of X G a_NoPart,
    kp_NoPart,
    x_NoPart.ecls tl_2,
    in_NoPart,
    PySem.W.mg_of X G a_Doubled,
    kp_Doubled,
    x_Doubled.ecls tl_2,
    in_Doubled,
    PySem.W.mg_of X G a_Lost,
    kp_Lost,
    x_Lost.ecls tl_2,
    in_Lost,
    PySem.W.mg_of X G a_Ring,
    kp_Ring,
    x_Ring.ecls tl_2,
    in_Ring,
    PySem.W.mg_of X G a_NoHolder,
    kp_NoHolder,
    x_NoHolder.ecls tl_2,
    in_NoHolder,
    PySem.W.mg_of X G a_WrongKind,
    kp_WrongKind,
    x_WrongKind.ecls tl_2,
    in_WrongKind,
    PySem.W.mg_of X G a_Far,
    kp_Far,
    x_Far.ecls tl_2,
    in_Far,
    PySem.W.mg_of X G a_TooLong,
    kp_TooLong,
    x_TooLong.ecls tl_2,
    in_TooLong,
    PySem.W.mg_none_of X G z_ValueError,
    PySem.W.mg_none_of X G z_enumerate,
    PySem.W.mg_none_of X G z_isinstance,
    PySem.W.mg_none_of X G z_len,
    PySem.W.mg_none_of X G z_range,
    (facts_of nd x_LeafError x_EditError (fun i C h => by
      match i, h with
      | 0, h => cases h; exact x_BadPanel
      | 1, h => cases h; exact x_NoChoice
      | 2, h => cases h; exact x_BadCond
      | 3, h => cases h; exact x_BadEdit
      | 4, h => cases h; exact x_NoRow
      | 5, h => cases h; exact x_BadPage
      | 6, h => cases h; exact x_Unlike
      | 7, h => cases h; exact x_NoEdit
      | 8, h => cases h; exact x_NotLive
      | 9, h => cases h; exact x_IsLive
      | 10, h => cases h; exact x_StandsOn
      | 11, h => cases h; exact x_NoEditor)
    (fun i C h => by
      match i, h with
      | 0, h => cases h; exact x_NoPart
      | 1, h => cases h; exact x_Doubled
      | 2, h => cases h; exact x_Lost
      | 3, h => cases h; exact x_Ring
      | 4, h => cases h; exact x_NoHolder
      | 5, h => cases h; exact x_WrongKind
      | 6, h => cases h; exact x_Far
      | 7, h => cases h; exact x_TooLong)
    n_BadPage_line n_BadPage_choice n_Unlike_part n_Unlike_one n_Unlike_other n_StandsOn_number n_StandsOn_choice n_NoEditor_editor n_NoEdit_number n_NotLive_number n_IsLive_number
    (by
      intro C hC
      simp only [editC, List.mem_cons, List.not_mem_nil, or_false] at hC
      rcases hC with rfl | rfl | rfl | rfl | rfl | rfl | rfl | rfl | rfl
      · exact n_EditError_part
      · exact n_NoPart_part
      · exact n_Doubled_part
      · exact n_Lost_part
      · exact n_Ring_part
      · exact n_NoHolder_part
      · exact n_WrongKind_part
      · exact n_Far_part
      · exact n_TooLong_part)
    (by
      intro C hC
      simp only [editC, List.mem_cons, List.not_mem_nil, or_false] at hC
      rcases hC with rfl | rfl | rfl | rfl | rfl | rfl | rfl | rfl | rfl
      · exact n_EditError_choice
      · exact n_NoPart_choice
      · exact n_Doubled_choice
      · exact n_Lost_choice
      · exact n_Ring_choice
      · exact n_NoHolder_choice
      · exact n_WrongKind_choice
      · exact n_Far_choice
      · exact n_TooLong_choice))⟩
  exact ⟨_, PySem.W.fnOf "law" "law" (defArgs s_law) (defBody s_law) (defScope s_law) .none kV_law dc_law pm_law an_law cd_law ct_law, fun s v => .of_eq rfl, fun base _ _ => law_ok AO⟩
def sp0 (K : PySem.W.Frag) : Sp := fun vs H Q _ => ∃ (a : Addr) (ns : List Int), vs = [.ref a] ∧ SqL K H a (ns.map V.int) ∧ ns.length ≤ 63 ∧ ∀ H', Q (.bl true) H'
theorem walk {l : PySem.W.OpenLaw} {q : Program} {loose : List Str} {XP : (Str → Option Value) → Heap → Prop} {YP : World → Heap → Prop} {d : DefRec} {K : Params → PySem.W.Frag} (hn : l.most = some 63) (hdf : d.params.defaults = [])
    (hY : ∀ (w : World) (h : Heap), YP w h → (K w.params).In h)
    (F : ∀ (w : World) (mg : Str → Option Value) (fa : Addr) (h : Heap), (K w.params).In h → h.Ns mainGlobals mg → mg d.name = some (.ref fa) →
      ∃ (t : Adr) (fd : FuncData), (∀ (s : Shared) (u : Value), BindsTo s fd ⟨[u], []⟩ [("_law_script", u)]) ∧ ∀ base : Heap, (K w.params).In base → base.Ns mainGlobals mg → FnOk l.prog w (K w.params) mg base CX0 4 fa fd ["_law_script"] (sp_law (K w.params) t)) :
    PySem.W.WalkO q loose XP YP l.row.toRowW d [] (fun f vs => PySem.call f vs) :=
  L2.walk_of (n := 63) (k := 4) (x := "_law_script") (CX := fun _ => CX0) (sp := fun w => sp0 (K w.params)) hn (by decide) hdf ⟨rfl, by decide, by decide⟩ hY (fun w mg fa h a b c => let ⟨t, fd, h1, h2⟩ := F w mg fa h a b c; ⟨fd, h1, fun base x y => (h2 base x y).imp fun vs H Q E z => z⟩) (fun _ _ a ns hl _ hS => ⟨a, ns, rfl, hS, hl, fun _ => rfl⟩) fun _ _ _ _ _ z => z
end K06
open PySem PySem.W PyProof.Rows
set_option maxRecDepth 100000 in
set_option maxHeartbeats 0 in
theorem PySem.Challenge.cw_manyleaf_k06_refusals_made_holds : PySem.Challenge.rw_manyleaf_k06_refusals_made.Holds := by
  refine head_k06 ?_
  k_fill
  refine K06.walk (l := PySem.Challenge.rw_manyleaf_k06_refusals_made) rfl rfl (fun w h Y => PySem.W.kIn_of Y) ?F
  case F =>
    intro w mg fa h KX G hmg
    refine' K06.all_mk KX G hmg ?a_LeafError ?a_BadPanel ?a_NoChoice ?a_BadCond ?a_BadEdit ?a_NoRow ?a_BadPage ?a_Unlike ?a_NoEdit ?a_NotLive ?a_IsLive ?a_StandsOn ?a_NoEditor ?a_EditError ?a_NoPart ?a_Doubled ?a_Lost ?a_Ring ?a_NoHolder ?a_WrongKind ?a_Far ?a_TooLong ?in_LeafError ?kp_LeafError ?in_BadPanel ?kp_BadPanel ?in_NoChoice ?kp_NoChoice ?in_BadCond ?kp_BadCond ?in_BadEdit ?kp_BadEdit ?in_NoRow ?kp_NoRow ?in_BadPage ?kp_BadPage ?in_Unlike ?kp_Unlike ?in_NoEdit ?kp_NoEdit ?in_NotLive ?kp_NotLive ?in_IsLive ?kp_IsLive ?in_StandsOn ?kp_StandsOn ?in_NoEditor ?kp_NoEditor ?in_EditError ?kp_EditError ?in_NoPart ?kp_NoPart ?in_Doubled ?kp_Doubled ?in_Lost ?kp_Lost ?in_Ring ?kp_Ring ?in_NoHolder ?kp_NoHolder ?in_WrongKind ?kp_WrongKind ?in_Far ?kp_Far ?in_TooLong ?kp_TooLong ?a_law_cell_at ?l_law_cell_at ?c_law_cell_at ?k_law_cell_at ?a_law_mix ?l_law_mix ?c_law_mix ?k_law_mix ?a_law_first ?l_law_first ?c_law_first ?k_law_first ?a_law_edits ?l_law_edits ?c_law_edits ?k_law_edits ?a_law_good ?l_law_good ?c_law_good ?k_law_good ?a_law_plain_ones ?l_law_plain_ones ?c_law_plain_ones ?k_law_plain_ones ?l_BadPage_init ?c_BadPage_init ?k_BadPage_init ?if_BadPage_init ?l_Unlike_init ?c_Unlike_init ?k_Unlike_init ?if_Unlike_init ?l_NoEdit_init ?c_NoEdit_init ?k_NoEdit_init ?if_NoEdit_init ?l_NotLive_init ?c_NotLive_init ?k_NotLive_init ?if_NotLive_init ?l_IsLive_init ?c_IsLive_init ?k_IsLive_init ?if_IsLive_init ?l_StandsOn_init ?c_StandsOn_init ?k_StandsOn_init ?if_StandsOn_init ?l_NoEditor_init ?c_NoEditor_init ?k_NoEditor_init ?if_NoEditor_init ?a_law_with_fields ?l_law_with_fields ?c_law_with_fields ?k_law_with_fields ?l_EditError_init ?c_EditError_init ?k_EditError_init ?if_EditError_init ?ld_EditError_init ?a_law_of_edits ?l_law_of_edits ?c_law_of_edits ?k_law_of_edits ?a_law ?l_law ?c_law ?k_law ?x_LeafError ?x_BadPanel ?x_NoChoice ?x_BadCond ?x_BadEdit ?x_NoRow ?x_BadPage ?x_Unlike ?x_NoEdit ?x_NotLive ?x_IsLive ?x_StandsOn ?x_NoEditor ?x_EditError ?x_NoPart ?x_Doubled ?x_Lost ?x_Ring ?x_NoHolder ?x_WrongKind ?x_Far ?x_TooLong ?z_ValueError ?z_enumerate ?z_isinstance ?z_len ?z_range ?nd ?n_BadPage_line ?n_BadPage_choice ?n_Unlike_part ?n_Unlike_one ?n_Unlike_other ?n_StandsOn_number ?n_StandsOn_choice ?n_NoEditor_editor ?n_NoEdit_number ?n_NotLive_number ?n_IsLive_number ?n_EditError_part ?n_NoPart_part ?n_Doubled_part ?n_Lost_part ?n_Ring_part ?n_NoHolder_part ?n_WrongKind_part ?n_Far_part ?n_TooLong_part ?n_EditError_choice ?n_NoPart_choice ?n_Doubled_choice ?n_Lost_choice ?n_Ring_choice ?n_NoHolder_choice ?n_WrongKind_choice ?n_Far_choice ?n_TooLong_choice
    (case a_LeafError => k_is)
    (case a_BadPanel => k_is)
    (case a_NoChoice => k_is)
    (case a_BadCond => k_is)
    (case a_BadEdit => k_is)
    (case a_NoRow => k_is)
    (case a_BadPage => k_is)
    (case a_Unlike => k_is)
    (case a_NoEdit => k_is)
    (case a_NotLive => k_is)
    (case a_IsLive => k_is)
    (case a_StandsOn => k_is)
    (case a_NoEditor => k_is)
    (case a_EditError => k_is)
    (case a_NoPart => k_is)
    (case a_Doubled => k_is)
    (case a_Lost => k_is)
    (case a_Ring => k_is)
    (case a_NoHolder => k_is)
    (case a_WrongKind => k_is)
    (case a_Far => k_is)
    (case a_TooLong => k_is)
    (case in_LeafError => k_is)
    (case kp_LeafError => k_is)
    (case in_BadPanel => k_is)
    (case kp_BadPanel => k_is)
    (case in_NoChoice => k_is)
    (case kp_NoChoice => k_is)
    (case in_BadCond => k_is)
    (case kp_BadCond => k_is)
    (case in_BadEdit => k_is)
    (case kp_BadEdit => k_is)
    (case in_NoRow => k_is)
    (case kp_NoRow => k_is)
    (case in_BadPage => k_is)
    (case kp_BadPage => k_is)
    (case in_Unlike => k_is)
    (case kp_Unlike => k_is)
    (case in_NoEdit => k_is)
    (case kp_NoEdit => k_is)
    (case in_NotLive => k_is)
    (case kp_NotLive => k_is)
    (case in_IsLive => k_is)
    (case kp_IsLive => k_is)
    (case in_StandsOn => k_is)
    (case kp_StandsOn => k_is)
    (case in_NoEditor => k_is)
    (case kp_NoEditor => k_is)
    (case in_EditError => k_is)
    (case kp_EditError => k_is)
    (case in_NoPart => k_is)
    (case kp_NoPart => k_is)
    (case in_Doubled => k_is)
    (case kp_Doubled => k_is)
    (case in_Lost => k_is)
    (case kp_Lost => k_is)
    (case in_Ring => k_is)
    (case kp_Ring => k_is)
    (case in_NoHolder => k_is)
    (case kp_NoHolder => k_is)
    (case in_WrongKind => k_is)
    (case kp_WrongKind => k_is)
    (case in_Far => k_is)
    (case kp_Far => k_is)
    (case in_TooLong => k_is)
    (case kp_TooLong => k_is)
    (case a_law_cell_at => k_is)
    (case l_law_cell_at => k_is)
    (case c_law_cell_at => k_is)
    (case k_law_cell_at => k_is)
    (case a_law_mix => k_is)
    (case l_law_mix => k_is)
    (case c_law_mix => k_is)
    (case k_law_mix => k_is)
    (case a_law_first => k_is)
    (case l_law_first => k_is)
    (case c_law_first => k_is)
    (case k_law_first => k_is)
    (case a_law_edits => k_is)
    (case l_law_edits => k_is)
    (case c_law_edits => k_is)
    (case k_law_edits => k_is)
    (case a_law_good => k_is)
    (case l_law_good => k_is)
    (case c_law_good => k_is)
    (case k_law_good => k_is)
    (case a_law_plain_ones => k_is)
    (case l_law_plain_ones => k_is)
    (case c_law_plain_ones => k_is)
    (case k_law_plain_ones => k_is)
    (case l_BadPage_init => k_is)
    (case c_BadPage_init => k_is)
    (case k_BadPage_init => k_is)
    (case if_BadPage_init => k_is)
    (case l_Unlike_init => k_is)
    (case c_Unlike_init => k_is)
    (case k_Unlike_init => k_is)
    (case if_Unlike_init => k_is)
    (case l_NoEdit_init => k_is)
    (case c_NoEdit_init => k_is)
    (case k_NoEdit_init => k_is)
    (case if_NoEdit_init => k_is)
    (case l_NotLive_init => k_is)
    (case c_NotLive_init => k_is)
    (case k_NotLive_init => k_is)
    (case if_NotLive_init => k_is)
    (case l_IsLive_init => k_is)
    (case c_IsLive_init => k_is)
    (case k_IsLive_init => k_is)
    (case if_IsLive_init => k_is)
    (case l_StandsOn_init => k_is)
    (case c_StandsOn_init => k_is)
    (case k_StandsOn_init => k_is)
    (case if_StandsOn_init => k_is)
    (case l_NoEditor_init => k_is)
    (case c_NoEditor_init => k_is)
    (case k_NoEditor_init => k_is)
    (case if_NoEditor_init => k_is)
    (case a_law_with_fields => k_is)
    (case l_law_with_fields => k_is)
    (case c_law_with_fields => k_is)
    (case k_law_with_fields => k_is)
    (case l_EditError_init => k_is)
    (case c_EditError_init => k_is)
    (case k_EditError_init => k_is)
    (case if_EditError_init => k_is)
    (case ld_EditError_init => k_is)
    (case a_law_of_edits => k_is)
    (case l_law_of_edits => k_is)
    (case c_law_of_edits => k_is)
    (case k_law_of_edits => k_is)
    (case a_law => k_is)
    (case l_law => k_is)
    (case c_law => k_is)
    (case k_law => k_is)
    (case x_LeafError => (refine' L2.xc_mk ?l ?y ?s ?g ?t ?c ?n ?k; (case l => k_is); (case y => k_is); (case s => k_is); (case g => k_is); (case t => k_is); (case c => k_is); (case n => k_is); (case k => k_is)))
    (case x_BadPanel => (refine' L2.xc_mk ?l ?y ?s ?g ?t ?c ?n ?k; (case l => k_is); (case y => k_is); (case s => k_is); (case g => k_is); (case t => k_is); (case c => k_is); (case n => k_is); (case k => k_is)))
    (case x_NoChoice => (refine' L2.xc_mk ?l ?y ?s ?g ?t ?c ?n ?k; (case l => k_is); (case y => k_is); (case s => k_is); (case g => k_is); (case t => k_is); (case c => k_is); (case n => k_is); (case k => k_is)))
    (case x_BadCond => (refine' L2.xc_mk ?l ?y ?s ?g ?t ?c ?n ?k; (case l => k_is); (case y => k_is); (case s => k_is); (case g => k_is); (case t => k_is); (case c => k_is); (case n => k_is); (case k => k_is)))
    (case x_BadEdit => (refine' L2.xc_mk ?l ?y ?s ?g ?t ?c ?n ?k; (case l => k_is); (case y => k_is); (case s => k_is); (case g => k_is); (case t => k_is); (case c => k_is); (case n => k_is); (case k => k_is)))
    (case x_NoRow => (refine' L2.xc_mk ?l ?y ?s ?g ?t ?c ?n ?k; (case l => k_is); (case y => k_is); (case s => k_is); (case g => k_is); (case t => k_is); (case c => k_is); (case n => k_is); (case k => k_is)))
    (case x_BadPage => (refine' L2.xc_mk ?l ?y ?s ?g ?t ?c ?n ?k; (case l => k_is); (case y => k_is); (case s => k_is); (case g => k_is); (case t => k_is); (case c => k_is); (case n => k_is); (case k => k_is)))
    (case x_Unlike => (refine' L2.xc_mk ?l ?y ?s ?g ?t ?c ?n ?k; (case l => k_is); (case y => k_is); (case s => k_is); (case g => k_is); (case t => k_is); (case c => k_is); (case n => k_is); (case k => k_is)))
    (case x_NoEdit => (refine' L2.xc_mk ?l ?y ?s ?g ?t ?c ?n ?k; (case l => k_is); (case y => k_is); (case s => k_is); (case g => k_is); (case t => k_is); (case c => k_is); (case n => k_is); (case k => k_is)))
    (case x_NotLive => (refine' L2.xc_mk ?l ?y ?s ?g ?t ?c ?n ?k; (case l => k_is); (case y => k_is); (case s => k_is); (case g => k_is); (case t => k_is); (case c => k_is); (case n => k_is); (case k => k_is)))
    (case x_IsLive => (refine' L2.xc_mk ?l ?y ?s ?g ?t ?c ?n ?k; (case l => k_is); (case y => k_is); (case s => k_is); (case g => k_is); (case t => k_is); (case c => k_is); (case n => k_is); (case k => k_is)))
    (case x_StandsOn => (refine' L2.xc_mk ?l ?y ?s ?g ?t ?c ?n ?k; (case l => k_is); (case y => k_is); (case s => k_is); (case g => k_is); (case t => k_is); (case c => k_is); (case n => k_is); (case k => k_is)))
    (case x_NoEditor => (refine' L2.xc_mk ?l ?y ?s ?g ?t ?c ?n ?k; (case l => k_is); (case y => k_is); (case s => k_is); (case g => k_is); (case t => k_is); (case c => k_is); (case n => k_is); (case k => k_is)))
    (case x_EditError => (refine' L2.xc_mk ?l ?y ?s ?g ?t ?c ?n ?k; (case l => k_is); (case y => k_is); (case s => k_is); (case g => k_is); (case t => k_is); (case c => k_is); (case n => k_is); (case k => k_is)))
    (case x_NoPart => (refine' L2.xc_mk ?l ?y ?s ?g ?t ?c ?n ?k; (case l => k_is); (case y => k_is); (case s => k_is); (case g => k_is); (case t => k_is); (case c => k_is); (case n => k_is); (case k => k_is)))
    (case x_Doubled => (refine' L2.xc_mk ?l ?y ?s ?g ?t ?c ?n ?k; (case l => k_is); (case y => k_is); (case s => k_is); (case g => k_is); (case t => k_is); (case c => k_is); (case n => k_is); (case k => k_is)))
    (case x_Lost => (refine' L2.xc_mk ?l ?y ?s ?g ?t ?c ?n ?k; (case l => k_is); (case y => k_is); (case s => k_is); (case g => k_is); (case t => k_is); (case c => k_is); (case n => k_is); (case k => k_is)))
    (case x_Ring => (refine' L2.xc_mk ?l ?y ?s ?g ?t ?c ?n ?k; (case l => k_is); (case y => k_is); (case s => k_is); (case g => k_is); (case t => k_is); (case c => k_is); (case n => k_is); (case k => k_is)))
    (case x_NoHolder => (refine' L2.xc_mk ?l ?y ?s ?g ?t ?c ?n ?k; (case l => k_is); (case y => k_is); (case s => k_is); (case g => k_is); (case t => k_is); (case c => k_is); (case n => k_is); (case k => k_is)))
    (case x_WrongKind => (refine' L2.xc_mk ?l ?y ?s ?g ?t ?c ?n ?k; (case l => k_is); (case y => k_is); (case s => k_is); (case g => k_is); (case t => k_is); (case c => k_is); (case n => k_is); (case k => k_is)))
    (case x_Far => (refine' L2.xc_mk ?l ?y ?s ?g ?t ?c ?n ?k; (case l => k_is); (case y => k_is); (case s => k_is); (case g => k_is); (case t => k_is); (case c => k_is); (case n => k_is); (case k => k_is)))
    (case x_TooLong => (refine' L2.xc_mk ?l ?y ?s ?g ?t ?c ?n ?k; (case l => k_is); (case y => k_is); (case s => k_is); (case g => k_is); (case t => k_is); (case c => k_is); (case n => k_is); (case k => k_is)))
    (case z_ValueError => k_is)
    (case z_enumerate => k_is)
    (case z_isinstance => k_is)
    (case z_len => k_is)
    (case z_range => k_is)
    (case nd => decide)
    (case n_BadPage_line => k_is)
    (case n_BadPage_choice => k_is)
    (case n_Unlike_part => k_is)
    (case n_Unlike_one => k_is)
    (case n_Unlike_other => k_is)
    (case n_StandsOn_number => k_is)
    (case n_StandsOn_choice => k_is)
    (case n_NoEditor_editor => k_is)
    (case n_NoEdit_number => k_is)
    (case n_NotLive_number => k_is)
    (case n_IsLive_number => k_is)
    (case n_EditError_part => k_is)
    (case n_NoPart_part => k_is)
    (case n_Doubled_part => k_is)
    (case n_Lost_part => k_is)
    (case n_Ring_part => k_is)
    (case n_NoHolder_part => k_is)
    (case n_WrongKind_part => k_is)
    (case n_Far_part => k_is)
    (case n_TooLong_part => k_is)
    (case n_EditError_choice => k_is)
    (case n_NoPart_choice => k_is)
    (case n_Doubled_choice => k_is)
    (case n_Lost_choice => k_is)
    (case n_Ring_choice => k_is)
    (case n_NoHolder_choice => k_is)
    (case n_WrongKind_choice => k_is)
    (case n_Far_choice => k_is)
    (case n_TooLong_choice => k_is)
#print axioms PySem.Challenge.cw_manyleaf_k06_refusals_made_holds
