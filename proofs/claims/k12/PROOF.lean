import PyProof.Rows.All
import Wide.All
import OpenK.AllK
import Wide.FinOn
import Lean
import PyProof.EqAt
import PyProof.EqKinds
import PyProof.TupleCall
import PyProof.NeKinds
import PyProof.ZipIter
import PyProof.StrWalks
import PyProof.ConsumeWalk
import PyProof.ExcArgs
import PyProof.ExcBaseAll.ValueError
import KE.KIsAll
import PyProof.EnumFor
import PyProof.EnumMake
import PyProof.EnumStmt
import PyProof.Rows.EnumRows
import PyProof.DictWalks
import PyProof.Rows.SetFrom
import PyProof.DictItems
import KE.KDictList
import PyProof.RulesRaise
import PyProof.RulesTry
import PyProof.Rows.Range3
import PyProof.Rows.ChunkLeaf
import PyProof.StationsW
import PyProof.PassesOwn
import PyProof.NsDelKeeps
import PySem.Challenge.RW_manyleaf_k12_no_condition
set_option Elab.async false
set_option linter.all false
set_option maxRecDepth 100000
namespace L2
open PySem PySem.Spec PyProof.Rows
abbrev Key := Sum Int Str
def J9 : Key -> Value -> Bool
 | .inl k, v => Value.isInt k v
 | .inr x, v => Value.isStrOf x v
def keyH (w : World) : Key -> Int
 | .inl k => hashInt k
 | .inr x => hashStr w x
theorem A5 : ∀ {k : Key} {v : Value}, J9 k v = true -> (∃ i t, k = Sum.inl i /\ v = Value.int i t) \/ (∃ x t, k = Sum.inr x /\ v = Value.str x t)
 | .inl i, v, h => by
  obtain ⟨t, e⟩ := Value.isInt_shape (k := i) (v := v) h
  exact .inl ⟨i, t, rfl, e⟩
 | .inr x, v, h => by
  obtain ⟨t, e⟩ := Value.isStrOf_shape (x := x) (v := v) h
  exact .inr ⟨x, t, rfl, e⟩
theorem Rj (i : Int) (t : Tok) : J9 (.inl i) (.int i t) = true := by simp [J9, Value.isInt]
theorem Rk (x : Str) (t : Tok) : J9 (.inr x) (.str x t) = true := by simp [J9, Value.isStrOf]
theorem aa3 (a b : Int) : decide ((Sum.inl a : Key) = Sum.inl b) = (a == b) := by
 by_cases e : a = b
 ·subst e; simp
 ·have h : ¬ (Sum.inl a : Key) = Sum.inl b := fun q => e (Sum.inl.inj q)
  rw [decide_eq_false h]
  exact (beq_eq_false_iff_ne.mpr e).symm
theorem aa6 (a b : Str) : decide ((Sum.inr a : Key) = Sum.inr b) = decide (a = b) := by
 by_cases e : a = b
 ·subst e; simp
 ·have h : ¬ (Sum.inr a : Key) = Sum.inr b := fun q => e (Sum.inr.inj q)
  rw [decide_eq_false h, decide_eq_false e]
theorem aa4 (a : Int) (b : Str) : decide ((Sum.inl a : Key) = Sum.inr b) = false := decide_eq_false (fun q => nomatch q)
theorem aa5 (a : Str) (b : Int) : decide ((Sum.inr a : Key) = Sum.inl b) = false := decide_eq_false (fun q => nomatch q)
def Ay (prog : Program) (w : World) : PySem.KeyKind prog w Key where
 is := J9
 hash := keyH w
 inj := fun v a b ha hb => by
  rcases A5 ha with ⟨i, t, rfl, rfl⟩ | ⟨x, t, rfl, rfl⟩
  ·rcases A5 hb with ⟨j, u, rfl, e⟩ | ⟨y, u, rfl, e⟩
   ·injection e with e1 _; rw [e1]
   ·exact nomatch e
  ·rcases A5 hb with ⟨j, u, rfl, e⟩ | ⟨y, u, rfl, e⟩
   ·exact nomatch e
   ·injection e with e1 _; rw [e1]
 byValue := fun k v h => by
  rcases A5 h with ⟨i, t, rfl, rfl⟩ | ⟨x, t, rfl, rfl⟩ <;> rfl
 pyHash := fun hv h => by
  rcases A5 hv with ⟨i, t, rfl, rfl⟩ | ⟨x, t, rfl, rfl⟩
  ·exact wpAny_pyHash_int h
  ·exact wpAny_pyHash_str h
 eqBool := fun hu hv h => by
  rcases A5 hu with ⟨i, t, rfl, rfl⟩ | ⟨x, t, rfl, rfl⟩
  ·rcases A5 hv with ⟨j, u, rfl, rfl⟩ | ⟨y, u, rfl, rfl⟩
   ·rw [aa3] at h; exact wpAny_eqBool_int h
   ·rw [aa4] at h; exact SeqAt.EqAt.int_str i t y u _ _ _ _ h
  ·rcases A5 hv with ⟨j, u, rfl, rfl⟩ | ⟨y, u, rfl, rfl⟩
   ·rw [aa5] at h; exact SeqAt.EqAt.str_int x t j u _ _ _ _ h
   ·rw [aa6] at h; exact wpAny_eqBool_str h
 «strs» := fun k x t v h => by
  rcases A5 h with ⟨i, u, rfl, e⟩ | ⟨y, u, rfl, e⟩
  ·exact nomatch e
  ·injection e with e1 _
   subst e1
   cases v <;> rfl
theorem Mt (prog : Program) (w : World) (i : Int) (t : Tok) : (Ay prog w).is (.inl i) (.int i t) = true := Rj i t
theorem Mu (prog : Program) (w : World) (x : Str) (t : Tok) : (Ay prog w).is (.inr x) (.str x t) = true := Rk x t
inductive V where
 | non | bl (b : Bool) | int (i : Int) | str (x : Str) | byt (b : Array UInt8) | flt (b : UInt64) | ref (a : Addr) | ty (n : String)
 deriving DecidableEq
def RelV : V -> Value -> Prop
 | .non, u => u = Value.none
 | .bl b, u => u = Value.bool b
 | .int i, u => ∃ t, u = Value.int i t
 | .str x, u => ∃ t, u = Value.str x t
 | .byt b, u => ∃ t, u = Value.bytes b t
 | .flt b, u => ∃ t, u = Value.float b t
 | .ref a, u => u = Value.ref a
 | .ty n, u => u = Value.type n
abbrev Vals : List V -> List Value -> Prop := Paired RelV
theorem Vals.length {xs : List V} {us : List Value} (r : Vals xs us) : xs.length = us.length := Paired.length r
theorem Vals.get : ∀ {xs : List V} {us : List Value} {i : Nat} {x : V}, Vals xs us -> xs[i]? = some x -> ∃ u, us[i]? = some u /\ RelV x u
 | _, _, _, _, .nil, e => by simp at e
 | _, _, 0, _, .cons r _, e => by simp at e; subst e; exact ⟨_, rfl, r⟩
 | _, _, i + 1, x, .cons _ t, e => by
  obtain ⟨u, h1, h2⟩ := Vals.get (i := i) (x := x) t (by simpa using e)
  exact ⟨u, by simpa using h1, h2⟩
theorem Vals.set {x : V} {u : Value} (r : RelV x u) : ∀ {xs : List V} {us : List Value} (i : Nat), Vals xs us -> Vals (xs.set i x) (us.set i u)
 | _, _, _, .nil => .nil
 | _, _, 0, .cons _ t => .cons r t
 | _, _, i + 1, .cons q t => .cons q (Vals.set r i t)
theorem Vals.append : ∀ {xs ys : List V} {us ws : List Value}, Vals xs us -> Vals ys ws -> Vals (xs ++ ys) (us ++ ws)
 | _, _, _, _, .nil, s => s
 | _, _, _, _, .cons r t, s => .cons r (Vals.append t s)
theorem Vals.take : ∀ {xs : List V} {us : List Value} (n : Nat), Vals xs us -> Vals (xs.take n) (us.take n)
 | _, _, 0, _ => .nil
 | _, _, _ + 1, .nil => .nil
 | _, _, n + 1, .cons r t => .cons r (Vals.take n t)
theorem Vals.drop : ∀ {xs : List V} {us : List Value} (n : Nat), Vals xs us -> Vals (xs.drop n) (us.drop n)
 | _, _, 0, r => r
 | _, _, _ + 1, .nil => .nil
 | _, _, n + 1, .cons _ t => Vals.drop n t
def RelO : Option V -> Option Value -> Prop
 | some v, some u => RelV v u
 | none, none => True
 | _, _ => False
def KV {κ : Type} : List (κ × V) -> List (κ × Value) -> Prop := Paired fun (p : κ × V) (q : κ × Value) => p.1 = q.1 /\ RelV p.2 q.2
def kV : Key -> V
 | .inl i => .int i
 | .inr x => .str x
inductive HO where
 | lst (xs : List V)
 | tup (xs : List V)
 | dK (kvs : List (Key × V)) | dT (kvs : List (List Key × V))
 | set (S : Int -> Bool) (n : Nat)
 | ins (C dx : Addr) (fs : List (Str × V))
 | own (x : Addr)
 | xd (fs : List (Str × V))
 | met (f x : Addr)
 | rng (lo hi : Int)
 | frz (o : Obj) (u : HO)
 | tbl (ps : Array Value)
 | ext (φ : Heap -> Prop)
abbrev Hp := Addr -> Option HO
def upd (H : Hp) (a : Addr) (o : HO) : Hp := fun b => if b = a then some o else H b
theorem Ac {H : Hp} {a : Addr} {o : HO} : upd H a o a = some o := by unfold upd; rw [if_pos rfl]
theorem Af {H : Hp} {a b : Addr} {o : HO} (h : b ≠ a) : upd H a o b = H b := by unfold upd; rw [if_neg h]
theorem al8 {H : Hp} {a b : Addr} {o u : HO} (h : H a = some o) (h' : H b = some u) (d : o ≠ u) : a ≠ b := by
 intro e; subst e; rw [h] at h'; exact d (Option.some.inj h')
theorem Ae {H : Hp} {a b : Addr} {o : HO} (h : H a = some o) (h' : H b = none) : a ≠ b := by
 intro e; subst e; rw [h] at h'; cases h'
section
variable (P : Program) (w : World)
def ObjOk (H : Hp) (h : Heap) (a : Addr) : HO -> Prop
 | .lst xs => xs.length <= sizeLine /\ ∃ (its : List Value) (n : Nat), Vals xs its /\ h.get? a = some { cls := .type "list", data := .seq its.toArray n }
 | .tup xs => xs.length <= sizeLine /\ ∃ its : List Value, Vals xs its /\ IsTup h a its.toArray
 | .dK kvs => kvs.length <= sizeLine /\ (a == sysModules) = false /\ ∃ vs, KV kvs vs /\ h.DictOf (Ay P w) a vs
 | .dT kvs => kvs.length <= sizeLine /\ (a == sysModules) = false /\ ∃ xs : List (List Key × Addr × Value),
   Paired (fun (p : List Key × V) (q : List Key × Addr × Value) => p.1 = q.1 /\ H q.2.1 = some (.tup (p.1.map kV)) /\ RelV p.2 q.2.2) kvs xs /\
   ∃ o es ep, h.get? a = some o /\ o.ExactDict /\ o.data = .dict es ep /\ es.toList = xs.map (entryOfKey (tupleKind (Ay P w))) /\ (xs.map (·.1)).Nodup
 | .set S n => h.SetOf (intKind P w) a S n
 | .ins C dx fs => H dx = some (.own a) /\ fs.length <= 1000 /\ dx ≠ a /\ h.get? a = some (PySem.W.instObj C dx) /\
   ∃ mA, h.Ns1 dx mA /\ (∀ f, RelO (fs.lookup f) (mA f)) /\ PySem.Within mA (fs.map (·.1))
 | .own _ => ∃ o, h.get? a = some o
 | .xd fs => ∃ mA, h.Ns1 a mA /\ ∀ f, RelO (fs.lookup f) (mA f)
 | .rng lo hi => ∃ t u v, h.get? a = some { cls := .type "range", data := .fields #[.int lo t, .int hi u, .int 1 v] }
 | .frz o u => h.get? a = some o /\ ObjOk H h a u
 | .tbl ps => h.get? a = some { cls := .none, data := .fields ps }
 | .met f x => h.get? a = some (PySem.W.methodObj (.ref f) (.ref x))
 | .ext φ => φ h /\ (∃ o, h.get? a = some o) /\ ∀ h1 h2 : Heap, φ h1 -> (∀ o, h1.get? a = some o -> h2.get? a = some o) -> φ h2
def HOk (H : Hp) (h : Heap) : Prop := ∀ a o, H a = some o -> ObjOk P w H h a o
end
section
variable {P : Program} {w : World} {H H' : Hp} {h h' : Heap} {a : Addr} {o : HO}
theorem ObjOk.lt (x : ObjOk P w H h a o) : a < h.objs.size := by
 cases o with
 | lst xs => obtain ⟨_, _, _, _, e⟩ := x; exact Heap.lt_size e
 | tup xs => obtain ⟨_, _, _, p⟩ := x; exact p.lt
 | dK kvs => obtain ⟨_, _, _, _, o, _, _, e, _⟩ := x; exact Heap.lt_size e
 | dT kvs => obtain ⟨_, _, _, _, o, _, _, e, _⟩ := x; exact Heap.lt_size e
 | set S n => obtain ⟨o, _, _, _, e, _⟩ := x; exact Heap.lt_size e
 | ins C dx fs => obtain ⟨_, _, _, e, _⟩ := x; exact Heap.lt_size e
 | own y => obtain ⟨_, e⟩ := x; exact Heap.lt_size e
 | xd fs => obtain ⟨_, ⟨_, _, _, e, _⟩, _⟩ := x; exact Heap.lt_size e
 | rng lo hi => obtain ⟨_, _, _, e⟩ := x; exact Heap.lt_size e
 | frz ob u => obtain ⟨e, _⟩ := x; exact Heap.lt_size e
 | tbl ps => exact Heap.lt_size (show h.get? a = some _ from x)
 | met f y => exact Heap.lt_size (show h.get? a = some _ from x)
 | ext φ => obtain ⟨_, ⟨_, e⟩, _⟩ := x; exact Heap.lt_size e
theorem Paired.mapP {α β : Type} {F G : α -> β -> Prop} : ∀ {l₁ : List α} {l₂ : List β}, Paired F l₁ l₂ -> (∀ a b, F a b -> G a b) -> Paired G l₁ l₂
 | _, _, .nil, _ => .nil
 | _, _, .cons r t, f => .cons (f _ _ r) (Paired.mapP t f)
theorem ObjOk.stay (x : ObjOk P w H h a o) (k : ∀ b u, (b = a \/ H b = some (.own a)) -> h.get? b = some u -> h'.get? b = some u)
  (ho : ∀ b, H b = some (.own a) -> H' b = some (.own a)) (ht : ∀ b xs, H b = some (.tup xs) -> H' b = some (.tup xs)) : ObjOk P w H' h' a o := by
 induction o with
 | lst xs => obtain ⟨z, its, n, r, e⟩ := x; exact ⟨z, its, n, r, k _ _ (.inl rfl) e⟩
 | tup xs => obtain ⟨z, its, r, ob, e, c⟩ := x; exact ⟨z, its, r, ob, k _ _ (.inl rfl) e, c⟩
 | dK kvs => obtain ⟨z, y, vs, r, ob, es, ep, e, c⟩ := x; exact ⟨z, y, vs, r, ob, es, ep, k _ _ (.inl rfl) e, c⟩
 | dT kvs =>
  obtain ⟨z, y, xs, r, ob, es, ep, e, c⟩ := x
  exact ⟨z, y, xs, Paired.mapP r fun p q z => ⟨z.1, ht _ _ z.2.1, z.2.2⟩, ob, es, ep, k _ _ (.inl rfl) e, c⟩
 | set S n => obtain ⟨ob, es, ep, t, e, c⟩ := x; exact ⟨ob, es, ep, t, k _ _ (.inl rfl) e, c⟩
 | ins C dx fs =>
  obtain ⟨d, z, ne, e, mA, ⟨od, es, ep, e2, c⟩, r⟩ := x
  exact ⟨ho _ d, z, ne, k _ _ (.inl rfl) e, mA, ⟨od, es, ep, k _ _ (.inr d) e2, c⟩, r⟩
 | own y => obtain ⟨ob, e⟩ := x; exact ⟨ob, k _ _ (.inl rfl) e⟩
 | xd fs => obtain ⟨mA, ⟨od, es, ep, e, c⟩, r⟩ := x; exact ⟨mA, ⟨od, es, ep, k _ _ (.inl rfl) e, c⟩, r⟩
 | rng lo hi => obtain ⟨t, u, v, e⟩ := x; exact ⟨t, u, v, k _ _ (.inl rfl) e⟩
 | frz ob u ih => obtain ⟨e, q⟩ := x; exact ⟨k _ _ (.inl rfl) e, ih q⟩
 | tbl ps =>
  have e : h.get? a = some { cls := .none, data := .fields ps } := x
  show h'.get? a = some { cls := .none, data := .fields ps }
  exact k a _ (.inl rfl) e
 | met f y =>
  have e : h.get? a = some (PySem.W.methodObj (.ref f) (.ref y)) := x
  show h'.get? a = some (PySem.W.methodObj (.ref f) (.ref y))
  exact k a _ (.inl rfl) e
 | ext φ => obtain ⟨p, ⟨o, e⟩, st⟩ := x; exact ⟨st _ _ p fun o q => k _ _ (.inl rfl) q, ⟨o, k _ _ (.inl rfl) e⟩, st⟩
theorem HOk.lt (x : HOk P w H h) (e : H a = some o) : a < h.objs.size := (x a o e).lt
theorem HOk.fresh (x : HOk P w H h) (e : h.objs.size <= a) : H a = none := by
 cases q : H a with
 | none => rfl
 | some u => exact absurd (Nat.lt_of_lt_of_le (x.lt q) e) (Nat.lt_irrefl _)
theorem HOk.kept (x : HOk P w H h) (k : ∀ b u, h.get? b = some u -> h'.get? b = some u) : HOk P w H h' := fun a o e =>
 (x a o e).stay (fun b u _ q => k b u q) (fun _ q => q) fun _ _ q => q
theorem HOk.laid (x : HOk P w H h) (k : ∀ b u, h.get? b = some u -> h'.get? b = some u) (hp : h.objs.size <= a) (new : ObjOk P w (upd H a o) h' a o) : HOk P w (upd H a o) h' := fun b u e => by
 have hn := x.fresh hp
 by_cases hb : b = a
 ·subst hb; rw [Ac] at e; cases e; exact new
 ·rw [Af hb] at e
  exact (x b u e).stay (fun c v _ q => k c v q) (fun c q => by rw [Af (Ae q hn)]; exact q) fun c xs q => by rw [Af (Ae q hn)]; exact q
end
def Rd (H : Hp) (a : Addr) (u : HO) : Prop := H a = some u \/ ∃ o, H a = some (.frz o u)
theorem Rd.ok {P : Program} {w : World} {H : Hp} {h : Heap} {a : Addr} {u : HO} (r : Rd H a u) (x : HOk P w H h) : ObjOk P w H h a u := by
 rcases r with r | ⟨o, r⟩
 ·exact x a u r
 ·obtain ⟨_, q⟩ := x a _ r
  exact q
def Mut : Option HO -> Prop
 | some (.lst _) => True
 | some (.dK _) => True
 | some (.dT _) => True
 | some (.set _ _) => True
 | some (.ins _ _ _) => True
 | some (.ext _) => True
 | _ => False
section
variable {P : Program} {w : World} {H : Hp} {h h' : Heap} {x e : Addr} {o' : HO}
theorem HOk.write (ok : HOk P w H h) (mu : Mut (H x)) (he : e = x \/ H e = some (.own x)) (k : ∀ b u, b ≠ e -> h.get? b = some u -> h'.get? b = some u) (heo : ∃ u, h'.get? e = some u)
  (new : ObjOk P w (upd H x o') h' x o') : HOk P w (upd H x o') h' := fun b u q => by
 have nown : ∀ c y, H c = some (.own y) -> c ≠ x := fun c y r z => by subst z; rw [r] at mu; exact mu
 have ntup : ∀ c xs, H c = some (.tup xs) -> c ≠ x := fun c xs r z => by subst z; rw [r] at mu; exact mu
 by_cases hb : b = x
 ·subst hb; rw [Ac] at q; cases q; exact new
 ·rw [Af hb] at q
  by_cases hbe : b = e
  ·have q' : H b = some (.own x) := by
    rcases he with z | z
    ·exact absurd (hbe.trans z) hb
    ·rw [hbe]; exact z
   rw [q] at q'; cases q'
   obtain ⟨v, hv⟩ := heo
   exact ⟨v, by rw [hbe]; exact hv⟩
  ·refine (ok b u q).stay (fun c v hc r => k c v ?_ r) (fun c r => by rw [Af (nown c b r)]; exact r) fun c xs r => by rw [Af (ntup c xs r)]; exact r
   rcases hc with rfl | hc
   ·exact hbe
   ·rintro rfl
    rcases he with z | z
    ·exact nown c b hc z
    ·rw [hc] at z; cases z; exact hb rfl
end
structure Un (fs ex : List Addr) (H H' : Hp) (h h' : Heap) : Prop where
 keep : ∀ b o, h.get? b = some o -> H b = none -> b ∉ fs -> b ∉ ex -> h'.get? b = some o
 slot : ∀ b o, h.get? b = some o -> H b = none -> b ∈ fs -> b ∉ ex -> ∃ sl, h'.get? b = some { o with slots := sl }
 free : ∀ b o, h.get? b = some o -> H b = none -> b ∉ ex -> H' b = none
 there : ∀ b o, h.get? b = some o -> b ∉ ex -> ∃ o', h'.get? b = some o'
 tups : ∀ b xs, H b = some (.tup xs) -> H' b = some (.tup xs)
 frzs : ∀ b o u, H b = some (.frz o u) -> H' b = some (.frz o u)
 tbls : ∀ b ps, H b = some (.tbl ps) -> ∃ more, H' b = some (.tbl (ps ++ more))
section
variable {fs fs' ex ex' : List Addr} {H H1 H2 : Hp} {h h1 h2 h' : Heap} {a x e : Addr} {o : HO}
theorem Un.any (u : Un fs ex H H1 h h1) {b : Addr} {ob : Obj} (q : h.get? b = some ob) (n : H b = none) (hx : b ∉ ex) : ∃ sl, h1.get? b = some { ob with slots := sl } := by
 by_cases hb : b ∈ fs
 ·exact u.slot b ob q n hb hx
 ·exact ⟨ob.slots, u.keep b ob q n hb hx⟩
theorem Un.kept (k : ∀ b u, h.get? b = some u -> h'.get? b = some u) : Un fs ex H H h h' :=
 ⟨fun b ob q _ _ _ => k b ob q, fun b ob q _ _ _ => ⟨ob.slots, k b ob q⟩, fun _ _ _ n _ => n, fun b ob q _ => ⟨ob, k b ob q⟩, fun _ _ q => q, fun _ _ _ q => q, fun _ ps q => ⟨#[], by rw [q]; simp⟩⟩
theorem Un.refl : Un fs ex H H h h := Un.kept fun _ _ q => q
theorem Un.laid (k : ∀ b u, h.get? b = some u -> h'.get? b = some u) (hp : h.objs.size <= a) (hn : H a = none) : Un fs ex H (upd H a o) h h' where
 keep := fun b u q _ _ _ => k b u q
 slot := fun b u q _ _ _ => ⟨u.slots, k b u q⟩
 free := fun b u q n _ => by rw [Af (Nat.ne_of_lt (Nat.lt_of_lt_of_le (Heap.lt_size q) hp))]; exact n
 there := fun b u q _ => ⟨u, k b u q⟩
 tups := fun b xs q => by rw [Af (Ae q hn)]; exact q
 frzs := fun b u xs q => by rw [Af (Ae q hn)]; exact q
 tbls := fun b ps q => ⟨#[], by rw [Af (Ae q hn), q]; simp⟩
theorem Un.write (mu : Mut (H x)) (he : e = x \/ H e = some (.own x)) (k : ∀ b u, b ≠ e -> h.get? b = some u -> h'.get? b = some u) (heo : ∃ u, h'.get? e = some u) : Un fs ex H (upd H x o) h h' := by
 have hx : ∀ b, H b = none -> b ≠ x := fun b n z => by subst z; rw [n] at mu; exact mu
 have hb : ∀ b, H b = none -> b ≠ e := fun b n z => by
  subst z
  rcases he with r | r
  ·exact hx b n r
  ·rw [n] at r; cases r
 have hm : ∀ b u, H b = some u -> ¬ Mut (some u) -> b ≠ x := fun b u q nm z => by subst z; rw [q] at mu; exact nm mu
 refine ⟨fun b u q n _ _ => k b u (hb b n) q, fun b u q n _ _ => ⟨u.slots, k b u (hb b n) q⟩, fun b u q n _ => by rw [Af (hx b n)]; exact n, fun b u q _ => ?_,
  fun b xs q => by rw [Af (hm b _ q fun z => z)]; exact q, fun b u xs q => by rw [Af (hm b _ q fun z => z)]; exact q, fun b ps q => ⟨#[], by rw [Af (hm b _ q fun z => z), q]; simp⟩⟩
 by_cases hbe : b = e
 ·subst hbe; exact heo
 ·exact ⟨u, k b u hbe q⟩
end
def trk (h : Heap) (H : Hp) : List Addr := (List.range h.objs.size).filter fun a => (H a).isSome
def hidT (h : Heap) (H : Hp) : Heap := PySem.W.hideAll h (trk h H)
theorem Rh (h : Heap) (H : Hp) : (hidT h H).objs.size = h.objs.size := PySem.W.hideAll_size _ _
theorem Ud {h : Heap} {H : Hp} {b : Addr} {o : Obj} (e : h.get? b = some o) (n : H b = none) : (hidT h H).get? b = some o :=
 PySem.W.hideAll_get _ e fun hm => by
  have q : (H b).isSome = true := (List.mem_filter.mp hm).2
  rw [n] at q; simp at q
theorem Xn {h : Heap} {H : Hp} {b : Addr} {o : Obj} (e : (hidT h H).get? b = some o) : h.get? b = some o /\ H b = none := by
 have e' : h.get? b = some o := PySem.W.of_hideAll (trk h H) e
 refine ⟨e', ?_⟩
 cases q : H b with
 | none => rfl
 | some x =>
  have hm : b ∈ trk h H := List.mem_filter.mpr ⟨List.mem_range.mpr (Heap.lt_size e'), by simp [q]⟩
  have z : (hidT h H).get? b = none := PySem.W.hideAll_none (trk h H) hm
  rw [z] at e; cases e
structure Mod (K : PySem.W.Frag) (mg : Str -> Option Value) (base : Heap) : Prop where
 kin : K.In base
 glob : base.Ns mainGlobals mg
 blt : ∃ mb, base.Ns builtinsNs mb /\ ∀ x : Str, x ≠ "__name__" -> mb x = bootBuiltins x
 nolimit : base.NoLimit
structure Cx where
 prog : Program
 w : World
 K : PySem.W.Frag
 mg : Str -> Option Value
 base : Heap
 A : Around
 N : List Str
 s₀ : Shared
 H₀ : Hp
 env : Env
 outer : List Env
 stack : List Env
 ex : List Addr
 fn : Str -> Bool
 calm : Bool
 pn : List (Addr × Obj)
 xe : Value -> Shared -> Prop
def frs (l : List Env) : List Addr := l.filterMap (·.frame)
abbrev Cx.fs (X : Cx) : List Addr := frs X.outer
def Vis (sc : Scope) (x : Str) : Prop := sc.names.lookup x = some .local \/ sc.names.lookup x = some .cell \/ sc.names.lookup x = some .free
def Loc (sc : Scope) (x : Str) : Prop := sc.names.lookup x = some .local \/ sc.names.lookup x = some .cell
def Look (env : Env) (h : Heap) (m : Str -> Option Value) (x : Str) (u : Value) : Prop :=
 (env.kindOf x = some .local /\ m x = some u) \/ ((env.kindOf x = some .cell \/ env.kindOf x = some .free) /\ ∃ c, env.cells.lookup x = some c /\ h.IsCell c (some u))
structure Cx.Ok (X : Cx) : Prop where
 mod : Mod X.K X.mg X.base
 kind : X.env.scope.kind = .function
 glob : X.env.globals = mainGlobals
 blt : X.env.builtins = builtinsNs
 above : X.s₀.heap.objs.size <= X.env.locals
 inj : ∀ x y c, X.env.cells.lookup x = some c -> X.env.cells.lookup y = some c -> x = y
 has : ∀ x, (X.env.kindOf x = some .cell \/ X.env.kindOf x = some .free) -> ∃ c, X.env.cells.lookup x = some c
 cab : ∀ x c, X.fn x = true -> X.env.cells.lookup x = some c -> X.s₀.heap.objs.size <= c
 hd : X.calm = true -> X.A.handled = none
 frames : X.A.frames = some X.stack
 stk : X.stack = X.outer \/ (X.stack = X.env :: X.outer /\ X.env.frame = some X.env.locals)
 exf : ∀ b ∈ X.ex, b ≠ X.env.locals /\ ∀ x c, X.env.cells.lookup x = some c -> c ≠ b
 bs : ∀ b o, X.base.get? b = some o -> X.s₀.heap.get? b = some o /\ X.H₀ b = none
 bsz : X.base.objs.size <= X.s₀.heap.objs.size
 noex : ∀ b o, X.base.get? b = some o -> b ∉ X.ex
 exfs : ∀ b ∈ X.ex, b ∉ X.fs
 funs : X.s₀.heap.FunFrames X.base X.outer
 frf : ∀ b ∈ X.fs, X.H₀ b = none
structure Inv (X : Cx) (pins : List (Addr × Obj)) (σ : List (Option V)) (H : Hp) (s : Shared) : Prop where
 ok : X.Ok
 os : s.os = X.s₀.os
 bare : AllBare s.gens
 base : Un X.fs X.ex X.H₀ H X.s₀.heap s.heap
 loc : ∃ m, s.heap.Ns X.env.locals m /\ ∀ (i : Nat) (x : Str) (v : V), X.N[i]? = some x -> σ[i]? = some (some v) -> Vis X.env.scope x -> ∃ u, RelV v u /\ Look X.env s.heap m x u
 cell : ∀ x c, X.env.cells.lookup x = some c -> ∃ v, s.heap.IsCell c v
 free : H X.env.locals = none
 freeC : ∀ x c, X.env.cells.lookup x = some c -> H c = none
 pin : ∀ p ∈ X.pn ++ pins, s.heap.get? p.1 = some p.2 /\ H p.1 = none /\ p.1 ≠ X.env.locals /\ p.1 ∉ X.fs /\ ∀ v, p.2.data ≠ .cell v
 hok : HOk X.prog X.w H s.heap
 len : σ.length = X.N.length
section
variable {X : Cx} {pins : List (Addr × Obj)} {σ : List (Option V)} {H H' : Hp} {s : Shared} {h' : Heap}
theorem Cx.Ok.nofr (ok : X.Ok) {b : Addr} {o : Obj} (e : X.base.get? b = some o) : b ∉ X.fs := fun hb => by
 have := (ok.funs.mem hb).1
 rw [e] at this; cases this
theorem Inv.bs (I : Inv X pins σ H s) : ∀ b o, X.base.get? b = some o -> s.heap.get? b = some o /\ H b = none := fun b o e =>
 ⟨I.base.keep b o (I.ok.bs b o e).1 (I.ok.bs b o e).2 (I.ok.nofr e) (I.ok.noex b o e), I.base.free b o (I.ok.bs b o e).1 (I.ok.bs b o e).2 (I.ok.noex b o e)⟩
theorem Inv.bk (I : Inv X pins σ H s) : ∀ b o, X.base.get? b = some o -> s.heap.get? b = some o := fun b o e => (I.bs b o e).1
theorem Inv.mod (I : Inv X pins σ H s) : Mod X.K X.mg X.base := I.ok.mod
theorem Inv.kIn (I : Inv X pins σ H s) : X.K.In s.heap := I.ok.mod.kin.keeps I.bk
theorem Inv.lt (I : Inv X pins σ H s) : X.env.locals < s.heap.objs.size := let ⟨_, hn, _⟩ := I.loc; hn.lt
theorem Inv.sz (I : Inv X pins σ H s) : X.s₀.heap.objs.size <= s.heap.objs.size := Nat.le_trans I.ok.above (Nat.le_of_lt I.lt)
theorem Inv.nofs (I : Inv X pins σ H s) {a : Addr} (h : s.heap.objs.size <= a) : a ∉ X.fs := fun hb => by
 obtain ⟨_, o, ho, _⟩ := I.ok.funs.mem hb
 exact absurd (Nat.lt_of_lt_of_le (Heap.lt_size ho) (Nat.le_trans I.sz h)) (Nat.lt_irrefl _)
theorem Inv.cne (I : Inv X pins σ H s) : ∀ x c, X.env.cells.lookup x = some c -> c ≠ X.env.locals := fun x c e z => by
 obtain ⟨v, o, ho, hd⟩ := I.cell x c e
 obtain ⟨m, ⟨o', es, ep, ho', hd', _⟩, _⟩ := I.loc
 rw [z, ho'] at ho; cases ho; rw [hd'] at hd; cases hd
theorem Inv.funs (I : Inv X pins σ H s) : s.heap.FunFrames X.base X.outer := by
 have all : ∀ (l : List Env), (∀ b ∈ frs l, b ∈ X.fs) -> X.s₀.heap.FunFrames X.base l -> s.heap.FunFrames X.base l := by
  intro l
  induction l with
  | nil => intro _ _; trivial
  | cons env r ih =>
   intro hs hl
   obtain ⟨hk, ⟨L, o, hf, hn, ho, hd⟩, hr⟩ := hl
   have hL : L ∈ X.fs := hs L (by unfold frs; rw [List.filterMap_cons, hf]; exact List.mem_cons_self)
   obtain ⟨sl, e⟩ := I.base.slot L o ho (I.ok.frf L hL) hL fun z => I.ok.exfs L z hL
   exact ⟨hk, ⟨L, _, hf, hn, e, hd⟩, ih (fun b hb => hs b (by unfold frs; rw [List.filterMap_cons, hf]; exact List.mem_cons_of_mem _ hb)) hr⟩
 exact all X.outer (fun _ hb => hb) I.ok.funs
theorem Inv.stack (I : Inv X pins σ H s) : s.heap.FunFrames X.base X.stack := by
 rcases I.ok.stk with e | ⟨e, hf⟩
 ·rw [e]; exact I.funs
 ·rw [e]
  obtain ⟨m, hn, _⟩ := I.loc
  refine .cons (by rw [I.ok.kind]; decide) hf hn ?_ I.funs
  exact Heap.get?_none_of_le (Nat.le_trans I.ok.bsz I.ok.above)
theorem Inv.stkSub (I : Inv X pins σ H s) : ∀ b ∈ frs X.stack, b ∈ X.env.locals :: X.fs := fun b hb => by
 rcases I.ok.stk with e | ⟨e, hf⟩
 ·rw [e] at hb; exact List.mem_cons_of_mem _ hb
 ·rw [e] at hb
  unfold frs at hb
  rw [List.filterMap_cons, hf] at hb
  exact hb
theorem Inv.stkFree (I : Inv X pins σ H s) : ∀ b ∈ frs X.stack, H b = none := fun b hb => by
 rcases List.mem_cons.mp (I.stkSub b hb) with e | hb
 ·rw [e]; exact I.free
 ·obtain ⟨_, o, ho, _⟩ := I.ok.funs.mem hb
  exact I.base.free b o ho (I.ok.frf b hb) fun z => I.ok.exfs b z hb
theorem Inv.step {g' : Array GenState} {t' : Nat} {d' : Drawn} {ch : List Addr} (I : Inv X pins σ H s)
  (hch : ∀ b ∈ ch, (b ∈ X.ex \/ X.s₀.heap.objs.size <= b) /\ b ≠ X.env.locals /\ (∀ x c, X.env.cells.lookup x = some c -> c ≠ b) /\ ∀ p ∈ X.pn ++ pins, p.1 ≠ b)
  (keep : ∀ b o, b ≠ X.env.locals -> b ∉ X.fs -> b ∉ ch -> s.heap.get? b = some o -> H b = none -> h'.get? b = some o)
  (slot : ∀ b o, b ≠ X.env.locals -> b ∈ X.fs -> b ∉ ch -> s.heap.get? b = some o -> H b = none -> ∃ sl, h'.get? b = some { o with slots := sl }) (free : ∀ b o, b ∉ ch -> s.heap.get? b = some o -> H b = none -> H' b = none)
  (there : ∀ b o, b ∉ ch -> s.heap.get? b = some o -> ∃ o', h'.get? b = some o')
  (tups : ∀ b xs, H b = some (.tup xs) -> H' b = some (.tup xs)) (frzs : ∀ b o u, H b = some (.frz o u) -> H' b = some (.frz o u)) (tbls : ∀ b ps, H b = some (.tbl ps) -> ∃ more, H' b = some (.tbl (ps ++ more)))
  (ns : ∀ m, s.heap.Ns X.env.locals m -> h'.Ns X.env.locals m) (hok : HOk X.prog X.w H' h') (hg : AllBare g') :
  Inv X pins σ H' { s with heap := h', gens := g', drawn := d', toks := t' } := by
 have neL : ∀ b o, X.s₀.heap.get? b = some o -> b ≠ X.env.locals := fun b o e => Nat.ne_of_lt (Nat.lt_of_lt_of_le (Heap.lt_size e) I.ok.above)
 have neC : ∀ b o, X.s₀.heap.get? b = some o -> b ∉ X.ex -> b ∉ ch := fun b o e hx hb => by
  rcases (hch b hb).1 with z | z
  ·exact hx z
  ·exact absurd (Nat.lt_of_lt_of_le (Heap.lt_size e) z) (Nat.lt_irrefl _)
 have cellK : ∀ x c, X.env.cells.lookup x = some c -> ∀ v, s.heap.IsCell c v -> h'.IsCell c v := fun x c e v ⟨o, ho, hd⟩ => by
  have nch : c ∉ ch := fun z => (hch c z).2.2.1 x c e rfl
  by_cases hc : c ∈ X.fs
  ·obtain ⟨sl, q⟩ := slot c o (I.cne x c e) hc nch ho (I.freeC x c e)
   exact ⟨_, q, hd⟩
  ·exact ⟨o, keep c o (I.cne x c e) hc nch ho (I.freeC x c e), hd⟩
 refine ⟨I.ok, I.os, hg, ⟨fun b o e n hb hx => ?_, fun b o e n hb hx => ?_, fun b o e n hx => ?_, fun b o e hx => ?_, fun b xs e => tups b xs (I.base.tups b xs e), fun b o xs e => frzs b o xs (I.base.frzs b o xs e), fun b ps e => ?_⟩, ?_, fun x c e => ?_, ?_, fun x c e => ?_, fun p hp => ?_, hok, I.len⟩
 ·exact keep b o (neL b o e) hb (neC b o e hx) (I.base.keep b o e n hb hx) (I.base.free b o e n hx)
 ·obtain ⟨sl, e1⟩ := I.base.slot b o e n hb hx
  obtain ⟨sl', e2⟩ := slot b _ (neL b o e) hb (neC b o e hx) e1 (I.base.free b o e n hx)
  exact ⟨sl', e2⟩
 ·obtain ⟨o', e1⟩ := I.base.there b o e hx
  exact free b o' (neC b o e hx) e1 (I.base.free b o e n hx)
 ·obtain ⟨o', e1⟩ := I.base.there b o e hx
  exact there b o' (neC b o e hx) e1
 ·obtain ⟨m1, e1⟩ := I.base.tbls b ps e
  obtain ⟨m2, e2⟩ := tbls b _ e1
  exact ⟨m1 ++ m2, by rw [e2, Array.append_assoc]⟩
 ·obtain ⟨m, hn, hl⟩ := I.loc
  refine ⟨m, ns m hn, fun i x v e1 e2 e3 => ?_⟩
  obtain ⟨u, r, l⟩ := hl i x v e1 e2 e3
  refine ⟨u, r, ?_⟩
  rcases l with l | ⟨k, c, e, z⟩
  ·exact .inl l
  ·exact .inr ⟨k, c, e, cellK x c e _ z⟩
 ·obtain ⟨v, z⟩ := I.cell x c e
  exact ⟨v, cellK x c e v z⟩
 ·obtain ⟨m, ⟨o, _, _, ho, _⟩, _⟩ := I.loc
  exact free _ o (fun z => (hch _ z).2.1 rfl) ho I.free
 ·obtain ⟨v, o, ho, hd⟩ := I.cell x c e
  exact free c o (fun z => (hch c z).2.2.1 x c e rfl) ho (I.freeC x c e)
 ·obtain ⟨e, n, ne, nf, d⟩ := I.pin p hp
  have nch : p.1 ∉ ch := fun z => (hch p.1 z).2.2.2 p hp rfl
  exact ⟨keep p.1 p.2 ne nf nch e n, free p.1 p.2 nch e n, ne, nf, d⟩
theorem Inv.un {t' : Nat} (I : Inv X pins σ H s) (u : Un X.fs [] H H' s.heap h') (hok : HOk X.prog X.w H' h') : Inv X pins σ H' { s with heap := h', toks := t' } := by
 obtain ⟨m, ⟨o, es, ep, ho, r⟩, _⟩ := id I.loc
 obtain ⟨sl, hL⟩ := u.any ho I.free (by simp)
 exact I.step (g' := s.gens) (d' := s.drawn) (ch := []) (fun _ z => nomatch z) (fun b o _ hb _ e n => u.keep b o e n hb (by simp)) (fun b o _ hb _ e n => u.slot b o e n hb (by simp)) (fun b o _ e n => u.free b o e n (by simp)) (fun b o _ e => u.there b o e (by simp)) u.tups u.frzs u.tbls (fun m' hm => by
  obtain ⟨o', es', ep', ho', r'⟩ := hm
  rw [ho] at ho'; cases ho'
  exact ⟨_, es', ep', hL, r'⟩) hok I.bare
theorem Inv.call {g' : Array GenState} {t' : Nat} {d' : Drawn} {ch : List Addr} (I : Inv X pins σ H s) (u : Un (frs X.stack) ch H H' s.heap h') (hok : HOk X.prog X.w H' h') (hg : AllBare g')
  (hch : ∀ b ∈ ch, (b ∈ X.ex \/ X.s₀.heap.objs.size <= b) /\ b ≠ X.env.locals /\ (∀ x c, X.env.cells.lookup x = some c -> c ≠ b) /\ ∀ p ∈ X.pn ++ pins, p.1 ≠ b) :
  Inv X pins σ H' { s with heap := h', gens := g', drawn := d', toks := t' } := by
 obtain ⟨m, ⟨o, es, ep, ho, r⟩, _⟩ := id I.loc
 obtain ⟨sl, hL⟩ := u.any ho I.free fun z => (hch _ z).2.1 rfl
 exact I.step (ch := ch) hch (fun b o hL hb hc e n => u.keep b o e n (fun z => (List.mem_cons.mp (I.stkSub b z)).elim hL hb) hc) (fun b o _ _ hc e n => u.any e n hc) (fun b o hc e n => u.free b o e n hc) (fun b o hc e => u.there b o e hc) u.tups u.frzs u.tbls (fun m' hm => by
  obtain ⟨o', es', ep', ho', r'⟩ := hm
  rw [ho] at ho'; cases ho'
  exact ⟨_, es', ep', hL, r'⟩) hok hg
theorem Inv.turned {t' : Nat} {it : Addr} (I : Inv X pins σ H s) (k : ∀ b o, b ≠ it -> s.heap.get? b = some o -> h'.get? b = some o) (hn : H it = none) (hL : it ≠ X.env.locals)
  (h1 : it ∈ X.ex \/ X.s₀.heap.objs.size <= it) (h2 : ∀ x c, X.env.cells.lookup x = some c -> c ≠ it) (h3 : ∀ p ∈ X.pn ++ pins, p.1 ≠ it) : Inv X pins σ H { s with heap := h', toks := t' } := by
 have nit : ∀ b u, H b = some u -> b ≠ it := fun b u e z => by rw [z, hn] at e; cases e
 refine I.step (g' := s.gens) (d' := s.drawn) (ch := [it]) (fun b hb => ?_) (fun b o _ _ hc e _ => k b o (fun z => hc (by simp [z])) e) (fun b o _ _ hc e _ => ⟨o.slots, k b o (fun z => hc (by simp [z])) e⟩) (fun _ _ _ _ n => n)
  (fun b o hc e => ⟨o, k b o (fun z => hc (by simp [z])) e⟩) (fun _ _ e => e) (fun _ _ _ e => e) (fun b ps e => ⟨#[], by rw [e]; simp⟩) (fun m hm => ?_) (fun b u e => ?_) I.bare
 ·have e : b = it := by simpa using hb
  subst e
  exact ⟨h1, hL, h2, h3⟩
 ·obtain ⟨o, es, ep, ho, r⟩ := hm
  exact ⟨o, es, ep, k _ o (Ne.symm hL) ho, r⟩
 ·refine (I.hok b u e).stay (fun c v hc q => k c v ?_ q) (fun _ q => q) fun _ _ q => q
  rcases hc with z | z
  ·rw [z]; exact nit b u e
  ·exact nit c _ z
theorem Inv.tok (I : Inv X pins σ H s) (t : Nat) : Inv X pins σ H { s with toks := t } := I.un (h' := s.heap) (t' := t) Un.refl I.hok
theorem Inv.kept {t' : Nat} (I : Inv X pins σ H s) (k : ∀ b u, s.heap.get? b = some u -> h'.get? b = some u) : Inv X pins σ H { s with heap := h', toks := t' } := I.un (Un.kept k) (I.hok.kept k)
theorem Inv.laid {a : Addr} {o : HO} {t' : Nat} (I : Inv X pins σ H s) (k : ∀ b u, s.heap.get? b = some u -> h'.get? b = some u) (hp : s.heap.objs.size <= a) (new : ObjOk X.prog X.w (upd H a o) h' a o) :
  Inv X pins σ (upd H a o) { s with heap := h', toks := t' } := I.un (Un.laid k hp (I.hok.fresh hp)) (I.hok.laid k hp new)
theorem Inv.write {x e : Addr} {o : HO} {t' : Nat} (I : Inv X pins σ H s) (mu : Mut (H x)) (he : e = x \/ H e = some (.own x)) (k : ∀ b u, b ≠ e -> s.heap.get? b = some u -> h'.get? b = some u) (heo : ∃ u, h'.get? e = some u)
  (new : ObjOk X.prog X.w (upd H x o) h' x o) : Inv X pins σ (upd H x o) { s with heap := h', toks := t' } := I.un (Un.write mu he k heo) (I.hok.write mu he k heo new)
theorem Inv.pins_of {pins' : List (Addr × Obj)} (I : Inv X pins σ H s) (h : ∀ p ∈ pins', s.heap.get? p.1 = some p.2 /\ H p.1 = none /\ p.1 ≠ X.env.locals /\ p.1 ∉ X.fs /\ ∀ v, p.2.data ≠ .cell v) : Inv X pins' σ H s :=
 ⟨I.ok, I.os, I.bare, I.base, I.loc, I.cell, I.free, I.freeC, fun p hp => (List.mem_append.mp hp).elim (fun z => I.pin p (List.mem_append_left _ z)) (h p), I.hok, I.len⟩
theorem Hv {N : List Str} (hN : N.Nodup) {i j : Nat} {x : Str} (a : N[i]? = some x) (b : N[j]? = some x) : i = j := by
 obtain ⟨h1, e1⟩ := List.getElem?_eq_some_iff.mp a
 obtain ⟨h2, e2⟩ := List.getElem?_eq_some_iff.mp b
 exact (List.getElem_inj hN).mp (e1.trans e2.symm)
theorem Sm {M : Model} {A : Around} {E : Value -> Shared -> Prop} {i : Nat} {x : Str} {v : V} {u : Value} {Q : Unit -> Shared -> Prop} (I : Inv X pins σ H s) (hN : X.N.Nodup) (hi : X.N[i]? = some x) (hx : Loc X.env.scope x) (r : RelV v u)
  (h : ∀ s', Inv X pins (σ.set i (some v)) H s' -> (∃ a, Heap.SameBut a s.heap s'.heap /\ (a = X.env.locals \/ X.env.cells.lookup x = some a)) -> Q () s') (hf : X.fn x = true \/ X.env.scope.names.lookup x = some .local := by first | exact .inl rfl | exact .inr rfl | assumption) : wpAny M A (storeName X.env x u) Q E s := by
 obtain ⟨m, hn, hl⟩ := id I.loc
 have hcls : (X.env.scope.kind == .class || (X.env.scope.kind == .module && X.env.locals != X.env.globals)) = false := by rw [I.ok.kind]; rfl
 have hiσ : i < σ.length := by rw [I.len]; exact (List.getElem?_eq_some_iff.mp hi).1
 have cne := I.cne
 have tracked : ∀ {a : Addr} {h' : Heap}, (∃ o, s.heap.get? a = some o /\ H a = none) -> Heap.SameBut a s.heap h' -> HOk X.prog X.w H h' := fun {a h'} ha hs b ob e => by
  obtain ⟨_, _, hfree⟩ := ha
  refine (I.hok b ob e).stay (fun c w' hc q => (hs.2 c ?_).trans q) (fun _ q => q) fun _ _ q => q
  rintro rfl
  rcases hc with rfl | hc
  ·rw [hfree] at e; cases e
  ·rw [hfree] at hc; cases hc
 rcases hx with hk | hk
 ·refine wpAny_storeName_local hk hn (fun h' hn' hs => ?_) hcls
  obtain ⟨oL, _, _, hoL, _⟩ := id hn
  refine h _ ⟨I.ok, I.os, I.bare, ⟨fun b o e n hb hx => ?_, fun b o e n hb hx => ?_, I.base.free, fun b o e hx => ?_, I.base.tups, I.base.frzs, I.base.tbls⟩, ⟨_, hn', fun j y v' e1 e2 e3 => ?_⟩, fun y c e => ?_, I.free, I.freeC, fun p hp => ?_, tracked ⟨oL, hoL, I.free⟩ hs, by simpa using I.len⟩ ⟨_, hs, .inl rfl⟩
  ·exact (hs.2 b (Nat.ne_of_lt (Nat.lt_of_lt_of_le (Heap.lt_size e) I.ok.above))).trans (I.base.keep b o e n hb hx)
  ·obtain ⟨sl, e1⟩ := I.base.slot b o e n hb hx
   exact ⟨sl, (hs.2 b (Nat.ne_of_lt (Nat.lt_of_lt_of_le (Heap.lt_size e) I.ok.above))).trans e1⟩
  ·obtain ⟨o', e1⟩ := I.base.there b o e hx
   exact ⟨o', (hs.2 b (Nat.ne_of_lt (Nat.lt_of_lt_of_le (Heap.lt_size e) I.ok.above))).trans e1⟩
  ·by_cases hj : j = i
   ·subst hj
    rw [hi] at e1; cases e1
    rw [List.getElem?_set_self hiσ] at e2
    cases e2
    exact ⟨u, r, .inl ⟨hk, by simp⟩⟩
   ·rw [List.getElem?_set_ne (Ne.symm hj)] at e2
    obtain ⟨u', r', q⟩ := hl j y v' e1 e2 e3
    refine ⟨u', r', ?_⟩
    rcases q with ⟨k, e⟩ | ⟨k, c, e, z⟩
    ·refine .inl ⟨k, ?_⟩
     have : y ≠ x := fun e => hj (Hv hN e1 (e ▸ hi))
     simp [this, e]
    ·exact .inr ⟨k, c, e, z.sameBut hs (cne y c e)⟩
  ·obtain ⟨w', z⟩ := I.cell y c e
   exact ⟨w', z.sameBut hs (cne y c e)⟩
  ·obtain ⟨e, n, ne, nf, d⟩ := I.pin p hp
   exact ⟨(hs.2 p.1 ne).trans e, n, ne, nf, d⟩
 ·have hfn : X.fn x = true := by
   rcases hf with z | z
   ·exact z
   ·rw [z] at hk; cases hk
  obtain ⟨c, hc⟩ := I.ok.has x (.inl hk)
  obtain ⟨w', z⟩ := I.cell x c hc
  refine wpAny_storeName_cell I.ok.kind hk hc z (fun h' hc' hs => ?_)
  obtain ⟨oc, hoc, hocd⟩ := id z
  refine h { s with heap := h' } ⟨I.ok, I.os, I.bare, ⟨fun b o e n hb hx => ?_, fun b o e n hb hx => ?_, I.base.free, fun b o e hx => ?_, I.base.tups, I.base.frzs, I.base.tbls⟩, ⟨m, hn.sameBut hs (Ne.symm (cne x c hc)), fun j y v' e1 e2 e3 => ?_⟩, fun y c' e => ?_, I.free, I.freeC, fun p hp => ?_, tracked ⟨oc, hoc, I.freeC x c hc⟩ hs, by simpa using I.len⟩ ⟨c, hs, .inr hc⟩
  ·exact (hs.2 b (Nat.ne_of_lt (Nat.lt_of_lt_of_le (Heap.lt_size e) (I.ok.cab x c hfn hc)))).trans (I.base.keep b o e n hb hx)
  ·obtain ⟨sl, e1⟩ := I.base.slot b o e n hb hx
   exact ⟨sl, (hs.2 b (Nat.ne_of_lt (Nat.lt_of_lt_of_le (Heap.lt_size e) (I.ok.cab x c hfn hc)))).trans e1⟩
  ·obtain ⟨o', e1⟩ := I.base.there b o e hx
   exact ⟨o', (hs.2 b (Nat.ne_of_lt (Nat.lt_of_lt_of_le (Heap.lt_size e) (I.ok.cab x c hfn hc)))).trans e1⟩
  ·by_cases hj : j = i
   ·subst hj
    rw [hi] at e1; cases e1
    rw [List.getElem?_set_self hiσ] at e2
    cases e2
    exact ⟨u, r, .inr ⟨.inl hk, c, hc, hc'⟩⟩
   ·rw [List.getElem?_set_ne (Ne.symm hj)] at e2
    obtain ⟨u', r', q⟩ := hl j y v' e1 e2 e3
    refine ⟨u', r', ?_⟩
    rcases q with q | ⟨k, c', e, z'⟩
    ·exact .inl q
    ·refine .inr ⟨k, c', e, z'.sameBut hs ?_⟩
     rintro rfl
     exact hj (Hv hN e1 (I.ok.inj _ _ _ e hc ▸ hi))
  ·by_cases hcc : c' = c
   ·subst hcc; exact ⟨_, hc'⟩
   ·obtain ⟨w2, z2⟩ := I.cell y c' e
    exact ⟨w2, z2.sameBut hs hcc⟩
  ·obtain ⟨e, n, ne, nf, d⟩ := I.pin p hp
   refine ⟨(hs.2 p.1 ?_).trans e, n, ne, nf, d⟩
   intro q
   rw [q, hoc] at e
   have q' : oc = p.2 := Option.some.inj e
   exact d w' (by rw [<- q']; exact hocd)
theorem Fk {M : Model} {A : Around} {E : Value -> Shared -> Prop} {i : Nat} {x : Str} {v : V} {u : Value} {Q : Unit -> Shared -> Prop} (I : Inv X pins σ H s) (hN : X.N.Nodup) (hi : X.N[i]? = some x) (hx : Loc X.env.scope x) (r : RelV v u)
  (h : ∀ s', Inv X pins (σ.set i (some v)) H s' -> Q () s') (hf : X.fn x = true \/ X.env.scope.names.lookup x = some .local := by first | exact .inl rfl | exact .inr rfl | assumption) : wpAny M A (storeName X.env x u) Q E s :=
 Sm I hN hi hx r (fun s' I' _ => h s' I') hf
theorem Inv.call' {s' : Shared} {ch : List Addr} (I : Inv X pins σ H s) (ho : s'.os = s.os) (u : Un (frs X.stack) ch H H' s.heap s'.heap) (hok : HOk X.prog X.w H' s'.heap) (hg : AllBare s'.gens)
  (hch : ∀ b ∈ ch, (b ∈ X.ex \/ X.s₀.heap.objs.size <= b) /\ b ≠ X.env.locals /\ (∀ x c, X.env.cells.lookup x = some c -> c ≠ b) /\ ∀ p ∈ X.pn ++ pins, p.1 ≠ b) : Inv X pins σ H' s' := by
 obtain ⟨h', g', d', t', o'⟩ := s'
 have e : o' = s.os := ho
 subst e
 exact I.call (g' := g') (t' := t') (d' := d') u hok hg hch
end
abbrev XK := Value -> Option Addr -> Hp -> Prop
abbrev St := List (Option V)
abbrev VK := V -> Hp -> Prop
abbrev TE := St -> Hp -> VK -> Prop
abbrev TT := St -> Hp -> (Bool -> Hp -> Prop) -> Prop
abbrev TA := St -> Hp -> (List V -> Hp -> Prop) -> Prop
structure Ends where
 nx : St -> Hp -> Prop
 rt : VK
 bk : St -> Hp -> Prop := fun _ _ => False
 ct : St -> Hp -> Prop := fun _ _ => False
abbrev TS := Ends -> St -> Hp -> Prop
def EP (X : Cx) (pins : List (Addr × Obj)) (σ : St) (Q : VK) (u : Value) (s' : Shared) : Prop := ∃ v H', Inv X pins σ H' s' /\ RelV v u /\ Q v H'
def TP (X : Cx) (pins : List (Addr × Obj)) (σ : St) (Q : Bool -> Hp -> Prop) (b : Bool) (s' : Shared) : Prop := ∃ H', Inv X pins σ H' s' /\ Q b H'
def AP (X : Cx) (pins : List (Addr × Obj)) (σ : St) (Q : List V -> Hp -> Prop) (us : List Value) (s' : Shared) : Prop := ∃ vs H', Inv X pins σ H' s' /\ Vals vs us /\ Q vs H'
def SP (X : Cx) (pins : List (Addr × Obj)) (D : Ends) (f : Flow) (s' : Shared) : Prop :=
 match f with
 | .next => ∃ σ' H', Inv X pins σ' H' s' /\ D.nx σ' H'
 | .brk => ∃ σ' H', Inv X pins σ' H' s' /\ D.bk σ' H'
 | .cont => ∃ σ' H', Inv X pins σ' H' s' /\ D.ct σ' H'
 | .ret u => ∃ v σ' H', Inv X pins σ' H' s' /\ RelV v u /\ D.rt v H'
def PE (X : Cx) (e : Expr) (t : TE) : Prop :=
 ∀ (pins : List (Addr × Obj)) (s : Shared) (σ : St) (H : Hp) (Q : VK), Inv X pins σ H s -> t σ H Q -> wpAny (model X.prog X.w) X.A (eval e X.env) (EP X pins σ Q) X.xe s
def PT (X : Cx) (e : Expr) (t : TT) : Prop :=
 ∀ (pins : List (Addr × Obj)) (s : Shared) (σ : St) (H : Hp) (Q : Bool -> Hp -> Prop), Inv X pins σ H s -> t σ H Q -> wpAny (model X.prog X.w) X.A (isTrue e X.env (eval e X.env)) (TP X pins σ Q) X.xe s
def PW (X : Cx) (e : Expr) (t : TT) : Prop :=
 ∀ (whole : Sem Value) (pins : List (Addr × Obj)) (s : Shared) (σ : St) (H : Hp) (Q : Bool -> Hp -> Prop), Inv X pins σ H s -> t σ H Q -> wpAny (model X.prog X.w) X.A (isTrue e X.env whole) (TP X pins σ Q) X.xe s
theorem PW.pt {X : Cx} {e : Expr} {t : TT} (h : PW X e t) : PT X e t := h _
def PA (X : Cx) (es : List Expr) (t : TA) : Prop :=
 ∀ (pos : Pos) (pins : List (Addr × Obj)) (s : Shared) (σ : St) (H : Hp) (Q : List V -> Hp -> Prop), Inv X pins σ H s -> t σ H Q -> wpAny (model X.prog X.w) X.A (spliced (backTo pos (starEach es X.env))) (AP X pins σ Q) X.xe s
def PS (X : Cx) (st : Stmt) (t : TS) : Prop :=
 ∀ (pins : List (Addr × Obj)) (s : Shared) (σ : St) (H : Hp) (D : Ends), Inv X pins σ H s -> t D σ H -> wpAny (model X.prog X.w) X.A (exec st X.env) (SP X pins D) X.xe s
def PSs (X : Cx) (st : List Stmt) (t : TS) : Prop :=
 ∀ (pins : List (Addr × Obj)) (s : Shared) (σ : St) (H : Hp) (D : Ends), Inv X pins σ H s -> t D σ H -> wpAny (model X.prog X.w) X.A (execs st X.env) (SP X pins D) X.xe s
theorem thn {α : Type} {t : Sem α} {Q Q' : α -> Shared -> Prop} {M : Model} {A : Around} {E : Value -> Shared -> Prop} {s : Shared} (h : wpAny M A t Q E s) (hQ : ∀ a s, Q a s -> Q' a s) : wpAny M A t Q' E s := wpAny_mono h hQ fun _ _ x => x
section
variable {X : Cx}
def tVar (i : Nat) : TE := fun σ H Q => ∃ v, σ[i]? = some (some v) /\ Q v H
def tC (v : V) : TE := fun _ H Q => Q v H
theorem ad5 {i : Nat} {x : Str} {pos : Pos} (hN : X.N[i]? = some x) (hv : Vis X.env.scope x) (hd : (x == ("__debug__" : Str)) = false := by decide) (hcd : (x == ("__classdict__" : Str)) = false := by decide) : PE X (.Name x pos) (tVar i) := by
 intro pins s σ H Q I h
 obtain ⟨v, e, h⟩ := h
 obtain ⟨m, hn, hl⟩ := I.loc
 obtain ⟨u, r, l⟩ := hl i x v hN e hv
 have fin : EP X pins σ Q u s := ⟨v, H, I, r, h⟩
 rcases l with ⟨hk, hm⟩ | ⟨hk, c, hc, hcell⟩
 ·exact wpAny_Name (wpAny_loadName_local I.ok.kind hk hn hm fin) hd
 ·rcases hk with hk | hk
  ·exact wpAny_Name (wpAny_loadName_cell I.ok.kind hk hc hcell fin) hd
  ·exact wpAny_Name (wpAny_loadName_free I.ok.kind hk hc hcell fin hcd) hd
theorem ac9 {i j pos} : PE X (.Constant (.int i) j pos) (tC (.int i)) := fun _ _ _ H _ I h => wpAny_Constant_int ⟨.int i, H, I.tok _, ⟨_, rfl⟩, h⟩
theorem ap1 {b j pos} : PE X (.Constant (.bool b) j pos) (tC (.bl b)) := fun _ _ _ H _ I h => Constant_bool ⟨.bl b, H, I, rfl, h⟩
theorem ad1 {j pos} : PE X (.Constant .none j pos) (tC .non) := fun _ _ _ H _ I h => Constant_none ⟨.non, H, I, rfl, h⟩
theorem ad3 {x j pos} : PE X (.Constant (.str x) j pos) (tC (.str x)) := fun _ _ _ H _ I h => Calls.Constant_str ⟨.str x, H, I.tok _, ⟨_, rfl⟩, h⟩
def Gl (X : Cx) (x : Str) : Prop := X.env.kindOf x = some .globalImplicit
theorem Cy {E : Value -> Shared -> Prop} {pins : List (Addr × Obj)} {s : Shared} {σ : St} {H : Hp} {x : Str} {u : Value} {pos : Pos} {Q : Value -> Shared -> Prop} (I : Inv X pins σ H s) (hg : Gl X x) (hm : X.mg x = some u) (h : Q u s)
  (hd : (x == ("__debug__" : Str)) = false := by decide) : wpAny (model X.prog X.w) X.A (eval (.Name x pos) X.env) Q E s :=
 Calls.Name_function_global I.ok.kind hg (Calls.loadGlobal_global (by rw [I.ok.glob]; exact I.mod.glob.keeps I.bk) hm h) hd
theorem Ev {E : Value -> Shared -> Prop} {pins : List (Addr × Obj)} {s : Shared} {σ : St} {H : Hp} {x : Str} {u : Value} {pos : Pos} {Q : Value -> Shared -> Prop} (I : Inv X pins σ H s) (hg : Gl X x) (hm : X.mg x = none) (hv : bootBuiltins x = some u) (h : Q u s)
  (hn : x ≠ "__name__" := by decide) (hd : (x == ("__debug__" : Str)) = false := by decide) : wpAny (model X.prog X.w) X.A (eval (.Name x pos) X.env) Q E s := by
 obtain ⟨mb, h1, h2⟩ := I.mod.blt
 exact Calls.Name_function_global I.ok.kind hg (Calls.loadGlobal_builtin (by rw [I.ok.glob]; exact I.mod.glob.keeps I.bk) hm (by rw [I.ok.blt]; exact h1.keeps I.bk) ((h2 x hn).trans hv) h) hd
theorem Lk {x : Str} {v : V} {u : Value} {pos : Pos} (hg : Gl X x) (hm : X.mg x = some u) (r : RelV v u) (hd : (x == ("__debug__" : Str)) = false := by decide) : PE X (.Name x pos) (tC v) :=
 fun _ _ _ H _ I h => Cy I hg hm ⟨v, H, I, r, h⟩ hd
theorem Xt {x : Str} {v : V} {u : Value} {pos : Pos} (hg : Gl X x) (hm : X.mg x = none) (hv : bootBuiltins x = some u) (r : RelV v u) (hn : x ≠ "__name__" := by decide) (hd : (x == ("__debug__" : Str)) = false := by decide) : PE X (.Name x pos) (tC v) :=
 fun _ _ _ H _ I h => Ev I hg hm hv ⟨v, H, I, r, h⟩ hn hd
variable {a b : Expr} {ta tb : TE} {pos : Pos}
variable {tA tB' : TT} {rest : List Expr}
def tAnd (t u : TT) : TT := fun σ H Q => t σ H fun c H1 => if c = true then u σ H1 Q else Q false H1
def tOr (t u : TT) : TT := fun σ H Q => t σ H fun c H1 => if c = true then Q true H1 else u σ H1 Q
def tNot (t : TT) : TT := fun σ H Q => t σ H fun c H1 => Q (!c) H1
theorem X9 (ha : PT X a tA) : PW X (.BoolOp .And [a] pos) tA := by
 intro wh pins s σ H Q I h
 refine isTrue_and (thn (ha pins s σ H Q I h) fun c s1 e => ?_)
 cases c with
 | true => exact isTrue_and_nil e
 | false => exact e
theorem ae3 (ha : PT X a tA) : PW X (.BoolOp .Or [a] pos) tA := by
 intro wh pins s σ H Q I h
 refine isTrue_or (thn (ha pins s σ H Q I h) fun c s1 e => ?_)
 cases c with
 | false => exact isTrue_or_nil e
 | true => exact e
theorem ae2 (ha : PT X a tA) (hb : PW X (.BoolOp .And (b :: rest) pos) tB') : PW X (.BoolOp .And (a :: b :: rest) pos) (tAnd tA tB') := by
 intro wh pins s σ H Q I h
 refine isTrue_and (thn (ha pins s σ H _ I h) fun c s1 ⟨H1, I1, q1⟩ => ?_)
 cases c with
 | true => exact hb wh pins s1 σ H1 Q I1 q1
 | false => exact ⟨H1, I1, q1⟩
theorem ap7 (ha : PT X a tA) (hb : PW X (.BoolOp .Or (b :: rest) pos) tB') : PW X (.BoolOp .Or (a :: b :: rest) pos) (tOr tA tB') := by
 intro wh pins s σ H Q I h
 refine isTrue_or (thn (ha pins s σ H _ I h) fun c s1 ⟨H1, I1, q1⟩ => ?_)
 cases c with
 | true => exact ⟨H1, I1, q1⟩
 | false => exact hb wh pins s1 σ H1 Q I1 q1
theorem ae1 (ha : PT X a tA) : PT X (.UnaryOp .Not a pos) (tNot tA) := by
 intro pins s σ H Q I h
 exact isTrue_not (ha pins s σ H (fun c H1 => Q (!c) H1) I h)
theorem ad2 {op} {t : TE} (h : PE X a t) : PE X (.BoolOp op [a] pos) t := fun pins s σ H Q I hw => BoolOp_one (h pins s σ H Q I hw)
def tIf (t : TT) (ta tb : TE) : TE := fun σ H Q => t σ H fun c H1 => if c = true then ta σ H1 Q else tb σ H1 Q
theorem U2 {c : Expr} (hc : PT X c tA) (ha : PE X a ta) (hb : PE X b tb) : PE X (.IfExp c a b pos) (tIf tA ta tb) := by
 intro pins s σ H Q I h
 refine wpAny_IfExp (thn (hc pins s σ H _ I h) fun d s1 ⟨H1, I1, q1⟩ => ?_)
 cases d with
 | true => exact ha pins s1 σ H1 Q I1 q1
 | false => exact hb pins s1 σ H1 Q I1 q1
end
def SqL (K : PySem.W.Frag) (H : Hp) (a : Addr) (xs : List V) : Prop :=
 Rd H a (.lst xs) \/
  ∃ (o : Obj) (its : Array Value) (n : Nat), K.lookup a = some o /\ o.cls = .type "list" /\ o.dict = none /\ o.data = .seq its n /\ its.size <= sizeLine /\ Vals xs its.toList
def SqT (K : PySem.W.Frag) (H : Hp) (a : Addr) (xs : List V) : Prop :=
 Rd H a (.tup xs) \/
  ∃ (o : Obj) (its : Array Value) (n : Nat), K.lookup a = some o /\ o.cls = .type "tuple" /\ o.data = .seq its n /\ its.size <= sizeLine /\ Vals xs its.toList
def absV : Value -> Option V
 | .none => some .non
 | .bool b => some (.bl b)
 | .int i _ => some (.int i)
 | .str x _ => some (.str x)
 | .bytes b _ => some (.byt b)
 | .float b _ => some (.flt b)
 | .ref a => some (.ref a)
 | .type n => some (.ty n)
 | _ => none
theorem RelV.abs {x : V} {u : Value} (r : RelV x u) : absV u = some x := by
 cases x with
 | non => cases r; rfl
 | bl _ => cases r; rfl
 | int _ => obtain ⟨t, rfl⟩ := r; rfl
 | str _ => obtain ⟨t, rfl⟩ := r; rfl
 | byt _ => obtain ⟨t, rfl⟩ := r; rfl
 | flt _ => obtain ⟨t, rfl⟩ := r; rfl
 | ref _ => cases r; rfl
 | ty _ => cases r; rfl
theorem RelV.inj {x y : V} {u : Value} (r : RelV x u) (q : RelV y u) : x = y := Option.some.inj (r.abs.symm.trans q.abs)
theorem Vals.inj : ∀ {xs ys : List V} {us : List Value}, Vals xs us -> Vals ys us -> xs = ys
 | _, _, _, .nil, .nil => rfl
 | _, _, _, .cons r t, .cons r' t' => by rw [r.inj r', Vals.inj t t']
section
variable {X : Cx} {pins : List (Addr × Obj)} {σ : St} {H : Hp} {s : Shared} {a : Addr} {xs ys : List V}
theorem SqL.of {K : PySem.W.Frag} (h : H a = some (.lst xs)) : SqL K H a xs := .inl (.inl h)
theorem SqT.of {K : PySem.W.Frag} (h : H a = some (.tup xs)) : SqT K H a xs := .inl (.inl h)
theorem Inv.list (I : Inv X pins σ H s) (h : SqL X.K H a xs) : ∃ its : List Value, Vals xs its /\ PlainL s.heap a its.toArray /\ xs.length <= sizeLine := by
 rcases h with h | ⟨o, its, n, hk, hc, hd, hs, hz, r⟩
 ·obtain ⟨z, its, n, r, e⟩ := h.ok I.hok
  exact ⟨its, r, ⟨_, n, e, rfl, rfl, rfl⟩, z⟩
 ·refine ⟨its.toList, r, ⟨o, n, I.kIn a o hk, hc, hd, by simpa using hs⟩, ?_⟩
  have e := r.length
  simp only [Array.length_toList] at e
  omega
theorem Inv.tuple (I : Inv X pins σ H s) (h : SqT X.K H a xs) : ∃ its : List Value, Vals xs its /\ IsTup s.heap a its.toArray /\ xs.length <= sizeLine := by
 rcases h with h | ⟨o, its, n, hk, hc, hs, hz, r⟩
 ·obtain ⟨z, its, r, p⟩ := h.ok I.hok
  exact ⟨its, r, p, z⟩
 ·refine ⟨its.toList, r, ⟨o, I.kIn a o hk, hc, n, by simpa using hs⟩, ?_⟩
  have e := r.length
  simp only [Array.length_toList] at e
  omega
theorem Inv.list_inj (I : Inv X pins σ H s) (h : SqL X.K H a xs) (h' : SqL X.K H a ys) : xs = ys := by
 obtain ⟨its, r, ⟨o, n, e, _, _, d⟩, _⟩ := I.list h
 obtain ⟨its', r', ⟨o', n', e', _, _, d'⟩, _⟩ := I.list h'
 rw [e] at e'; cases e'
 rw [d] at d'
 injection d' with d1 _
 have : its = its' := by simpa using congrArg Array.toList d1
 subst this
 exact r.inj r'
theorem Inv.tuple_inj (I : Inv X pins σ H s) (h : SqT X.K H a xs) (h' : SqT X.K H a ys) : xs = ys := by
 obtain ⟨its, r, ⟨o, e, _, n, d⟩, _⟩ := I.tuple h
 obtain ⟨its', r', ⟨o', e', _, n', d'⟩, _⟩ := I.tuple h'
 rw [e] at e'; cases e'
 rw [d] at d'
 injection d' with d1 _
 have : its = its' := by simpa using congrArg Array.toList d1
 subst this
 exact r.inj r'
end
abbrev Cx.wish (X : Cx) (E : Value -> Shared -> Prop) : Cx := { X with xe := E }
abbrev Cx.nox (X : Cx) : Cx := X.wish fun _ _ => False
theorem Cx.Ok.wish {X : Cx} (ok : X.Ok) (E : Value -> Shared -> Prop) : (X.wish E).Ok :=
 ⟨ok.mod, ok.kind, ok.glob, ok.blt, ok.above, ok.inj, ok.has, ok.cab, ok.hd, ok.frames, ok.stk, ok.exf, ok.bs, ok.bsz, ok.noex, ok.exfs, ok.funs, ok.frf⟩
theorem Cx.Ok.unwish {X : Cx} {E : Value -> Shared -> Prop} (ok : (X.wish E).Ok) : X.Ok :=
 ⟨ok.mod, ok.kind, ok.glob, ok.blt, ok.above, ok.inj, ok.has, ok.cab, ok.hd, ok.frames, ok.stk, ok.exf, ok.bs, ok.bsz, ok.noex, ok.exfs, ok.funs, ok.frf⟩
section
variable {X : Cx} {pins : List (Addr × Obj)} {σ : St} {H : Hp} {s : Shared} {E : Value -> Shared -> Prop}
theorem Inv.wish (I : Inv X pins σ H s) (E : Value -> Shared -> Prop) : Inv (X.wish E) pins σ H s := ⟨I.ok.wish E, I.os, I.bare, I.base, I.loc, I.cell, I.free, I.freeC, I.pin, I.hok, I.len⟩
theorem Inv.unwish (I : Inv (X.wish E) pins σ H s) : Inv X pins σ H s := ⟨I.ok.unwish, I.os, I.bare, I.base, I.loc, I.cell, I.free, I.freeC, I.pin, I.hok, I.len⟩
theorem SP.unwish {D : Ends} {f : Flow} {s' : Shared} (h : SP (X.wish E) pins D f s') : SP X pins D f s' := by
 cases f with
 | next => obtain ⟨σ', H', I, q⟩ := h; exact ⟨σ', H', I.unwish, q⟩
 | brk => obtain ⟨σ', H', I, q⟩ := h; exact ⟨σ', H', I.unwish, q⟩
 | cont => obtain ⟨σ', H', I, q⟩ := h; exact ⟨σ', H', I.unwish, q⟩
 | ret u => obtain ⟨v, σ', H', I, r, q⟩ := h; exact ⟨v, σ', H', I.unwish, r, q⟩
theorem PSs.nox {st : List Stmt} {t : TS} (h : PSs X.nox st t) : PSs X st t := fun pins s σ H D I hw =>
 wpAny_mono (h pins s σ H D (I.wish _) hw) (fun _ _ q => q.unwish) fun _ _ z => False.elim z
end
section
variable {X : Cx} {st : Stmt} {rest : List Stmt} {t u : TS} {e : Expr} {te : TE} {pos : Pos}
def Zz : TS := fun D σ H => D.nx σ H
def tSeq (t u : TS) : TS := fun D σ H => t { D with nx := u D } σ H
theorem X8 : PSs X [] Zz := fun _ _ σ H _ I h => wpAny_execs_nil ⟨σ, H, I, h⟩
theorem Vd (h1 : PS X st t) (h2 : PSs X rest u) : PSs X (st :: rest) (tSeq t u) := by
 intro pins s σ H D I h
 refine wpAny_execs_cons (thn (h1 pins s σ H { D with nx := u D } I h) fun f s1 q => ?_)
 cases f with
 | next =>
  obtain ⟨σ', H', I', q⟩ := q
  exact h2 pins s1 σ' H' D I' q
 | ret v => exact q
 | brk => exact q
 | cont => exact q
def aj3 : TS := fun D σ H => D.bk σ H
def aw4 : TS := fun D σ H => D.ct σ H
theorem X6 : PS X (.Pass pos) Zz := fun _ _ σ H _ I h => wpAny_Pass ⟨σ, H, I, h⟩
theorem Vb : PS X (.Break pos) aj3 := fun _ _ σ H _ I h => wpAny_Break ⟨σ, H, I, h⟩
theorem M2 : PS X (.Continue pos) aw4 := fun _ _ σ H _ I h => wpAny_Continue ⟨σ, H, I, h⟩
theorem Inv.quiet {pins : List (Addr × Obj)} {σ : St} {H : Hp} {s : Shared} (I : Inv X pins σ H s) : interactive X.env = false := by simp [interactive, I.ok.kind]
def aw6 (te : TE) : TS := fun D σ H => te σ H fun _ H1 => D.nx σ H1
theorem X0 (he : PE X e te) (hs : swapsWith e none pos.line X.env = pure false := by rfl) : PS X (.Expr e pos) (aw6 te) := by
 intro pins s σ H D I h
 exact wpAny_Expr_any (thn (he pins s σ H _ I h) fun v s1 ⟨x, H1, I1, r1, q1⟩ => ⟨σ, H1, I1, q1⟩) I.quiet hs
def tRet (te : TE) : TS := fun D σ H => te σ H D.rt
theorem ad9 (he : PE X e te) : PS X (.Return (some e) pos) (tRet te) := by
 intro pins s σ H D I h
 exact wpAny_Return_some (thn (he pins s σ H _ I h) fun v s1 ⟨x, H1, I1, r1, q1⟩ => ⟨x, σ, H1, I1, r1, q1⟩)
def aw7 : TS := fun D _ H => D.rt .non H
theorem X7 : PS X (.Return none pos) aw7 := fun _ _ σ H _ I h => wpAny_Return_none ⟨.non, σ, H, I, rfl, h⟩
def tIfS (c : TT) (t u : TS) : TS := fun D σ H => c σ H fun b H1 => if b = true then t D σ H1 else u D σ H1
theorem ap6 {c : Expr} {a b : List Stmt} {tc : TT} (hc : PT X c tc) (ha : PSs X a t) (hb : PSs X b u) : PS X (.If c a b pos) (tIfS tc t u) := by
 intro pins s σ H D I h
 refine wpAny_If (thn (hc pins s σ H _ I h) fun d s1 ⟨H1, I1, q1⟩ => ?_)
 cases d with
 | true => exact ha pins s1 σ H1 D I1 q1
 | false => exact hb pins s1 σ H1 D I1 q1
end
abbrev TG := V -> St -> Hp -> (St -> Hp -> Prop) -> Prop
abbrev TGs := List V -> St -> Hp -> (St -> Hp -> Prop) -> Prop
def PG (X : Cx) (target : Expr) (t : TG) : Prop :=
 ∀ (pins : List (Addr × Obj)) (s : Shared) (σ : St) (H : Hp) (v : V) (u : Value) (Q : St -> Hp -> Prop), Inv X pins σ H s -> RelV v u -> t v σ H Q ->
  wpAny (model X.prog X.w) X.A (assign target X.env u) (fun _ s' => ∃ σ' H', Inv X pins σ' H' s' /\ Q σ' H') X.xe s
def PGs (X : Cx) (ts : List Expr) (t : TGs) : Prop :=
 ∀ (pins : List (Addr × Obj)) (s : Shared) (σ : St) (H : Hp) (vs : List V) (us : List Value) (Q : St -> Hp -> Prop), Inv X pins σ H s -> Vals vs us -> t vs σ H Q ->
  wpAny (model X.prog X.w) X.A (assignInOrder ((assignEach ts X.env).map (·.2)) us) (fun _ s' => ∃ σ' H', Inv X pins σ' H' s' /\ Q σ' H') X.xe s
abbrev TSet := V -> V -> V -> Hp -> (Hp -> Prop) -> Prop
def PSet (X : Cx) (t : TSet) : Prop :=
 ∀ (pins : List (Addr × Obj)) (s : Shared) (σ : St) (H : Hp) (o i v : V) (ov iv u : Value) (Q : Hp -> Prop), Inv X pins σ H s -> RelV o ov -> RelV i iv -> RelV v u -> t o i v H Q ->
  wpAny (model X.prog X.w) X.A (setItem ov iv u) (fun _ s' => ∃ H', Inv X pins σ H' s' /\ Q H') X.xe s
section
variable {X : Cx} {pos : Pos}
def Tz (i : Nat) : TG := fun v σ H Q => Q (σ.set i (some v)) H
theorem Xw {i : Nat} {x : Str} (hN : X.N.Nodup) (hi : X.N[i]? = some x) (hx : Loc X.env.scope x) (hf : X.fn x = true \/ X.env.scope.names.lookup x = some .local := by first | exact .inl rfl | exact .inr rfl | assumption) : PG X (.Name x pos) (Tz i) := by
 intro pins s σ H v u Q I r h
 exact wpAny_assign_Name (Fk I hN hi hx r (fun s' I' => ⟨_, H, I', h⟩) hf)
def gNil : TGs := fun vs σ H Q => vs = [] /\ Q σ H
def al2 (t : TG) (u : TGs) : TGs := fun vs σ H Q => ∃ v r, vs = v :: r /\ t v σ H fun σ' H' => u r σ' H' Q
theorem Xx : PGs X [] gNil := by
 intro pins s σ H vs us Q I r h
 obtain ⟨e, h⟩ := h
 subst e
 cases r
 exact assignInOrder_nil ⟨σ, H, I, h⟩
theorem U3 {e : Expr} {es : List Expr} {t : TG} {u : TGs} (h1 : PG X e t) (h2 : PGs X es u)
  (hs : (assignEach (e :: es) X.env).map (·.2) = assign e X.env :: (assignEach es X.env).map (·.2) := by rfl) : PGs X (e :: es) (al2 t u) := by
 intro pins s σ H vs us Q I r h
 obtain ⟨v, vr, e1, h⟩ := h
 subst e1
 cases r with
 | cons r rr =>
  rw [hs]
  refine assignInOrder_cons (thn (h1 pins s σ H _ _ _ I r h) fun _ s1 ⟨σ1, H1, I1, q1⟩ => ?_)
  exact h2 pins s1 σ1 H1 _ _ Q I1 rr q1
def gTup (K : PySem.W.Frag) (n : Nat) (t : TGs) : TG := fun v σ H Q => ∃ a xs, v = .ref a /\ SqT K H a xs /\ xs.length = n /\ t xs σ H Q
theorem ad7 {es : List Expr} {k : Nat} {t : TGs} {n : Nat} (hc : X.calm = true) (h : PGs X es t)
  (hn : (assignEach es X.env).length = n := by rfl) (hst : (assignEach es X.env).findIdx? (·.1) = none := by rfl) : PG X (.Tuple es k pos) (gTup X.K n t) := by
 intro pins s σ H v u Q I r hw
 obtain ⟨a, xs, e1, hq, hl, hw⟩ := hw
 subst e1
 cases r
 obtain ⟨its, rv, ht, hz⟩ := I.tuple hq
 refine assign_Tuple_tuple (I.ok.hd hc) ht (by simp [hn, <- hl, rv.length]) hst fun h' hx => ?_
 have I1 : Inv X pins σ H { s with heap := h' } := I.kept (t' := s.toks) fun b o e => hx b o (Nat.ne_of_lt (Heap.lt_size e)) e
 exact h pins _ σ H xs _ Q I1 (by simpa using rv) hw
def gSub (to ti : TE) (t : TSet) : TG := fun v σ H Q => to σ H fun o H1 => ti σ H1 fun i H2 => t o i v H2 fun H3 => Q σ H3
theorem ad6 {o i : Expr} {to ti : TE} {t : TSet} (ho : PE X o to) (hi : PE X i ti) (hs : PSet X t)
  (ha : ∀ v, assign (.Subscript o i pos) X.env v = (do
   let ov <- holding [v] (eval o X.env)
   let iv <- holding [v, ov] (eval i X.env)
   standAt pos
   holding [v, ov, iv] (setItem ov iv v)
   release [v, ov, iv] []) := by intro _; rfl) : PG X (.Subscript o i pos) (gSub to ti t) := by
 intro pins s σ H v u Q I r h
 rw [ha]
 refine wpAny_bind (wpAny_holding (thn (ho pins s σ H _ I h) fun ov s1 ⟨x, H1, I1, r1, q1⟩ => ?_))
 refine wpAny_bind (wpAny_holding (thn (hi pins s1 σ H1 _ I1 q1) fun iv s2 ⟨y, H2, I2, r2, q2⟩ => ?_))
 refine wpAny_bind (wpAny_standAt (wpAny_bind (wpAny_holding (thn (hs pins s2 σ H2 x y v ov iv u _ I2 r1 r2 r q2) fun _ s3 ⟨H3, I3, q3⟩ => ?_))))
 exact wpAny_release ⟨σ, H3, I3, q3⟩
def tAsg (te : TE) (g : TG) : TS := fun D σ H => te σ H fun x H1 => g x σ H1 D.nx
theorem Va {tg e : Expr} {te : TE} {g : TG} (he : PE X e te) (hg : PG X tg g) (hs : swapsWithSole [tg] e pos.line X.env = pure false := by rfl) (hw : swappedStores [tg] e X.env = pure none := by rfl)
  (h1 : (assignEach [tg] X.env).map (·.2) = [assign tg X.env] := by rfl) : PS X (.Assign [tg] e pos) (tAsg te g) := by
 intro pins s σ H D I h
 refine wpAny_Assign_stores (thn (he pins s σ H _ I h) fun v s1 ⟨x, H1, I1, r1, q1⟩ => ?_) hs hw
 rw [h1]
 exact thn (hg pins s1 σ H1 x v _ I1 r1 q1) fun _ s2 q => q
theorem ae0 {i : Nat} {x : Str} {e : Expr} {te : TE} {pos' : Pos} (hN : X.N.Nodup) (hi : X.N[i]? = some x) (hx : Loc X.env.scope x) (he : PE X e te) (hs : swapsWith e (some (.Name x pos')) pos.line X.env = pure false := by rfl) (hf : X.fn x = true \/ X.env.scope.names.lookup x = some .local := by first | exact .inl rfl | exact .inr rfl | assumption) :
  PS X (.Assign [.Name x pos'] e pos) (tAsg te (Tz i)) := by
 intro pins s σ H D I h
 refine wpAny_Assign_Name (thn (he pins s σ H _ I h) fun v s1 ⟨y, H1, I1, r1, q1⟩ => ?_) hs
 exact Fk I1 hN hi hx r1 (fun s2 I2 => ⟨_, H1, I2, q1⟩) hf
end
structure It where
 go : Nat -> Hp -> Prop
 yld : Nat -> Hp -> V -> Hp -> Prop
 stop : Nat -> Hp -> Prop
def FpOk (X : Cx) (pins : List (Addr × Obj)) (H : Hp) (b : Addr) : Prop :=
 H b = none /\ b ≠ X.env.locals /\ b ∉ X.fs /\ (b ∈ X.ex \/ X.s₀.heap.objs.size <= b) /\ (∀ x c, X.env.cells.lookup x = some c -> c ≠ b) /\ ∀ p ∈ X.pn ++ pins, p.1 ≠ b
theorem Inv.fpOk {X : Cx} {pins : List (Addr × Obj)} {σ : St} {H H' : Hp} {s : Shared} {b : Addr} (I : Inv X pins σ H s) (hb : s.heap.objs.size <= b) (hn : H' b = none) : FpOk X pins H' b := by
 refine ⟨hn, Nat.ne_of_gt (Nat.lt_of_lt_of_le I.lt hb), I.nofs hb, .inr (Nat.le_trans I.sz hb), fun x c e z => ?_, fun p hp z => ?_⟩
 ·obtain ⟨v, q⟩ := I.cell x c e
  exact absurd (Nat.lt_of_lt_of_le q.lt (by rw [z]; exact hb)) (Nat.lt_irrefl _)
 ·exact absurd (Nat.lt_of_lt_of_le (Heap.lt_size (I.pin p hp).1) (by rw [z]; exact hb)) (Nat.lt_irrefl _)
structure Turn (P : Program) (w : World) (K : PySem.W.Frag) (tg : Expr) (J : It) (fp : List Addr) (it : Addr) (tn : Nat -> Heap -> Prop) : Prop where
 mem : it ∈ fp
 obj : ∀ i h, tn i h -> ∀ b ∈ fp, ∃ o, h.get? b = some o /\ ∀ v, o.data ≠ .cell v
 keep : ∀ i h h', tn i h -> (∀ b ∈ fp, ∀ o, h.get? b = some o -> h'.get? b = some o) -> tn i h'
 item : ∀ (X : Cx), X.prog = P -> X.w = w -> X.K = K -> X.calm = true -> ∀ (i : Nat) (pins : List (Addr × Obj)) (s : Shared) (σ : St) (H : Hp) (E : Value -> Shared -> Prop), Inv X pins σ H s -> (∀ b ∈ fp, FpOk X pins H b) -> tn i s.heap -> J.go i H ->
  wpAny (model P w) X.A (pyNext (.ref it)) (fun r s1 => ∃ u, r = some u /\
   wpAny (model P w) X.A (letOwnedTupleGo tg (.ref it) u) (fun _ s2 => ∃ x H', Inv X pins σ H' s2 /\ RelV x u /\ J.yld i H x H' /\ tn (i + 1) s2.heap /\ ∀ b ∈ fp, H' b = none) E s1) E s
 done : ∀ (X : Cx), X.prog = P -> X.w = w -> X.K = K -> X.calm = true -> ∀ (i : Nat) (pins : List (Addr × Obj)) (s : Shared) (σ : St) (H : Hp) (E : Value -> Shared -> Prop), Inv X pins σ H s -> (∀ b ∈ fp, FpOk X pins H b) -> tn i s.heap -> J.stop i H ->
  wpAny (model P w) X.A (pyNext (.ref it)) (fun r s1 => r = none /\ Inv X pins σ H s1) E s
 self : ∀ (A : Around) (i : Nat) (s : Shared) (Q : Value -> Shared -> Prop) (E : Value -> Shared -> Prop), tn i s.heap -> Q (.ref it) s -> wpAny (model P w) A (pyIter (.ref it)) Q E s
abbrev TI := St -> Hp -> (It -> Hp -> Prop) -> Prop
def PIE (X : Cx) (pins : List (Addr × Obj)) (σ : St) (tg : Expr) (R : It -> Hp -> Prop) (itv : Value) (s2 : Shared) : Prop :=
 ∃ (it : Addr) (fp : List Addr) (tn : Nat -> Heap -> Prop) (J : It) (H' : Hp), itv = .ref it /\ Inv X pins σ H' s2 /\ Turn X.prog X.w X.K tg J fp it tn /\ tn 0 s2.heap /\ (∀ b ∈ fp, FpOk X pins H' b) /\ R J H'
def PI (X : Cx) (tg iter : Expr) (wi : TI) : Prop :=
 ∀ (pins : List (Addr × Obj)) (s : Shared) (σ : St) (H : Hp) (R : It -> Hp -> Prop), Inv X pins σ H s -> wi σ H R ->
  wpAny (model X.prog X.w) X.A (eval iter X.env) (fun v s1 => wpAny (model X.prog X.w) X.A (pyIter v) (PIE X pins σ tg R) X.xe s1) X.xe s
theorem J1 {M : Model} {A : Around} {E : Value -> Shared -> Prop} {s : Shared} {tg : Expr} {it : Addr} {u : Value} {o : Obj} {n : String} {vs : Array Value} {Q : Unit -> Shared -> Prop} (ho : s.heap.get? it = some o) (hc : o.cls = .type n) (hd : o.data = .fields vs)
    (hn : ["enumerate", "zip", "dict_itemiterator", "dict_reverseitemiterator", "odict_iterator", "itertools.zip_longest", "itertools.pairwise"].contains n = false) (hQ : Q () s) : wpAny M A (letOwnedTupleGo tg (.ref it) u) Q E s := by
  unfold letOwnedTupleGo
  cases tg <;> first
    | exact wpAny_pure hQ
    | (cases u <;> first
        | exact wpAny_pure hQ
        | (refine wpAny_bind (wpAny_load ho ?_)
           rw [hc, hd]
           show wpAny M A (if (["enumerate", "zip", "dict_itemiterator", "dict_reverseitemiterator", "odict_iterator", "itertools.zip_longest", "itertools.pairwise"].contains n && vs[0]? == some (rawInt _)) = true then _ else _) Q E s
           rw [if_neg (by intro h; rw [hn, Bool.false_and] at h; cases h)]
           exact wpAny_pure hQ))
def Itl (K : PySem.W.Frag) (a : Addr) : It :=
 ⟨fun i H => ∃ xs x, SqL K H a xs /\ xs[i]? = some x, fun i H x H' => H' = H /\ ∀ xs, SqL K H a xs -> xs[i]? = some x, fun i H => ∃ xs, SqL K H a xs /\ xs.length <= i⟩
def Itt (K : PySem.W.Frag) (a : Addr) : It :=
 ⟨fun i H => ∃ xs x, SqT K H a xs /\ xs[i]? = some x, fun i H x H' => H' = H /\ ∀ xs, SqT K H a xs -> xs[i]? = some x, fun i H => ∃ xs, SqT K H a xs /\ xs.length <= i⟩
def Itr (lo : Int) (n : Nat) : It := ⟨fun i _ => i < n, fun i H x H' => H' = H /\ x = .int (lo + i), fun i _ => n <= i⟩
theorem Sv {P : Program} {w : World} {K : PySem.W.Frag} {tg : Expr} (a it : Addr) : Turn P w K tg (Itl K a) [it] it (fun i h => h.IsListIter it a i) where
 mem := by simp
 obj := fun i h st b hb => by
  have e : b = it := by simpa using hb
  subst e
  obtain ⟨o, e, c, d⟩ := st
  exact ⟨o, e, fun v z => by rw [d] at z; cases z⟩
 keep := fun i h h' st k => st.at fun o e => k it (by simp) o e
 item := by
  intro X hP hw hK hc i pins s σ H E I hf st hg
  subst hP hw hK
  obtain ⟨xs, x, hq, hx⟩ := hg
  obtain ⟨its, rv, p, hz⟩ := I.list hq
  obtain ⟨u, hu, ru⟩ := rv.get hx
  obtain ⟨f0, f1, f2, f3, f4, f5⟩ := hf it (by simp)
  refine wpAny_pyNext_list_item st p.isList (x := u) (by simpa using hu) fun h' st' sb => ?_
  have I1 : Inv X pins σ H { s with heap := h' } := I.turned (t' := s.toks) (fun b o hb e => (sb.2 b hb).trans e) f0 f1 f3 f4 f5
  obtain ⟨o, e, c, d⟩ := id st'
  exact ⟨u, rfl, J1 (s := { s with heap := h' }) e c d (by decide) ⟨x, H, I1, ru, ⟨rfl, fun ys hy => by rw [I.list_inj hy hq]; exact hx⟩, st', fun b hb => (hf b hb).1⟩⟩
 done := by
  intro X hP hw hK hc i pins s σ H E I hf st hg
  subst hP hw hK
  obtain ⟨xs, hq, hx⟩ := hg
  obtain ⟨its, rv, p, hz⟩ := I.list hq
  obtain ⟨f0, f1, f2, f3, f4, f5⟩ := hf it (by simp)
  have hl := rv.length
  exact wpAny_pyNext_list_end (I.ok.hd hc) st p.isList (by simp; omega) fun h' eb => ⟨rfl, I.turned (t' := s.toks) (fun b o hb e => eb b o hb e) f0 f1 f3 f4 f5⟩
 self := fun _ _ _ _ _ st h => wpAny_pyIter_listiter st h
theorem Pb {P : Program} {w : World} {K : PySem.W.Frag} {tg : Expr} (a it : Addr) : Turn P w K tg (Itt K a) [it] it (fun i h => h.IsTupleIter it a i) where
 mem := by simp
 obj := fun i h st b hb => by
  have e : b = it := by simpa using hb
  subst e
  obtain ⟨o, e, c, d⟩ := st
  exact ⟨o, e, fun v z => by rw [d] at z; cases z⟩
 keep := fun i h h' st k => st.at fun o e => k it (by simp) o e
 item := by
  intro X hP hw hK hc i pins s σ H E I hf st hg
  subst hP hw hK
  obtain ⟨xs, x, hq, hx⟩ := hg
  obtain ⟨its, rv, p, hz⟩ := I.tuple hq
  obtain ⟨u, hu, ru⟩ := rv.get hx
  obtain ⟨f0, f1, f2, f3, f4, f5⟩ := hf it (by simp)
  refine wpAny_pyNext_tuple_item st (show s.heap.IsTuple a its.toArray from p) (x := u) (by simpa using hu) fun h' st' sb => ?_
  have I1 : Inv X pins σ H { s with heap := h' } := I.turned (t' := s.toks) (fun b o hb e => (sb.2 b hb).trans e) f0 f1 f3 f4 f5
  obtain ⟨o, e, c, d⟩ := id st'
  exact ⟨u, rfl, J1 (s := { s with heap := h' }) e c d (by decide) ⟨x, H, I1, ru, ⟨rfl, fun ys hy => by rw [I.tuple_inj hy hq]; exact hx⟩, st', fun b hb => (hf b hb).1⟩⟩
 done := by
  intro X hP hw hK hc i pins s σ H E I hf st hg
  subst hP hw hK
  obtain ⟨xs, hq, hx⟩ := hg
  obtain ⟨its, rv, p, hz⟩ := I.tuple hq
  obtain ⟨f0, f1, f2, f3, f4, f5⟩ := hf it (by simp)
  have hl := rv.length
  exact wpAny_pyNext_tuple_end (I.ok.hd hc) st (show s.heap.IsTuple a its.toArray from p) (by simp; omega) fun h' eb => ⟨rfl, I.turned (t' := s.toks) (fun b o hb e => eb b o hb e) f0 f1 f3 f4 f5⟩
 self := fun _ _ _ _ _ st h => wpAny_pyIter_tupleiter st h
theorem Pa {P : Program} {w : World} {K : PySem.W.Frag} {tg : Expr} (it : Addr) (lo : Int) (n : Nat) : Turn P w K tg (Itr lo n) [it] it (fun i h => IsRangeIter h it (lo + (i : Nat) * 1) ((n : Int) - (i : Nat)) 1) where
 mem := by simp
 obj := fun i h st b hb => by
  have e : b = it := by simpa using hb
  subst e
  exact ⟨_, st, fun v z => by
   have z' : Data.fields _ = Data.cell v := z
   cases z'⟩
 keep := fun i h h' st k => k it (by simp) _ st
 item := by
  intro X hP hw hK hc i pins s σ H E I hf st hg
  subst hP hw hK
  obtain ⟨f0, f1, f2, f3, f4, f5⟩ := hf it (by simp)
  have W := Walks.range (prog := X.prog) (w := X.w) (I.ok.hd hc) it lo 1 n
  refine W.item i s _ _ hg st fun v h' tk hv st' kk => ?_
  obtain ⟨t, rfl⟩ := hv
  have I1 : Inv X pins σ H { s with heap := h', toks := tk } := I.turned (fun b o hb e => kk b o (by simpa using hb) e) f0 f1 f3 f4 f5
  refine ⟨_, rfl, J1 (s := { s with heap := h', toks := tk }) (n := "range_iterator") st' rfl rfl (by decide) ⟨.int (lo + i), H, I1, ⟨t, ?_⟩, ⟨rfl, rfl⟩, st', fun b hb => (hf b hb).1⟩⟩
  rw [Int.mul_one]
 done := by
  intro X hP hw hK hc i pins s σ H E I hf st hg
  subst hP hw hK
  obtain ⟨f0, f1, f2, f3, f4, f5⟩ := hf it (by simp)
  exact wpAny_pyNext_range_end (I.ok.hd hc) st (by have : n <= i := hg; omega) fun h' eb => ⟨rfl, I.turned (t' := s.toks) (fun b o hb e => eb b o hb e) f0 f1 f3 f4 f5⟩
 self := fun _ _ _ _ _ st h => wpAny_pyIter_rangeiter st h
section
variable {X : Cx} {tg : Expr}
theorem M7 {pins : List (Addr × Obj)} {σ : St} {H : Hp} {s : Shared} {R : It -> Hp -> Prop} {E : Value -> Shared -> Prop} {lo hi : Int} {t u v : Tok} {tk : Nat} (I : Inv X pins σ H s) (h1 : -(2 ^ 62) <= lo) (h2 : lo < 2 ^ 62) (h3 : -(2 ^ 62) <= hi) (h4 : hi < 2 ^ 62)
  (q : R (Itr lo (hi - lo).toNat) H) : wpAny (model X.prog X.w) X.A (pyIter (.ref s.heap.objs.size)) (PIE X pins σ tg R) E { s with heap := s.heap.push { cls := .type "range", data := .fields #[.int lo t, .int hi u, .int 1 v] }, toks := tk } := by
 refine wpAny_pyIter_range (IsRange.new ..) (small_one h1 h2 h3 h4) ?_
 have I1 : Inv X pins σ H { s with heap := s.heap.push { cls := .type "range", data := .fields #[.int lo t, .int hi u, .int 1 v] }, toks := tk } := I.kept fun b o e => Heap.get?_push_of_some _ e
 refine ⟨(s.heap.push { cls := .type "range", data := .fields #[.int lo t, .int hi u, .int 1 v] }).objs.size, [(s.heap.push { cls := .type "range", data := .fields #[.int lo t, .int hi u, .int 1 v] }).objs.size], _, _, H, rfl,
  I1.kept (t' := tk) fun b o e => Heap.get?_push_of_some _ e, Pa _ lo (hi - lo).toNat, ?_, fun b hb => ?_, q⟩
 ·have e1 : lo + ((0 : Nat) : Int) * 1 = lo := by simp
  have e2 : (((hi - lo).toNat : Nat) : Int) - ((0 : Nat) : Int) = Builtin.Range.rangeSize lo hi 1 := by rw [rangeSize_one]; split <;> omega
  show IsRangeIter _ _ (lo + ((0 : Nat) : Int) * 1) ((((hi - lo).toNat : Nat) : Int) - ((0 : Nat) : Int)) 1
  rw [e1, e2]
  exact Heap.get?_push_size _ rfl
 ·have e : b = (s.heap.push { cls := .type "range", data := .fields #[.int lo t, .int hi u, .int 1 v] }).objs.size := by simpa using hb
  subst e
  exact I1.fpOk (Nat.le_refl _) (I1.hok.fresh (Nat.le_refl _))
def tFor (wi : TI) (g : TG) (tb : TS) : TS := fun D σ H => wi σ H fun J H1 => ∃ W : Nat -> Nat -> St -> Hp -> Prop, (∃ m, W 0 m σ H1) /\ ∀ i m σ H, W i m σ H ->
 (J.stop i H /\ D.nx σ H) \/ (J.go i H /\ ∃ N : St -> Hp -> Prop, (∀ σ' H', N σ' H' -> ∃ m', m' < m /\ W (i + 1) m' σ' H') /\ ∀ x H', J.yld i H x H' -> g x σ H' fun σ2 H2 => tb { D with nx := N, ct := N, bk := D.nx } σ2 H2)
def Fx (fp : List Addr) (h : Heap) : List (Addr × Obj) := fp.filterMap fun b => (h.get? b).map fun o => (b, o)
theorem Dj {fp : List Addr} {h : Heap} {b : Addr} {o : Obj} (hb : b ∈ fp) (e : h.get? b = some o) : (b, o) ∈ Fx fp h := List.mem_filterMap.mpr ⟨b, hb, by rw [e]; rfl⟩
theorem Rv {fp : List Addr} {h : Heap} {p : Addr × Obj} (hp : p ∈ Fx fp h) : p.1 ∈ fp /\ h.get? p.1 = some p.2 := by
 obtain ⟨b, hb, e⟩ := List.mem_filterMap.mp hp
 cases q : h.get? b with
 | none => rw [q] at e; cases e
 | some o =>
  rw [q] at e
  have e' : (b, o) = p := Option.some.inj e
  subst e'
  exact ⟨hb, q⟩
theorem Inv.pinned {pins : List (Addr × Obj)} {σ : St} {H : Hp} {s : Shared} {fp : List Addr} (I : Inv X pins σ H s) (hf : ∀ b ∈ fp, FpOk X pins H b) (ho : ∀ b ∈ fp, ∃ o, s.heap.get? b = some o /\ ∀ v, o.data ≠ .cell v) : Inv X (pins ++ Fx fp s.heap) σ H s :=
 I.pins_of fun p hp => (List.mem_append.mp hp).elim (fun z => I.pin p (List.mem_append_right _ z)) fun z => by
  obtain ⟨hb, e⟩ := Rv z
  obtain ⟨f0, f1, f2, _⟩ := hf p.1 hb
  obtain ⟨o, e', d⟩ := ho p.1 hb
  rw [e] at e'; cases e'
  exact ⟨e, f0, f1, f2, d⟩
theorem Inv.unpinned {pins pl : List (Addr × Obj)} {σ : St} {H : Hp} {s : Shared} (I : Inv X (pins ++ pl) σ H s) : Inv X pins σ H s := I.pins_of fun p hp => I.pin p (List.mem_append_right _ (List.mem_append_left _ hp))
theorem ad8 {iter : Expr} {body : List Stmt} {wi : TI} {g : TG} {tb : TS} {pos : Pos} (hp : PassesOwn (model X.prog X.w) X.A X.env X.xe) (hc : X.calm = true) (hi : PI X tg iter wi) (hg : PG X tg g) (hb : PSs X body tb)
  (hs : ∀ x, foldedSetIterable iter X.env x = pure x := by intro _; rfl) : PS X (.For tg iter body [] pos) (tFor wi g tb) := by
 intro pins s σ H D I h
 refine wpAny_For (thn (hi pins s σ H _ I h) fun v s1 h1 => thn h1 fun itv s2 h2 => ?_) hs
 obtain ⟨it, fp, tn, J, H2, e, I2, T, st2, f2, W, ⟨m0, w0⟩, turn⟩ := h2
 subst e
 have stat : ∀ {H' : Hp}, (∀ b ∈ fp, H' b = none) -> ∀ b ∈ fp, FpOk X pins H' b := fun hn b hb => ⟨hn b hb, (f2 b hb).2⟩
 refine codeAny_forLoop_any (fun n s' => ∃ i σ' H', Inv X pins σ' H' s' /\ tn i s'.heap /\ (∀ b ∈ fp, H' b = none) /\ W i n σ' H') ?_ m0 ⟨0, σ, H2, I2, st2, fun b hb => (f2 b hb).1, w0⟩
 rintro n s3 ⟨i, σ3, H3, I3, st3, fr3, w3⟩
 rcases turn i n σ3 H3 w3 with ⟨stop, qn⟩ | ⟨go, N, hN, step⟩
 ·refine wpAny_passesOwn hp (thn (T.done X rfl rfl rfl hc i pins s3 σ3 H3 X.xe I3 (stat fr3) st3 stop) fun r s4 ⟨hr, I4⟩ => ?_)
  subst hr
  exact wpAny_execs_nil ⟨σ3, H3, I4, qn⟩
 ·refine wpAny_passesOwn hp (thn (T.item X rfl rfl rfl hc i pins s3 σ3 H3 X.xe I3 (stat fr3) st3 go) fun r s4 ⟨u, hr, h4⟩ => ?_)
  subst hr
  refine wpAny_passesOwn hp (thn h4 fun _ s5 ⟨x, H5, I5, r5, y5, st5, fr5⟩ => ?_)
  have I5' := I5.pinned (stat fr5) (T.obj _ _ st5)
  refine wpAny_passesOwn hp (thn (hg _ s5 σ3 H5 x u _ I5' r5 (step x H5 y5)) fun _ s6 ⟨σ6, H6, I6, q6⟩ => ?_)
  refine wpAny_passesOwn hp (thn (hb _ s6 σ6 H6 _ I6 q6) fun f s7 q7 => ?_)
  have again : ∀ {σ7 : St} {H7 : Hp}, Inv X (pins ++ Fx fp s5.heap) σ7 H7 s7 -> N σ7 H7 -> ∃ m, m < n /\ ∃ i σ' H', Inv X pins σ' H' s7 /\ tn i s7.heap /\ (∀ b ∈ fp, H' b = none) /\ W i m σ' H' := fun {σ7 H7} I7 n7 => by
   obtain ⟨m', hm, w7⟩ := hN σ7 H7 n7
   refine ⟨m', hm, i + 1, σ7, H7, I7.unpinned, T.keep _ _ _ st5 fun b hb o e => (I7.pin (b, o) (List.mem_append_right _ (List.mem_append_right _ (Dj hb e)))).1, fun b hb => ?_, w7⟩
   obtain ⟨o, e, d⟩ := T.obj _ _ st5 b hb
   exact (I7.pin (b, o) (List.mem_append_right _ (List.mem_append_right _ (Dj hb e)))).2.1
  cases f with
  | next => obtain ⟨σ7, H7, I7, n7⟩ := q7; exact again I7 n7
  | cont => obtain ⟨σ7, H7, I7, n7⟩ := q7; exact again I7 n7
  | brk => obtain ⟨σ7, H7, I7, q7⟩ := q7; exact ⟨σ7, H7, I7.unpinned, q7⟩
  | ret v => obtain ⟨x7, σ7, H7, I7, r7, q7⟩ := q7; exact ⟨x7, σ7, H7, I7.unpinned, r7, q7⟩
end
abbrev R2 := V -> V -> Hp -> VK -> Prop
def OpR (X : Cx) (f : Value -> Value -> Sem Value) (r : R2) : Prop :=
 ∀ (pins : List (Addr × Obj)) (s : Shared) (σ : St) (H : Hp) (x y : V) (v u : Value) (Q : VK), Inv X pins σ H s -> RelV x v -> RelV y u -> r x y H Q ->
  wpAny (model X.prog X.w) X.A (f v u) (EP X pins σ Q) X.xe s
def UnR (X : Cx) (f : Value -> Sem Value) (r : V -> Hp -> VK -> Prop) : Prop :=
 ∀ (pins : List (Addr × Obj)) (s : Shared) (σ : St) (H : Hp) (x : V) (v : Value) (Q : VK), Inv X pins σ H s -> RelV x v -> r x H Q ->
  wpAny (model X.prog X.w) X.A (f v) (EP X pins σ Q) X.xe s
def Bt (X : Cx) (f : Value) (r : List V -> Hp -> VK -> Prop) : Prop :=
 ∀ (pins : List (Addr × Obj)) (s : Shared) (σ : St) (H : Hp) (xs : List V) (us : List Value) (Q : VK), Inv X pins σ H s -> Vals xs us -> r xs H Q ->
  wpAny (model X.prog X.w) X.A (call f us) (EP X pins σ Q) X.xe s
def TruR (X : Cx) (r : V -> Hp -> (Bool -> Hp -> Prop) -> Prop) : Prop :=
 ∀ (pins : List (Addr × Obj)) (s : Shared) (σ : St) (H : Hp) (x : V) (v : Value) (Q : Bool -> Hp -> Prop), Inv X pins σ H s -> RelV x v -> r x H Q ->
  wpAny (model X.prog X.w) X.A (truthy v) (TP X pins σ Q) X.xe s
def tOp (r : R2) (ta tb : TE) : TE := fun σ H Q => ta σ H fun x H1 => tb σ H1 fun y H2 => r x y H2 Q
def tUn (r : V -> Hp -> VK -> Prop) (ta : TE) : TE := fun σ H Q => ta σ H fun x H1 => r x H1 Q
def rI (C : Int -> Int -> Prop) (g : Int -> Int -> V) : R2 := fun x y H Q => ∃ i j, x = .int i /\ y = .int j /\ C i j /\ Q (g i j) H
def rI0 (g : Int -> Int -> V) : R2 := fun x y H Q => ∃ i j, x = .int i /\ y = .int j /\ Q (g i j) H
def rU (g : Int -> V) : V -> Hp -> VK -> Prop := fun x H Q => ∃ i, x = .int i /\ Q (g i) H
section
variable {X : Cx} {a b c : Expr} {ta tb tc : TE} {pos : Pos}
theorem binT (ha : PE X a ta) (hb : PE X b tb) {pins : List (Addr × Obj)} {s : Shared} {σ : St} {H : Hp} {R : V -> V -> Hp -> Prop} (I : Inv X pins σ H s)
  (h : ta σ H fun x H1 => tb σ H1 fun y H2 => R x y H2) {Q : Value -> Shared -> Prop} {f : Value -> Value -> Sem Value}
  (hf : ∀ v u s2 x y H2, Inv X pins σ H2 s2 -> RelV x v -> RelV y u -> R x y H2 -> wpAny (model X.prog X.w) X.A (f v u) Q X.xe s2) :
  wpAny (model X.prog X.w) X.A (eval a X.env) (fun v s₁ => wpAny (model X.prog X.w) X.A (eval b X.env) (fun u s₂ => wpAny (model X.prog X.w) X.A (f v u) Q X.xe s₂) X.xe s₁) X.xe s := by
 refine thn (ha pins s σ H _ I h) fun v s1 ⟨x, H1, I1, r1, q1⟩ => ?_
 refine thn (hb pins s1 σ H1 _ I1 q1) fun u s2 ⟨y, H2, I2, r2, q2⟩ => ?_
 exact hf v u s2 x y H2 I2 r1 r2 q2
theorem ap3 {op : Operator} {r : R2} (ho : OpR X (binaryOp op) r) (ha : PE X a ta) (hb : PE X b tb) : PE X (.BinOp a op b pos) (tOp r ta tb) := by
 intro pins s σ H Q I h
 exact wpAny_BinOp (binT ha hb I h fun v u s2 x y H2 I2 rx ry q => ho pins s2 σ H2 x y v u Q I2 rx ry q)
theorem Zm {op : UnaryOp} {r : V -> Hp -> VK -> Prop} (ho : UnR X (unaryOp op) r) (ha : PE X a ta) : PE X (.UnaryOp op a pos) (tUn r ta) := by
 intro pins s σ H Q I h
 exact UnaryOp_ (thn (ha pins s σ H _ I h) fun v s1 ⟨x, H1, I1, r1, q1⟩ => ho pins s1 σ H1 x v Q I1 r1 q1)
theorem opI {f : Value -> Value -> Sem Value} {C : Int -> Int -> Prop} {g : Int -> Int -> Int}
  (rule : ∀ (i j : Int) (t u : Tok) (s : Shared) (Q : Value -> Shared -> Prop) (E : Value -> Shared -> Prop), C i j -> Q (.int (g i j) s.toks) { s with toks := s.toks + 1 } -> wpAny (model X.prog X.w) X.A (f (.int i t) (.int j u)) Q E s) :
  OpR X f (rI C fun i j => .int (g i j)) := by
 intro pins s σ H x y v u Q I rx ry h
 obtain ⟨i, j, rfl, rfl, hc, q⟩ := h
 obtain ⟨t, rfl⟩ := rx
 obtain ⟨t', rfl⟩ := ry
 exact rule i j t t' s _ _ hc ⟨.int (g i j), H, I.tok _, ⟨_, rfl⟩, q⟩
theorem opI0 {f : Value -> Value -> Sem Value} {g : Int -> Int -> Int}
  (rule : ∀ (i j : Int) (t u : Tok) (s : Shared) (Q : Value -> Shared -> Prop) (E : Value -> Shared -> Prop), Q (.int (g i j) s.toks) { s with toks := s.toks + 1 } -> wpAny (model X.prog X.w) X.A (f (.int i t) (.int j u)) Q E s) :
  OpR X f (rI0 fun i j => .int (g i j)) := by
 intro pins s σ H x y v u Q I rx ry h
 obtain ⟨i, j, rfl, rfl, q⟩ := h
 obtain ⟨t, rfl⟩ := rx
 obtain ⟨t', rfl⟩ := ry
 exact rule i j t t' s _ _ ⟨.int (g i j), H, I.tok _, ⟨_, rfl⟩, q⟩
theorem opB0 {f : Value -> Value -> Sem Value} {g : Int -> Int -> Bool}
  (rule : ∀ (i j : Int) (t u : Tok) (s : Shared) (Q : Value -> Shared -> Prop) (E : Value -> Shared -> Prop), Q (.bool (g i j)) s -> wpAny (model X.prog X.w) X.A (f (.int i t) (.int j u)) Q E s) :
  OpR X f (rI0 fun i j => .bl (g i j)) := by
 intro pins s σ H x y v u Q I rx ry h
 obtain ⟨i, j, rfl, rfl, q⟩ := h
 obtain ⟨t, rfl⟩ := rx
 obtain ⟨t', rfl⟩ := ry
 exact rule i j t t' s _ _ ⟨.bl (g i j), H, I, rfl, q⟩
def CDiv (i j : Int) : Prop := 0 < j /\ j < 1073741824
def CPow (i j : Int) : Prop := 0 <= j /\ j <= 1000000 /\ i.natAbs < 2 ^ 64
def CMul (i j : Int) : Prop := (-(2 ^ 64) < i /\ i < 2 ^ 64) \/ (-(2 ^ 64) < j /\ j < 2 ^ 64)
theorem CMul.ok {i j : Int} (h : CMul i j) : IntMulOk i j := by
 rcases h with ⟨h1, h2⟩ | ⟨h1, h2⟩
 ·exact .of_left (intBits_le_64 h1 h2)
 ·exact .of_right (intBits_le_64 h1 h2)
theorem Pd (k : Nat) : (0 : Int) <= 2 ^ k := by
 rw [two_pow_cast]
 exact Int.natCast_nonneg _
theorem ab8 : OpR X (binaryOp .Add) (rI0 fun i j => .int (i + j)) := opI0 fun _ _ _ _ _ _ _ q => add_int q
theorem ac7 : OpR X (binaryOp .Sub) (rI0 fun i j => .int (i - j)) := opI0 fun _ _ _ _ _ _ _ q => sub_int q
theorem ac3 : OpR X (binaryOp .Mult) (rI CMul fun i j => .int (i * j)) := opI fun _ _ _ _ _ _ _ hc q => mul_int q hc.ok
theorem Xq : OpR X (binaryOp .FloorDiv) (rI CDiv fun i j => .int (i / j)) := opI fun i j _ _ _ _ _ hc q => by
 have h1 : (0 : Int) < j := hc.1
 have h2 : j < 1073741824 := hc.2
 exact floordiv_int (by omega) (by rw [Int.fdiv_eq_ediv_of_nonneg i (by omega)]; exact q) (.inl (PyProof.noPylong_small (by omega)))
theorem ac2 : OpR X (binaryOp .Mod) (rI (fun _ j => 0 < j) fun i j => .int (i % j)) := opI fun i j _ _ _ _ _ hc q => by
 have h1 : (0 : Int) < j := hc
 exact mod_int' (by omega) (by rw [Int.fmod_eq_emod_of_nonneg i (by omega)]; exact q)
theorem ac5 : OpR X (binaryOp .LShift) (rI CPow fun i j => .int (i * 2 ^ j.toNat)) := opI fun _ _ _ _ _ _ _ hc q => lshift_int_small hc.1 hc.2.1 hc.2.2 q
theorem ac6 : OpR X (binaryOp .RShift) (rI (fun _ j => 0 <= j) fun i j => .int (i / 2 ^ j.toNat)) := opI fun i j _ _ _ _ _ hc q =>
 rshift_int hc (by rw [Int.fdiv_eq_ediv_of_nonneg i (Pd _)]; exact q)
theorem ab9 : OpR X (binaryOp .BitAnd) (rI0 fun i j => .int (Builtin.bitAnd i j)) := opI0 fun _ _ _ _ _ _ _ q => and_int q
theorem ap0 : OpR X (binaryOp .BitOr) (rI0 fun i j => .int (Builtin.bitOr i j)) := opI0 fun _ _ _ _ _ _ _ q => or_int q
theorem unI {f : Value -> Sem Value} {g : Int -> Int}
  (rule : ∀ (i : Int) (t : Tok) (s : Shared) (Q : Value -> Shared -> Prop) (E : Value -> Shared -> Prop), Q (.int (g i) s.toks) { s with toks := s.toks + 1 } -> wpAny (model X.prog X.w) X.A (f (.int i t)) Q E s) :
  UnR X f (rU fun i => .int (g i)) := by
 intro pins s σ H x v Q I rx h
 obtain ⟨i, rfl, q⟩ := h
 obtain ⟨t, rfl⟩ := rx
 exact rule i t s _ _ ⟨.int (g i), H, I.tok _, ⟨_, rfl⟩, q⟩
theorem aj6 : UnR X (unaryOp .USub) (rU fun i => .int (-i)) := unI fun _ _ _ _ _ q => neg_int q
theorem aj5 : UnR X (unaryOp .Invert) (rU fun i => .int (Builtin.bitNot i)) := unI fun _ _ _ _ _ q => invert_int q
end
def scal : V -> V -> Bool
 | .non, .non => true | .non, .int _ => true | .int _, .non => true | .non, .bl _ => true | .bl _, .non => true | .non, .str _ => true | .str _, .non => true
 | .int _, .int _ => true | .bl _, .bl _ => true | .str _, .str _ => true | .byt _, .byt _ => true
 | .int _, .str _ => true | .str _, .int _ => true | .bl _, .str _ => true | .str _, .bl _ => true
 | _, _ => false
def rEq : R2 := fun x y H Q => scal x y = true /\ Q (.bl (decide (x = y))) H
def rNe : R2 := fun x y H Q => scal x y = true /\ Q (.bl (!decide (x = y))) H
theorem Gs {i j : Int} : decide (V.int i = V.int j) = (i == j) := by
 rw [Bool.eq_iff_iff]
 simp
theorem K5 {i j : Bool} : decide (V.bl i = V.bl j) = (i == j) := by
 rw [Bool.eq_iff_iff]
 simp
theorem Gu {i j : Str} : decide (V.str i = V.str j) = (i == j) := by
 rw [Bool.eq_iff_iff]
 simp
theorem Pt {i j : Array UInt8} : decide (V.byt i = V.byt j) = (i.toList == j.toList) := by
 rw [Bool.eq_iff_iff]
 cases i
 cases j
 simp
section
variable {X : Cx} {a b c : Expr} {ta tb tc : TE} {pos : Pos}
theorem An {pins : List (Addr × Obj)} {σ : St} {H : Hp} {s : Shared} {Q : VK} {k k' : Bool} (I : Inv X pins σ H s) (q : Q (.bl k) H) (e : k = k') : EP X pins σ Q (.bool k') s := by
 subst e
 exact ⟨.bl k, H, I, rfl, q⟩
theorem P6 : OpR X (compareOp .Eq) rEq := by
 intro pins s σ H x y v u Q I rx ry h
 obtain ⟨hs, q⟩ := h
 cases x with
 | non =>
  cases rx
  cases y with
  | non => cases ry; exact PySem.EqNone.eq_none_none (An I q (by simp))
  | bl j => cases ry; exact PySem.EqNone.eq_none_bool (An I q (by simp))
  | int j => obtain ⟨t', rfl⟩ := ry; exact PySem.EqNone.eq_none_int (An I q (by simp))
  | str j => obtain ⟨t', rfl⟩ := ry; exact PySem.EqNone.eq_none_str (An I q (by simp))
  | _ => exact absurd (show false = true from hs) Bool.false_ne_true
 | bl i =>
  cases rx
  cases y with
  | non => cases ry; exact PySem.EqNone.eq_bool_none (An I q (by simp))
  | bl j => cases ry; exact eq_bool (An I q K5)
  | str j => obtain ⟨t', rfl⟩ := ry; exact PySem.EqMixed.eq_bool_str (An I q (by simp))
  | _ => exact absurd (show false = true from hs) Bool.false_ne_true
 | int i =>
  obtain ⟨t, rfl⟩ := rx
  cases y with
  | non => cases ry; exact PySem.EqNone.eq_int_none (An I q (by simp))
  | int j => obtain ⟨t', rfl⟩ := ry; exact eq_int (An I q Gs)
  | str j => obtain ⟨t', rfl⟩ := ry; exact PySem.EqMixed.eq_int_str (An I q (by simp))
  | _ => exact absurd (show false = true from hs) Bool.false_ne_true
 | str i =>
  obtain ⟨t, rfl⟩ := rx
  cases y with
  | non => cases ry; exact PySem.EqNone.eq_str_none (An I q (by simp))
  | bl j => cases ry; exact PySem.EqMixed.eq_str_bool (An I q (by simp))
  | int j => obtain ⟨t', rfl⟩ := ry; exact PySem.EqMixed.eq_str_int (An I q (by simp))
  | str j => obtain ⟨t', rfl⟩ := ry; exact eq_str (An I q Gu)
  | _ => exact absurd (show false = true from hs) Bool.false_ne_true
 | byt i =>
  obtain ⟨t, rfl⟩ := rx
  cases y with
  | byt j => obtain ⟨t', rfl⟩ := ry; exact PySem.W.eq_bytes (An I q Pt)
  | _ => exact absurd (show false = true from hs) Bool.false_ne_true
 | _ => cases y <;> exact absurd (show false = true from hs) Bool.false_ne_true
theorem P7 : OpR X (compareOp .NotEq) rNe := by
 intro pins s σ H x y v u Q I rx ry h
 obtain ⟨hs, q⟩ := h
 cases x with
 | non =>
  cases rx
  cases y with
  | non => cases ry; exact PySem.EqNone.ne_none_none (An I q (by simp))
  | bl j => cases ry; exact PySem.EqNone.ne_none_bool (An I q (by simp))
  | int j => obtain ⟨t', rfl⟩ := ry; exact PySem.EqNone.ne_none_int (An I q (by simp))
  | str j => obtain ⟨t', rfl⟩ := ry; exact PySem.EqNone.ne_none_str (An I q (by simp))
  | _ => exact absurd (show false = true from hs) Bool.false_ne_true
 | bl i =>
  cases rx
  cases y with
  | non => cases ry; exact PySem.EqNone.ne_bool_none (An I q (by simp))
  | bl j => cases ry; exact ne_bool (An I q (congrArg not K5))
  | str j => obtain ⟨t', rfl⟩ := ry; exact PySem.EqMixed.ne_bool_str (An I q (by simp))
  | _ => exact absurd (show false = true from hs) Bool.false_ne_true
 | int i =>
  obtain ⟨t, rfl⟩ := rx
  cases y with
  | non => cases ry; exact PySem.EqNone.ne_int_none (An I q (by simp))
  | int j => obtain ⟨t', rfl⟩ := ry; exact ne_int (An I q (congrArg not Gs))
  | str j => obtain ⟨t', rfl⟩ := ry; exact PySem.EqMixed.ne_int_str (An I q (by simp))
  | _ => exact absurd (show false = true from hs) Bool.false_ne_true
 | str i =>
  obtain ⟨t, rfl⟩ := rx
  cases y with
  | non => cases ry; exact PySem.EqNone.ne_str_none (An I q (by simp))
  | bl j => cases ry; exact PySem.EqMixed.ne_str_bool (An I q (by simp))
  | int j => obtain ⟨t', rfl⟩ := ry; exact PySem.EqMixed.ne_str_int (An I q (by simp))
  | str j => obtain ⟨t', rfl⟩ := ry; exact ne_str (An I q (congrArg not Gu))
  | _ => exact absurd (show false = true from hs) Bool.false_ne_true
 | byt i =>
  obtain ⟨t, rfl⟩ := rx
  cases y with
  | byt j => obtain ⟨t', rfl⟩ := ry; exact PySem.W.ne_bytes (An I q (congrArg not Pt))
  | _ => exact absurd (show false = true from hs) Bool.false_ne_true
 | _ => cases y <;> exact absurd (show false = true from hs) Bool.false_ne_true
theorem ao9 : OpR X (compareOp .Lt) (rI0 fun i j => .bl (decide (i < j))) := opB0 fun _ _ _ _ _ _ _ q => lt_int q
theorem ao8 : OpR X (compareOp .LtE) (rI0 fun i j => .bl (decide (i <= j))) := opB0 fun _ _ _ _ _ _ _ q => le_int q
theorem ao7 : OpR X (compareOp .Gt) (rI0 fun i j => .bl (decide (j < i))) := opB0 fun _ _ _ _ _ _ _ q => gt_int q
theorem ao6 : OpR X (compareOp .GtE) (rI0 fun i j => .bl (decide (j <= i))) := opB0 fun _ _ _ _ _ _ _ q => ge_int q
theorem Ry : OpR X (compareOp .Lt) (fun x y H Q => ∃ i j, x = .str i /\ y = .str j /\ Q (.bl (decide (i.cps.toList < j.cps.toList))) H) := by
 intro pins s σ H x y v u Q I rx ry h
 obtain ⟨i, j, rfl, rfl, q⟩ := h
 obtain ⟨t, rfl⟩ := rx
 obtain ⟨t', rfl⟩ := ry
 exact lt_str (An I q rfl)
theorem ac1 : OpR X (compareOp .Is) (fun x y H Q => y = .non /\ Q (.bl (decide (x = .non))) H) := by
 intro pins s σ H x y v u Q I rx ry h
 obtain ⟨rfl, q⟩ := h
 cases ry
 refine is_none_gen (An I q ?_)
 cases x <;> first
  | (cases rx; rfl)
  | (obtain ⟨t, rfl⟩ := rx; rfl)
theorem Xr : OpR X (compareOp .IsNot) (fun x y H Q => y = .non /\ Q (.bl (!decide (x = .non))) H) := by
 intro pins s σ H x y v u Q I rx ry h
 obtain ⟨rfl, q⟩ := h
 cases ry
 refine isnot_none_gen (An I q ?_)
 cases x <;> first
  | (cases rx; rfl)
  | (obtain ⟨t, rfl⟩ := rx; rfl)
theorem OpR.or {f : Value -> Value -> Sem Value} {r r' : R2} (h : OpR X f r) (h' : OpR X f r') : OpR X f (fun x y H Q => r x y H Q \/ r' x y H Q) := by
 intro pins s σ H x y v u Q I rx ry q
 rcases q with q | q
 ·exact h pins s σ H x y v u Q I rx ry q
 ·exact h' pins s σ H x y v u Q I rx ry q
theorem Xu {op : CmpOp} {r : R2} (ho : OpR X (compareOp op) r) (ha : PE X a ta) (hb : PE X b tb) (hm : behindInMarks op b = false) : PE X (.Compare a [op] [b] pos) (tOp r ta tb) := by
 intro pins s σ H Q I h
 exact wpAny_Compare1 (binT ha hb I h fun v u s2 x y H2 I2 rx ry q => ho pins s2 σ H2 x y v u Q I2 rx ry q) hm
def TruV (K : PySem.W.Frag) (x : V) (H : Hp) (k : Bool) : Prop :=
 match x with
 | .non => k = false
 | .bl b => k = b
 | .int i => k = (i != 0)
 | .str y => y.length <= sizeLine /\ k = ((y.length : Int) != 0)
 | .byt y => y.size <= sizeLine /\ k = ((y.size : Int) != 0)
 | .ref p => (∃ xs, SqL K H p xs /\ k = !xs.isEmpty) \/ (∃ xs, SqT K H p xs /\ k = !xs.isEmpty) \/ ∃ kvs, H p = some (.dK kvs) /\ k = !kvs.isEmpty
 | _ => False
theorem N7 {κ : Type} {kvs : List (κ × V)} {vs : List (κ × Value)} (r : KV kvs vs) : (!vs.isEmpty) = !kvs.isEmpty := by
 cases r <;> rfl
theorem Hj {xs : List V} {its : List Value} (r : Vals xs its) : (!its.toArray.isEmpty) = !xs.isEmpty := by
 cases r <;> simp
theorem Ew : (sizeLine : Nat) < 2 ^ 63 := by rw [sizeLine_eq]; decide
theorem Ix : TruR X (fun x H Q => ∃ k, TruV X.K x H k /\ Q k H) := by
 intro pins s σ H x v Q I rx h
 obtain ⟨k, e, q⟩ := h
 have hl := Ew
 have hs : sizeLine = 16777216 := sizeLine_eq
 cases x with
 | non =>
  cases rx
  have e' : k = false := e
  subst e'
  exact truthy_none ⟨H, I, q⟩
 | bl b =>
  cases rx
  have e' : k = b := e
  subst e'
  exact wpAny_truthy_bool ⟨H, I, q⟩
 | int i =>
  obtain ⟨t, rfl⟩ := rx
  have e' : k = (i != 0) := e
  subst e'
  exact PySem.P.truthy_int ⟨H, I, q⟩
 | str y =>
  obtain ⟨t, rfl⟩ := rx
  obtain ⟨hy, e'⟩ : y.length <= sizeLine /\ k = ((y.length : Int) != 0) := e
  subst e'
  exact PySem.P.truthy_str (by omega) ⟨H, I.tok _, q⟩
 | byt y =>
  obtain ⟨t, rfl⟩ := rx
  obtain ⟨hy, e'⟩ : y.size <= sizeLine /\ k = ((y.size : Int) != 0) := e
  subst e'
  exact PySem.W.truthy_bytes (by omega) ⟨H, I.tok _, q⟩
 | ref p =>
  cases rx
  have e' : (∃ xs, SqL X.K H p xs /\ k = !xs.isEmpty) \/ (∃ xs, SqT X.K H p xs /\ k = !xs.isEmpty) \/ ∃ kvs, H p = some (.dK kvs) /\ k = !kvs.isEmpty := e
  rcases e' with ⟨xs, hx, e'⟩ | ⟨xs, hx, e'⟩ | ⟨kvs, hx, e'⟩
  ·subst e'
   obtain ⟨its, r, pl, hz⟩ := I.list hx
   have hlen := r.length
   exact wpAny_truthy_list pl.isList (by simp only [List.size_toArray]; omega) ⟨H, I.tok _, by rw [Hj r]; exact q⟩
  ·subst e'
   obtain ⟨its, r, pl, hz⟩ := I.tuple hx
   have hlen := r.length
   exact truthy_tuple pl (by simp only [List.size_toArray]; omega) ⟨H, I.tok _, by rw [Hj r]; exact q⟩
  ·subst e'
   obtain ⟨hz, hS, vs, r, m⟩ : kvs.length <= sizeLine /\ (p == sysModules) = false /\ ∃ vs, KV kvs vs /\ s.heap.DictOf (Ay X.prog X.w) p vs := I.hok p _ hx
   have hlen : kvs.length = vs.length := Paired.length r
   exact wpAny_truthy_dict hS m (by omega) ⟨H, I.tok _, by rw [N7 r]; exact q⟩
 | _ => exact (show False from e).elim
theorem Om : OpR X (binaryOp .Add) (fun x y H Q => ∃ i j, x = .str i /\ y = .str j /\ i.length + j.length <= sizeLine /\ Q (.str (i ++ j)) H) := by
 intro pins s σ H x y v u Q I rx ry h
 obtain ⟨i, j, rfl, rfl, hz, q⟩ := h
 obtain ⟨t, rfl⟩ := rx
 obtain ⟨t', rfl⟩ := ry
 exact add_str (fun t' tk => ⟨.str (i ++ j), H, I.tok _, ⟨_, rfl⟩, q⟩) hz
theorem Fm {x : V} {us : List Value} (r : Vals [x] us) : ∃ u, us = [u] /\ RelV x u := by
 cases r with
 | cons r1 r2 => cases r2; exact ⟨_, rfl, r1⟩
theorem Wl {x y : V} {us : List Value} (r : Vals [x, y] us) : ∃ u w', us = [u, w'] /\ RelV x u /\ RelV y w' := by
 cases r with
 | cons r1 r2 =>
  cases r2 with
  | cons r3 r4 => cases r4; exact ⟨_, _, rfl, r1, r3⟩
theorem Qy (hc : X.calm = true) : Bt X (.builtin "max") (fun xs H Q => ∃ i j, xs = [.int i, .int j] /\ Q (.int (if j > i then j else i)) H) := by
 intro pins s σ H xs us Q I r h
 obtain ⟨i, j, rfl, q⟩ := h
 obtain ⟨u, w', rfl, ⟨t, rfl⟩, ⟨t', rfl⟩⟩ := Wl r
 refine max_two_ints (I.ok.hd hc) fun h' tk k => ⟨_, H, I.kept k, ?_, q⟩
 by_cases hj : j > i
 ·rw [if_pos hj, if_pos hj]; exact ⟨_, rfl⟩
 ·rw [if_neg hj, if_neg hj]; exact ⟨_, rfl⟩
theorem Q0 (hc : X.calm = true) : Bt X (.builtin "min") (fun xs H Q => ∃ i j, xs = [.int i, .int j] /\ Q (.int (if j < i then j else i)) H) := by
 intro pins s σ H xs us Q I r h
 obtain ⟨i, j, rfl, q⟩ := h
 obtain ⟨u, w', rfl, ⟨t, rfl⟩, ⟨t', rfl⟩⟩ := Wl r
 refine min_two_ints (I.ok.hd hc) fun h' tk k => ⟨_, H, I.kept k, ?_, q⟩
 by_cases hj : j < i
 ·rw [if_pos hj, if_pos hj]; exact ⟨_, rfl⟩
 ·rw [if_neg hj, if_neg hj]; exact ⟨_, rfl⟩
theorem Jp : Bt X (.type "int") (fun xs H Q => (∃ i, xs = [.int i] /\ Q (.int i) H) \/ ∃ k, xs = [.bl k] /\ Q (.int (if k then 1 else 0)) H) := by
 intro pins s σ H xs us Q I r h
 rcases h with ⟨i, rfl, q⟩ | ⟨k, rfl, q⟩
 ·obtain ⟨u, rfl, t, rfl⟩ := Fm r
  exact call_int_int ⟨.int i, H, I, ⟨_, rfl⟩, q⟩
 ·obtain ⟨u, rfl, r1⟩ := Fm r
  cases r1
  exact call_int_bool ⟨.int (if k then 1 else 0), H, I.tok _, ⟨_, rfl⟩, q⟩
end
structure ObjM (h : Heap) (x dx C : Addr) (mA : Str -> Option Value) : Prop where
 obj : h.get? x = some (PySem.W.instObj C dx)
 ns : h.Ns1 dx mA
 ne : dx ≠ x
theorem Kc {h : Heap} {dx : Addr} {mA : Str -> Option Value} (n : h.Ns1 dx mA) : ∃ od, h.get? dx = some od /\ ∀ name, PySem.W.lookIn name od = some (mA name) := by
 obtain ⟨o, es, ep, ho, hd, hk, _, hm⟩ := n
 refine ⟨o, ho, fun name => ?_⟩
 have e := hm name
 unfold nsFind findBy at e
 rw [<- Array.find?_toList] at e
 unfold PySem.W.lookIn
 rw [hd]
 dsimp only
 split
 ·rename_i y q
  rw [q] at e
  exact congrArg some e
 ·rename_i q
  rw [q] at e
  have a : es.toList.any (·.refKey) = false := by
   rw [List.any_eq_false]
   intro y hy
   obtain ⟨z, t, hkey⟩ := hk y (Array.mem_toList_iff.mp hy)
   simp [DictEntry.refKey, hkey]
  have a' : ¬ es.toList.any (·.refKey) = true := by rw [a]; exact Bool.false_ne_true
  rw [if_neg a']
  exact congrArg some e
theorem ObjM.look {h : Heap} {x dx C : Addr} {mA : Str -> Option Value} (I : ObjM h x dx C mA) : ∃ od, PySem.W.InstAt h x (PySem.W.instObj C dx) C (some od) /\ ∀ name, PySem.W.lookIn name od = some (mA name) :=
 let ⟨od, ho, hl⟩ := Kc I.ns
 ⟨od, ⟨I.obj, rfl, rfl, ho⟩, hl⟩
section
variable {prog : Program} {w : World} {A : Around} {E : Value -> Shared -> Prop} {s : Shared} {K : PySem.W.Frag} {x dx C f : Addr} {mA : Str -> Option Value} {name : Str} {v : Value}
theorem Ak {expr : Bool} {Q : Value -> Shared -> Prop} (X : K.In s.heap) (I : ObjM s.heap x dx C mA) (hg : PySem.W.plainGet K C name = true) (hh : PySem.W.hasDictIn K C = true)
  (ha : PySem.W.findIn K (.ref C) name = some none) (hv : mA name = some v) (hv' : PySem.W.handedIn v = true) (h : Q v { s with toks := s.toks + 1 }) :
  wpAny (model prog w) A (getAttr (.ref x) name expr) Q E s := by
 obtain ⟨od, J, hl⟩ := I.look
 exact PySem.W.get_value X J (PySem.W.plainGet_of hg).1 (PySem.W.findObj_own hh ha rfl (by rw [hl, hv])) hv' h
theorem Uc {pl : Sem Bool} {Q : Value × List Value -> Shared -> Prop} (X : K.In s.heap) (I : ObjM s.heap x dx C mA) (hg : PySem.W.plainGet K C name = true)
  (hf : PySem.W.findIn K (.ref C) name = some (some (.ref f))) (ht : PySem.W.isFn K (.ref f) = true) (hv : mA name = none) (h : Q (.ref f, [.ref x]) s) :
  wpAny (model prog w) A (getMethod (.ref x) name pl) Q E s := by
 obtain ⟨od, J, hl⟩ := I.look
 exact PySem.W.method_fn X J (PySem.W.plainGet_of hg).1 (PySem.W.plainGet_of hg).2 hf (beq_iff_eq.mp ht) (by show (PySem.W.lookIn name od).map (·.isSome) = some false; rw [hl, hv]; rfl) h
theorem Yt {ns : List Str} {Q : Unit -> Shared -> Prop} (X : K.In s.heap) (I : ObjM s.heap x dx C mA)
  (hs : PySem.W.findIn K (.ref C) "__setattr__" = some (some (.builtin "object.__setattr__"))) (hp : PySem.W.plainOver K C = true) (ht : PySem.W.takerIn K C name = some none) (hh : PySem.W.hasDictIn K C = true)
  (hw : PySem.Within mA ns) (hsz : ns.length <= sizeLine)
  (h : ∀ h', ObjM h' x dx C (fun y => if y = name then some v else mA y) -> Heap.SameBut dx s.heap h' -> Q () { s with heap := h', toks := s.toks + 2 }) :
  wpAny (model prog w) A (setAttr (.ref x) name v) Q E s := by
 obtain ⟨od, J, hl⟩ := I.look
 refine PySem.W.set_plain X J hs (PySem.W.osa_open (s := { s with toks := s.toks + 1 }) (r := none) X J hp ht fun b => ?_)
 obtain ⟨cd, hc, hd'⟩ := PySem.W.any_some hh
 have hx : s.heap.get? x = some ⟨.ref C, some dx, .plain, #[]⟩ := I.obj
 refine wpAny_bind (wpAny_pure (wpAny_bind (wpAny_bind (wpAny_loadPart hx (wpAny_bind (PySem.W.Looks.here (s := { s with toks := s.toks + 1 }) (PySem.W.looks_clsIn X hc) ?_))))))
 rw [hd']
 refine wpAny_pure (a := some dx) (wpAny_bind (wpAny_pure (wpAny_bind ?_)))
 refine wpAny_nsSet1 (s := { s with toks := s.toks + 1 }) I.ns fun h' hn2 hs2 => ?_
 obtain ⟨oD, esD, epD, hoD, hdD, hcD⟩ := hn2.count (PySem.Within.cons name v hw)
 refine wpAny_bind (wpAny_lookBehind hoD (by rw [hdD]; exact pastItsLine_dict (Nat.le_trans hcD (by rw [List.length_cons]; omega))) ?_)
 exact wpAny_pure (h _ ⟨(hs2.2 _ (Ne.symm I.ne)).trans I.obj, hn2, I.ne⟩ hs2)
theorem Ul {R : Result -> Shared -> Prop} {vs : List Value} {kw : List (Str × Value)} (X : K.In s.heap) (hm : PySem.W.makesIn K C = true)
  (hi : PySem.W.findIn K (.ref C) "__init__" = some (some (.ref f))) (hf : PySem.W.typeIn K (.ref f) = some (.type "function"))
  (h : codeAny (model prog w) (A.under (.builtin "type.__call__" ⟨.ref C :: vs, kw⟩)) (.call (.ref f) ⟨.ref (s.heap.objs.size + 1) :: vs, kw⟩) (PySem.W.InitBack (s.heap.objs.size + 1) R)
   {s with heap := (s.heap.push PySem.W.emptyDict).push (PySem.W.instObj C s.heap.objs.size) }) :
  codeAny (model prog w) A (.call (.ref C) ⟨vs, kw⟩) R s := by
 obtain ⟨hh, g, d, t, os⟩ := s
 exact PySem.W.make_core (PySem.W.makes_of X hm) (PySem.W.looks_findIn X hi) (fun self => PySem.W.bind_fn X self hf) (.inl rfl) h
theorem Rn {R : Result -> Shared -> Prop} (X : K.In s.heap) (hm : PySem.W.makesIn K C = true)
  (hi : PySem.W.findIn K (.ref C) "__init__" = some (some (.builtin "object.__init__")))
  (hb : ∀ self, PySem.W.Looks (model prog w) s.heap (bindSpecial (.builtin "object.__init__") self) (.builtin "object.__init__", [self]))
  (h : codeAny (model prog w) (A.under (.builtin "type.__call__" ⟨[.ref C], []⟩)) (.call (.builtin "object.__init__") ⟨[.ref (s.heap.objs.size + 1)], []⟩) (PySem.W.InitBack (s.heap.objs.size + 1) R)
   {s with heap := (s.heap.push PySem.W.emptyDict).push (PySem.W.instObj C s.heap.objs.size) }) :
  codeAny (model prog w) A (.call (.ref C) ⟨[], []⟩) R s := by
 obtain ⟨hh, g, d, t, os⟩ := s
 exact PySem.W.make_core (PySem.W.makes_of X hm) (PySem.W.looks_findIn X hi) hb (.inr ⟨rfl, rfl⟩) h
end
def putF (f : Str) (v : V) : List (Str × V) -> List (Str × V)
 | [] => [(f, v)]
 | (g, x) :: r => if g = f then (g, v) :: r else (g, x) :: putF f v r
theorem Gh (f g : Str) (v : V) : ∀ fs : List (Str × V), (putF f v fs).lookup g = if g = f then some v else fs.lookup g
 | [] => by
  show List.lookup g [(f, v)] = _
  by_cases h : g = f
  ·have hb : (g == f) = true := beq_iff_eq.mpr h
   simp only [List.lookup, hb, if_pos h]
  ·have hb : (g == f) = false := beq_eq_false_iff_ne.mpr h
   simp only [List.lookup, hb, if_neg h]
 | (k, x) :: r => by
  have ih := Gh f g v r
  rw [show putF f v ((k, x) :: r) = (if k = f then (k, v) :: r else (k, x) :: putF f v r) from rfl]
  by_cases hk : k = f
  ·rw [if_pos hk]
   by_cases h : g = k
   ·have hb : (g == k) = true := beq_iff_eq.mpr h
    simp only [List.lookup, hb, if_pos (h.trans hk)]
   ·have hb : (g == k) = false := beq_eq_false_iff_ne.mpr h
    simp only [List.lookup, hb, if_neg (fun e : g = f => h (e.trans hk.symm))]
  ·rw [if_neg hk]
   by_cases h : g = k
   ·have hb : (g == k) = true := beq_iff_eq.mpr h
    simp only [List.lookup, hb, if_neg (fun e : g = f => hk (h.symm.trans e))]
   ·have hb : (g == k) = false := beq_eq_false_iff_ne.mpr h
    simp only [List.lookup, hb]
    exact ih
theorem Fs (f : Str) (v : V) : ∀ fs : List (Str × V), f ∈ (putF f v fs).map (·.1) /\ ∀ g, g ∈ fs.map (·.1) -> g ∈ (putF f v fs).map (·.1)
 | [] => ⟨by simp [putF], fun g h => by simp at h⟩
 | (k, x) :: r => by
  obtain ⟨i1, i2⟩ := Fs f v r
  rw [show putF f v ((k, x) :: r) = (if k = f then (k, v) :: r else (k, x) :: putF f v r) from rfl]
  by_cases hk : k = f
  ·rw [if_pos hk]
   subst hk
   exact ⟨by simp, fun g h => by simpa using h⟩
  ·rw [if_neg hk]
   refine ⟨?_, fun g h => ?_⟩
   ·rw [List.map_cons]
    exact List.mem_cons_of_mem _ i1
   ·rw [List.map_cons] at h ⊢
    rcases List.mem_cons.mp h with e | e
    ·exact List.mem_cons.mpr (.inl e)
    ·exact List.mem_cons_of_mem _ (i2 g e)
theorem Gg (f : Str) (v : V) : ∀ fs : List (Str × V), (putF f v fs).length <= fs.length + 1
 | [] => by simp [putF]
 | (k, x) :: r => by
  have ih := Gg f v r
  rw [show putF f v ((k, x) :: r) = (if k = f then (k, v) :: r else (k, x) :: putF f v r) from rfl]
  by_cases hk : k = f
  ·rw [if_pos hk, List.length_cons, List.length_cons]; omega
  ·rw [if_neg hk, List.length_cons, List.length_cons]; omega
theorem RelO.some_of {v : V} {o : Option Value} (r : RelO (some v) o) : ∃ u, o = some u /\ RelV v u := by
 cases o with
 | none => exact (show False from r).elim
 | some u => exact ⟨u, rfl, r⟩
theorem RelO.none_of {o : Option Value} (r : RelO none o) : o = none := by
 cases o with
 | none => rfl
 | some u => exact (show False from r).elim
theorem Rf {v : V} {u : Value} (r : RelV v u) : PySem.W.handedIn u = true := by
 cases v with
 | non => cases (show u = Value.none from r); rfl
 | bl b => cases (show u = Value.bool b from r); rfl
 | int i => obtain ⟨t, e⟩ := (show ∃ t, u = Value.int i t from r); cases e; rfl
 | str x => obtain ⟨t, e⟩ := (show ∃ t, u = Value.str x t from r); cases e; rfl
 | byt b => obtain ⟨t, e⟩ := (show ∃ t, u = Value.bytes b t from r); cases e; rfl
 | flt b => obtain ⟨t, e⟩ := (show ∃ t, u = Value.float b t from r); cases e; rfl
 | ref a => cases (show u = Value.ref a from r); rfl
 | ty n => cases (show u = Value.type n from r); rfl
section
variable {P : Program} {w : World} {H H' : Hp} {h h' : Heap} {a C dx : Addr} {fs fs' : List (Str × V)}
theorem Gx (hok : HOk P w H h) (e : H a = some (.ins C dx fs)) : ∃ mA, ObjM h a dx C mA /\ (∀ f, RelO (fs.lookup f) (mA f)) /\ PySem.Within mA (fs.map (·.1)) /\ fs.length <= 1000 /\ H dx = some (.own a) := by
 obtain ⟨d, z, ne, ob, mA, n, r, q⟩ := (show ObjOk P w H h a (.ins C dx fs) from hok a _ e)
 exact ⟨mA, ⟨ob, n, ne⟩, r, q, z, d⟩
end
structure Cls (K : PySem.W.Frag) (C : Addr) : Prop where
 pg : PySem.W.plainGet K C Str.empty = true
 hd : PySem.W.hasDictIn K C = true
 po : PySem.W.plainOver K C = true
 sa : PySem.W.findIn K (.ref C) "__setattr__" = some (some (.builtin "object.__setattr__"))
theorem Cls.get {K : PySem.W.Frag} {C : Addr} (c : Cls K C) (f : Str) : PySem.W.plainGet K C f = true := c.pg
def NoAttr (K : PySem.W.Frag) (C : Addr) (f : Str) : Prop := PySem.W.findIn K (.ref C) f = some none
theorem NoAttr.taker {K : PySem.W.Frag} {C : Addr} {f : Str} (n : NoAttr K C f) : PySem.W.takerIn K C f = some none := by
 unfold PySem.W.takerIn
 rw [show PySem.W.findIn K (.ref C) f = some none from n]
 rfl
structure Meth (K : PySem.W.Frag) (C : Addr) (m : Str) (f : Addr) : Prop where
 at_ : PySem.W.findIn K (.ref C) m = some (some (.ref f))
 fn : PySem.W.isFn K (.ref f) = true
 kp : PySem.W.keepIn K (.ref f) = true
section
variable {X : Cx} {pins : List (Addr × Obj)} {σ : St} {H : Hp} {s : Shared} {a C dx : Addr} {fs : List (Str × V)} {f : Str} {v : V} {A : Around} {E : Value -> Shared -> Prop}
theorem N3 {b : Bool} {Q : Value -> Shared -> Prop} (I : Inv X pins σ H s) (e : H a = some (.ins C dx fs)) (c : Cls X.K C) (n : NoAttr X.K C f) (l : fs.lookup f = some v)
  (h : ∀ u s', Inv X pins σ H s' -> RelV v u -> Q u s') : wpAny (model X.prog X.w) A (getAttr (.ref a) f b) Q E s := by
 obtain ⟨mA, O, r, _, _, _⟩ := Gx I.hok e
 obtain ⟨u, hu, ru⟩ := RelO.some_of (v := v) (o := mA f) (by rw [<- l]; exact r f)
 exact Ak I.kIn O (c.get f) c.hd n hu (Rf ru) (h u _ (I.tok _) ru)
theorem Hg {m : Str} {g : Addr} {pl : Sem Bool} {Q : Value × List Value -> Shared -> Prop} (I : Inv X pins σ H s) (e : H a = some (.ins C dx fs)) (c : Cls X.K C) (k : Meth X.K C m g) (l : fs.lookup m = none)
  (h : Q (.ref g, [.ref a]) s) : wpAny (model X.prog X.w) A (getMethod (.ref a) m pl) Q E s := by
 obtain ⟨mA, O, r, _, _, _⟩ := Gx I.hok e
 have hn : mA m = none := RelO.none_of (by rw [<- l]; exact r m)
 exact Uc I.kIn O (c.get m) k.at_ k.fn hn h
theorem Ou {y : V} {u : Value} {Q : Unit -> Shared -> Prop} (I : Inv X pins σ H s) (e : H a = some (.ins C dx fs)) (c : Cls X.K C) (n : NoAttr X.K C f) (hl : fs.length < 1000) (ry : RelV y u)
  (h : ∀ s', Inv X pins σ (upd H a (.ins C dx (putF f y fs))) s' -> Q () s') : wpAny (model X.prog X.w) A (setAttr (.ref a) f u) Q E s := by
 obtain ⟨mA, O, r, wi, _, ho⟩ := Gx I.hok e
 have hz : (fs.map (·.1)).length <= sizeLine := by rw [List.length_map, sizeLine_eq]; omega
 refine Yt I.kIn O c.sa c.po n.taker c.hd wi hz fun h' O' sb => h _ ?_
 have hd : ∃ o, h'.get? dx = some o := let ⟨o, _, _, e', _⟩ := O'.ns; ⟨o, e'⟩
 refine I.write (x := a) (e := dx) (by rw [e]; exact True.intro) (.inr ho) (fun b q hb z => (sb.2 b hb).trans z) hd ?_
 refine ⟨by rw [Af O.ne]; exact ho, ?_, O.ne, O'.obj, _, O'.ns, fun g => ?_, fun g hg => ?_⟩
 ·have := Gg f y fs; omega
 ·show RelO ((putF f y fs).lookup g) (if g = f then some u else mA g)
  rw [Gh]
  by_cases q : g = f
  ·rw [if_pos q, if_pos q]; exact ry
  ·rw [if_neg q, if_neg q]; exact r g
 ·by_cases q : g = f
  ·rw [q]; exact (Fs f y fs).1
  ·refine (Fs f y fs).2 g (wi g fun z => hg ?_)
   show (if g = f then some u else mA g) = none
   rw [if_neg q]; exact z
theorem Inv.made (I : Inv X pins σ H s) : Inv X pins σ (upd (upd H s.heap.objs.size (.own (s.heap.objs.size + 1))) (s.heap.objs.size + 1) (.ins C s.heap.objs.size []))
  {s with heap := (s.heap.push PySem.W.emptyDict).push (PySem.W.instObj C s.heap.objs.size) } := by
 have e1 : (s.heap.push PySem.W.emptyDict).get? s.heap.objs.size = some PySem.W.emptyDict := Heap.get?_push_size s.heap rfl
 have e2 : ((s.heap.push PySem.W.emptyDict).push (PySem.W.instObj C s.heap.objs.size)).get? (s.heap.objs.size + 1) = some (PySem.W.instObj C s.heap.objs.size) := by
  have := Heap.get?_push_size (s.heap.push PySem.W.emptyDict) (o := PySem.W.instObj C s.heap.objs.size) rfl
  rwa [Heap.size_push] at this
 have e3 : (s.heap.push PySem.W.emptyDict).Ns s.heap.objs.size (fun _ => none) := ⟨PySem.W.emptyDict, #[], _, e1, rfl, (fun e he => absurd he (by simp)), fun _ => rfl⟩
 have I1 := I.laid (a := s.heap.objs.size) (o := .own (s.heap.objs.size + 1)) (h' := s.heap.push PySem.W.emptyDict) (t' := s.toks) (fun b u q => Heap.get?_push_of_some _ q) (Nat.le_refl _) ⟨_, e1⟩
 refine I1.laid (a := s.heap.objs.size + 1) (o := .ins C s.heap.objs.size []) (t' := s.toks) (fun b u q => Heap.get?_push_of_some _ q) (Nat.le_of_eq (Heap.size_push _ _)) ?_
 have ne : s.heap.objs.size ≠ s.heap.objs.size + 1 := Nat.ne_of_lt (Nat.lt_succ_self _)
 refine ⟨by rw [Af ne, Ac], Nat.zero_le _, ne, e2, fun _ => none, (Heap.Ns1.of_empty e3).at fun o q => Heap.get?_push_of_some _ q, fun _ => True.intro, fun y hy => absurd rfl hy⟩
theorem Wv {prog : Program} {w : World} {env : Env} {e : Expr} {f : Str} {pos : Pos} {s : Shared} {Q : Value -> Shared -> Prop} (hb : attributeBase e f env (eval e env) = eval e env)
  (h : wpAny (model prog w) A (eval e env) (fun o s₁ => wpAny (model prog w) A (getAttr o f true) Q E s₁) E s) : wpAny (model prog w) A (eval (.Attribute e f pos) env) Q E s :=
 Attribute_any_ h (by rw [arm_eval_Attribute, hb])
end
section
variable {X : Cx} {o e value : Expr} {f : Str} {pos pos' tpos : Pos} {ta tv : TE}
end
section
variable {X : Cx} {pins : List (Addr × Obj)} {σ : St} {H : Hp} {s : Shared} {A : Around} {E : Value -> Shared -> Prop} {Q : Value -> Shared -> Prop} {c : Value} {b : Bool}
inductive TyOf (K : PySem.W.Frag) (H : Hp) : V -> Value -> Prop where
 | non : TyOf K H .non (.type "NoneType")
 | bl (x : Bool) : TyOf K H (.bl x) (.type "bool")
 | int (i : Int) : TyOf K H (.int i) (.type "int")
 | str (x : Str) : TyOf K H (.str x) (.type "str")
 | flt (x : UInt64) : TyOf K H (.flt x) (.type "float")
 | lst {a : Addr} {xs : List V} (e : H a = some (.lst xs)) : TyOf K H (.ref a) (.type "list")
 | frz {a : Addr} {o : Obj} {xs : List V} (e : H a = some (.frz o (.lst xs))) : TyOf K H (.ref a) (.type "list")
 | tup {a : Addr} {xs : List V} (e : H a = some (.tup xs)) : TyOf K H (.ref a) (.type "tuple")
 | dK {a : Addr} {kvs : List (Key × V)} (e : H a = some (.dK kvs)) : TyOf K H (.ref a) (.type "dict")
 | dT {a : Addr} {kvs : List (List Key × V)} (e : H a = some (.dT kvs)) : TyOf K H (.ref a) (.type "dict")
 | ins {a C dx : Addr} {fs : List (Str × V)} (e : H a = some (.ins C dx fs)) (cl : Cls K C) (ha : PySem.W.findIn K (.ref C) "__class__" = some (some (.builtin "object.__class__")))
   (hn : PySem.W.specialIn K (.builtin "object.__class__") "__get__" = some (some (.builtin "getset_descriptor.__get__"))) (htk : PySem.W.takesIn K (.builtin "object.__class__") = some true)
   (hm : PySem.W.mroIn K C (.type "object") = some true) : TyOf K H (.ref a) (.ref C)
theorem J6 {x : V} {u t : Value} (I : Inv X pins σ H s) (rx : RelV x u) (ty : TyOf X.K H x t) (e : PySem.W.kitOne X.K t c = some b) (h : ∀ tk, Q (.bool b) { s with toks := tk }) :
  wpAny (model X.prog X.w) A (call (.builtin "isinstance") [u, c]) Q E s := by
 cases ty with
 | non => cases (show u = Value.none from rx); exact PySem.W.kia_one PySem.W.kitx_none I.kIn True.intro e (fun z => nomatch z) h
 | bl y => cases (show u = Value.bool y from rx); exact PySem.W.kia_one PySem.W.kitx_bool I.kIn True.intro e (fun z => nomatch z) h
 | int i => obtain ⟨t, q⟩ := (show ∃ t, u = Value.int i t from rx); cases q; exact PySem.W.kia_one PySem.W.kitx_int I.kIn True.intro e (fun z => nomatch z) h
 | str y => obtain ⟨t, q⟩ := (show ∃ t, u = Value.str y t from rx); cases q; exact PySem.W.kia_one PySem.W.kitx_str I.kIn True.intro e (fun z => nomatch z) h
 | flt y => obtain ⟨t, q⟩ := (show ∃ t, u = Value.float y t from rx); cases q; exact PySem.W.kia_one PySem.W.kitx_float I.kIn True.intro e (fun z => nomatch z) h
 | @lst a xs ea =>
  cases (show u = Value.ref a from rx)
  obtain ⟨_, _, n, _, h1⟩ := (show ObjOk X.prog X.w H s.heap a (.lst xs) from I.hok a _ ea)
  exact PySem.W.kia_one PySem.W.kitx_list I.kIn ⟨_, h1, rfl⟩ e (fun z => nomatch z) h
 | @frz a ob xs ea =>
  cases (show u = Value.ref a from rx)
  obtain ⟨_, _, _, n, _, h1⟩ := (show ObjOk X.prog X.w H s.heap a (.frz ob (.lst xs)) from I.hok a _ ea)
  exact PySem.W.kia_one PySem.W.kitx_list I.kIn ⟨_, h1, rfl⟩ e (fun z => nomatch z) h
 | @tup a xs ea =>
  cases (show u = Value.ref a from rx)
  obtain ⟨_, _, _, p⟩ := (show ObjOk X.prog X.w H s.heap a (.tup xs) from I.hok a _ ea)
  obtain ⟨o, h1, h2, _⟩ := p
  exact PySem.W.kia_one PySem.W.kitx_tuple I.kIn ⟨o, h1, h2⟩ e (fun z => nomatch z) h
 | @dK a kvs ea =>
  cases (show u = Value.ref a from rx)
  obtain ⟨_, _, vs, _, p⟩ := (show ObjOk X.prog X.w H s.heap a (.dK kvs) from I.hok a _ ea)
  obtain ⟨o, es, ep, h1, h2, _⟩ := p
  exact PySem.W.kia_one PySem.W.kitx_dict I.kIn ⟨o, h1, h2.1⟩ e (fun z => nomatch z) h
 | @dT a kvs ea =>
  cases (show u = Value.ref a from rx)
  obtain ⟨_, _, xs, _, o, es, ep, h1, h2, _⟩ := (show ObjOk X.prog X.w H s.heap a (.dT kvs) from I.hok a _ ea)
  exact PySem.W.kia_one PySem.W.kitx_dict I.kIn ⟨o, h1, h2.1⟩ e (fun z => nomatch z) h
 | @ins a C dx fs ea cl ha hn htk hm =>
  cases (show u = Value.ref a from rx)
  obtain ⟨mA, O, _⟩ := Gx I.hok ea
  obtain ⟨od, J, _⟩ := O.look
  exact PySem.W.kia_one (PySem.W.kitx_own (cl.get _) cl.hd ha hn htk hm) I.kIn J e (fun z => nomatch z) h
end
structure Room (k : Nat) (A : Around) : Prop where
 hd : A.handled = none
 dp : A.depth + 3 * k + 5 < recursionLimit
 un : A.units + 16 * k + 200 < cLine
theorem Room.mono {j k : Nat} {A : Around} (r : Room k A) (h : j <= k) : Room j A := ⟨r.hd, by have := r.dp; omega, by have := r.un; omega⟩
theorem Room.deeper {k : Nat} {A : Around} (r : Room (k + 1) A) (env : Env) : Room k (A.deeper env) :=
 ⟨r.hd, by have := r.dp; show A.depth + 1 + 3 * k + 5 < _; omega, by have := r.un; show A.units + 3 + 16 * k + 200 < _; omega⟩
theorem Od {A : Around} {C : Addr} {us : List Value} {kw : List (Str × Value)} : (A.under (.builtin "type.__call__" ⟨.ref C :: us, kw⟩)).depth = A.depth + 1 := by
 first | rfl | simp [Around.under, Code.weight, Code.isCreation, Code.isGuard, Code.isCaller, Code.frames, Code.isFrame, guardIds]
theorem Oe {A : Around} {C : Addr} {us : List Value} {kw : List (Str × Value)} : (A.under (.builtin "type.__call__" ⟨.ref C :: us, kw⟩)).units = A.units + 1 := by
 first | rfl | simp [Around.under, Code.cUnits, Code.frames, Code.isFrame]
theorem Room.make {k : Nat} {A : Around} (r : Room (k + 1) A) (C : Addr) (us : List Value) (kw : List (Str × Value)) : Room k (A.under (.builtin "type.__call__" ⟨.ref C :: us, kw⟩)) :=
 ⟨r.hd, by have := r.dp; rw [Od]; omega, by have := r.un; rw [Oe]; omega⟩
theorem Room.depth {k : Nat} {A : Around} (r : Room k A) : A.depth < recursionLimit := by have := r.dp; omega
theorem Room.units {k : Nat} {A : Around} (r : Room k A) : A.units + 64 < cLine := by have := r.un; omega
def tNil : TA := fun _ H Q => Q [] H
def aw3 (ta : TE) (tr : TA) : TA := fun σ H Q => ta σ H fun x H1 => tr σ H1 fun xs H2 => Q (x :: xs) H2
section
variable {X : Cx} {e : Expr} {es : List Expr} {te : TE} {t : TA} {pos : Pos}
theorem ac8 : PA X [] tNil := fun _ _ _ _ H Q I h => Calls.spliced_nil ⟨[], H, I, .nil, h⟩
theorem Xs (ha : PE X e te) (hr : PA X es t) (hs : starEach (e :: es) X.env = (false, eval e X.env) :: starEach es X.env := by rfl) : PA X (e :: es) (aw3 te t) := by
 intro pos pins s σ H Q I h
 rw [hs]
 show wpAny _ _ (spliced ((false, eval e X.env) :: backTo pos (starEach es X.env))) _ _ s
 refine Calls.spliced_cons (thn (ha pins s σ H _ I h) fun u s1 ⟨x, H1, I1, r1, q1⟩ => ?_)
 exact thn (hr pos pins s1 σ H1 _ I1 q1) fun us s2 ⟨xs, H2, I2, r2, q2⟩ => ⟨x :: xs, H2, I2, .cons r1 r2, q2⟩
def tTup (t : TA) : TE := fun σ H Q => t σ H fun xs H1 => xs.length <= sizeLine /\ ∀ p, H1 p = none -> Q (.ref p) (upd H1 p (.tup xs))
def tLst (t : TA) : TE := fun σ H Q => t σ H fun xs H1 => xs.length <= sizeLine /\ ∀ p, H1 p = none -> Q (.ref p) (upd H1 p (.lst xs))
theorem ad4 {x1} (h : PA X es t) : PE X (.Tuple es x1 pos) (tTup t) := by
 intro pins s σ H Q I hq
 refine wpAny_Tuple_spliced (thn (h pos pins s σ H _ I hq) fun us s1 ⟨xs, H1, I1, r, z, q⟩ => ⟨by rw [<- r.length]; exact z, ?_⟩)
 have hf : H1 s1.heap.objs.size = none := I1.hok.fresh (Nat.le_refl _)
 refine ⟨.ref s1.heap.objs.size, upd H1 s1.heap.objs.size (.tup xs), I1.laid (t' := s1.toks) (fun b u e => Heap.get?_push_of_some _ e) (Nat.le_refl _) ?_, rfl, q _ hf⟩
 exact ⟨z, us, r, ⟨_, Heap.get?_push_size _ rfl, rfl, _, rfl⟩⟩
theorem ad0 (h : PA X es t) : PE X (.List es pos) (tLst t) := by
 intro pins s σ H Q I hq
 refine wpAny_List_spliced (thn (h pos pins s σ H _ I hq) fun us s1 ⟨xs, H1, I1, r, z, q⟩ => ⟨by rw [<- r.length]; exact z, ?_⟩)
 have hf : H1 s1.heap.objs.size = none := I1.hok.fresh (Nat.le_refl _)
 refine ⟨.ref s1.heap.objs.size, upd H1 s1.heap.objs.size (.lst xs), I1.laid (t' := s1.toks) (fun b u e => Heap.get?_push_of_some _ e) (Nat.le_refl _) ?_, rfl, q _ hf⟩
 exact ⟨z, us, 0, r, Heap.get?_push_size _ rfl⟩
end
abbrev Sp := List V -> Hp -> VK -> XK -> Prop
abbrev CXT := List Env -> Hp -> Shared -> XK -> Value -> Shared -> Prop
structure Env0 (P : Program) (w : World) (K : PySem.W.Frag) (mg : Str -> Option Value) (base : Heap) (A : Around) (outer : List Env) (s : Shared) (H : Hp) : Prop where
 frames : A.frames = some outer
 mod : Mod K mg base
 bs : ∀ b o, base.get? b = some o -> s.heap.get? b = some o /\ H b = none
 bsz : base.objs.size <= s.heap.objs.size
 funs : s.heap.FunFrames base outer
 frf : ∀ b ∈ frs outer, H b = none
 hok : HOk P w H s.heap
 bare : AllBare s.gens
def CE (outer : List Env) (P : Program) (w : World) (H : Hp) (s : Shared) (Q : VK) (u : Value) (s' : Shared) : Prop :=
 ∃ v H', s'.os = s.os /\ AllBare s'.gens /\ Un (frs outer) [] H H' s.heap s'.heap /\ HOk P w H' s'.heap /\ RelV v u /\ Q v H'
def CR (CX : CXT) (outer : List Env) (P : Program) (w : World) (H : Hp) (s : Shared) (Q : VK) (E : XK) (r : Result) (s' : Shared) : Prop :=
 match r with
 | .ok (.ret u) => CE outer P w H s Q u s'
 | .ok _ => False
 | .error e => CX outer H s E e s'
structure FnOk (P : Program) (w : World) (K : PySem.W.Frag) (mg : Str -> Option Value) (base : Heap) (CX : CXT) (k : Nat) (f : Addr) (fd : FuncData) (ps : List Str) (sp : Sp) : Prop where
 len : ∀ vs H Q E, sp vs H Q E -> vs.length = ps.length
 run : ∀ (A : Around) (outer : List Env) (s : Shared) (H : Hp) (args : Args) (us : List Value) (vs : List V) (Q : VK) (E : XK), Room k A -> Env0 P w K mg base A outer s H -> BindsTo s fd args (ps.zip us) -> Vals vs us -> sp vs H Q E ->
  codeAny (model P w) A (.call (.ref f) args) (CR CX outer P w H s Q E) s
theorem FnOk.imp {P : Program} {w : World} {K : PySem.W.Frag} {mg : Str -> Option Value} {base : Heap} {CX : CXT} {k : Nat} {f : Addr} {fd : FuncData} {ps : List Str} {sp sp' : Sp} (F : FnOk P w K mg base CX k f fd ps sp)
  (h : ∀ vs H Q E, sp' vs H Q E -> sp vs H Q E) : FnOk P w K mg base CX k f fd ps sp' :=
 ⟨fun vs H Q E q => F.len vs H Q E (h _ _ _ _ q), fun A outer s H args us vs Q E hr he hb hv hs => F.run A outer s H args us vs Q E hr he hb hv (h _ _ _ _ hs)⟩
theorem Env0.make {P : Program} {w : World} {K : PySem.W.Frag} {mg : Str -> Option Value} {base : Heap} {A : Around} {outer : List Env} {s : Shared} {H : Hp} (e : Env0 P w K mg base A outer s H) (C : Addr) (us : List Value) (kw : List (Str × Value)) :
  Env0 P w K mg base (A.under (.builtin "type.__call__" ⟨.ref C :: us, kw⟩)) outer s H := ⟨by first | exact e.frames | (simpa [Around.under, Code.envs, Code.isFrame, pushEnvs] using e.frames), e.mod, e.bs, e.bsz, e.funs, e.frf, e.hok, e.bare⟩
section
variable {X : Cx} {pins : List (Addr × Obj)} {σ : St} {H : Hp} {s s' : Shared}
theorem Inv.env0 (I : Inv X pins σ H s) : Env0 X.prog X.w X.K X.mg X.base X.A X.stack s H :=
 ⟨I.ok.frames, I.ok.mod, I.bs, Nat.le_trans I.ok.bsz I.sz, I.stack, I.stkFree, I.hok, I.bare⟩
theorem Inv.after {Q : VK} {u : Value} (I : Inv X pins σ H s) (h : CE X.stack X.prog X.w H s Q u s') : EP X pins σ Q u s' := by
 obtain ⟨v, H', os, bare, un, hok, r, q⟩ := h
 obtain ⟨hh, g, d, t, os'⟩ := s'
 obtain rfl : os' = s.os := os
 exact ⟨v, H', I.call (h' := hh) (g' := g) (d' := d) (t' := t) (ch := []) un hok bare (fun b z => absurd z (by simp)), r, q⟩
end
def Binds (K : PySem.W.Frag) (fd : FuncData) (ps : List Str) (ds : List Value) : Prop :=
 ∀ (s : Shared) (us : List Value), K.In s.heap -> (us ++ ds).length = ps.length -> BindsTo s fd ⟨us, []⟩ (ps.zip (us ++ ds))
theorem Binds.all {K : PySem.W.Frag} {fd : FuncData} {ps : List Str} (h : ∀ us : List Value, us.length = ps.length -> bindArgs fd ⟨us, []⟩ = pure (ps.zip us)) : Binds K fd ps [] := fun s us _ hl => by
 rw [List.append_nil] at hl ⊢
 exact .of_eq (h us hl)
section
variable {X : Cx} {CX : CXT} {k : Nat} {f C : Addr} {fd : FuncData} {ps : List Str} {sp : Sp} {dvs : List V} {ds : List Value} {E : XK} {x m : Str} {p pos apos : Pos} {e o : Expr} {es : List Expr} {ta : TE} {t : TA}
structure Mk (K : PySem.W.Frag) (C f : Addr) : Prop where
 makes : PySem.W.makesIn K C = true
 init : PySem.W.findIn K (.ref C) "__init__" = some (some (.ref f))
 fn : PySem.W.isFn K (.ref f) = true
 kp : PySem.W.keepIn K (.ref C) = true
end
section
variable {X : Cx} {CX : CXT} {k : Nat} {f C : Addr} {fd : FuncData} {ps ks : List Str} {sp : Sp} {E : XK} {x m : Str} {p pos apos kpos : Pos} {e o : Expr} {es : List Expr} {kws : List Keyword} {te ta : TE} {t tk : TA} {nm : Option Str}
variable {g : List Value -> List Value -> List Value} {gV : List V -> List V -> List V}
end
structure Ai (N P : List Str) (sc : Scope) : Prop where
 kind : sc.kind = .function
 co : sc.isCoroutine = false
 gen : sc.isGenerator = false
 nd : N.Nodup
 pre : N.take P.length = P
 par : ∀ x ∈ P, sc.names.lookup x = some .local \/ sc.names.lookup x = some .cell
 nofree : ∀ y ∈ sc.names, y.2 ≠ .free
theorem Jo {kindOf : Str -> Option NameKind} {x : Str} : ∀ {binds : List (Str × Value)} {m : Str -> Option Value}, (∀ v, (x, v) ∉ binds) -> bindL kindOf binds m x = m x
 | [], _, _ => rfl
 | (n, v) :: r, m, h => by
  unfold bindL
  rw [Jo fun w hw => h w (List.mem_cons_of_mem _ hw)]
  split
  ·have : x ≠ n := by rintro rfl; exact h v List.mem_cons_self
   simp [this]
  ·rfl
theorem Jm {kindOf : Str -> Option NameKind} {x : Str} : ∀ {binds : List (Str × Value)} {m : Str -> Option Value}, (∀ v, (x, v) ∉ binds) -> bindC kindOf binds m x = m x
 | [], _, _ => rfl
 | (n, v) :: r, m, h => by
  unfold bindC
  rw [Jm fun w hw => h w (List.mem_cons_of_mem _ hw)]
  split
  ·rfl
  ·have : x ≠ n := by rintro rfl; exact h v List.mem_cons_self
   simp [this]
theorem Jn {kindOf : Str -> Option NameKind} {x : Str} {v : Value} : ∀ {P : List Str} {vs : List Value} {i : Nat} {m : Str -> Option Value}, P.Nodup -> P[i]? = some x -> vs[i]? = some v -> kindOf x = some .local ->
  bindL kindOf (P.zip vs) m x = some v
 | [], _, _, _, _, h, _, _ => by simp at h
 | _ :: _, [], _, _, _, _, h, _ => by simp at h
 | p :: P, w :: vs, 0, m, nd, h1, h2, hk => by
  simp at h1 h2; subst h1; subst h2
  show bindL kindOf ((p, w) :: P.zip vs) m p = _
  unfold bindL
  rw [Jo fun v hv => (List.nodup_cons.mp nd).1 (List.of_mem_zip hv).1, if_pos hk]
  simp
 | p :: P, w :: vs, i + 1, m, nd, h1, h2, hk => by
  show bindL kindOf ((p, w) :: P.zip vs) m x = _
  unfold bindL
  exact Jn (i := i) (List.nodup_cons.mp nd).2 (by simpa using h1) (by simpa using h2) hk
theorem Jl {kindOf : Str -> Option NameKind} {x : Str} {v : Value} : ∀ {P : List Str} {vs : List Value} {i : Nat} {m : Str -> Option Value}, P.Nodup -> P[i]? = some x -> vs[i]? = some v -> kindOf x ≠ some .local ->
  bindC kindOf (P.zip vs) m x = some v
 | [], _, _, _, _, h, _, _ => by simp at h
 | _ :: _, [], _, _, _, _, h, _ => by simp at h
 | p :: P, w :: vs, 0, m, nd, h1, h2, hk => by
  simp at h1 h2; subst h1; subst h2
  show bindC kindOf ((p, w) :: P.zip vs) m p = _
  unfold bindC
  rw [Jm fun v hv => (List.nodup_cons.mp nd).1 (List.of_mem_zip hv).1, if_neg hk]
  simp
 | p :: P, w :: vs, i + 1, m, nd, h1, h2, hk => by
  show bindC kindOf ((p, w) :: P.zip vs) m x = _
  unfold bindC
  exact Jl (i := i) (List.nodup_cons.mp nd).2 (by simpa using h1) (by simpa using h2) hk
def Et (N : List Str) (vs : List V) : St := vs.map some ++ List.replicate (N.length - vs.length) none
def cxOf (CX : CXT) (P : Program) (w : World) (K : PySem.W.Frag) (mg : Str -> Option Value) (base : Heap) (N : List Str) (qual : Str) (scope : Scope) (f : Addr) (cd : Value) (A : Around) (outer : List Env) (s : Shared) (H : Hp) (E : XK) : Cx where
 prog := P
 w := w
 K := K
 mg := mg
 base := base
 A := A.deeper (envOfC qual scope s.heap.objs.size f cd)
 N := N
 s₀ := s
 H₀ := H
 env := envOfC qual scope s.heap.objs.size f cd
 outer := outer
 stack := envOfC qual scope s.heap.objs.size f cd :: outer
 ex := []
 calm := true
 fn := fun _ => true
 pn := []
 xe := fun e s' => wpAny (model P w) (A.deeper (envOfC qual scope s.heap.objs.size f cd)) (leaving (envOfC qual scope s.heap.objs.size f cd) e) (fun _ s'' => CX outer H s E e s'') (fun e' s'' => CX outer H s E e' s'') s'
theorem E5 {sc : Scope} {n : Nat} {x : Str} (h : sc.names.lookup x = some .cell) : ∃ c, (cellsFrom n sc.names []).lookup x = some c := by
 have q := PySem.W.cellsFrom_some sc.names n [] (.inl h)
 exact Option.isSome_iff_exists.mp q
theorem Ri {CX : CXT} {P : Program} {w : World} {K : PySem.W.Frag} {mg : Str -> Option Value} {base : Heap} {N ps : List Str} {qual : Str} {scope : Scope} {f : Addr} {cd : Value} {A : Around} {outer : List Env} {s s1 : Shared} {H : Hp} {E : XK} {us : List Value} {vs : List V}
  (S : Ai N ps scope) (hd : A.handled = none) (e0 : Env0 P w K mg base A outer s H) (hl : vs.length = ps.length) (r : Vals vs us)
  (x : InCallC s s.heap.objs.size (bindL (envOfC qual scope s.heap.objs.size f cd).kindOf (ps.zip us) fun _ => none) (cellsFrom (s.heap.objs.size + 1) scope.names []) (bindC (envOfC qual scope s.heap.objs.size f cd).kindOf (ps.zip us) fun _ => none) s1) :
  Inv (cxOf CX P w K mg base N qual scope f cd A outer s H E) [] (Et N vs) H s1 := by
 have hpl : ps.length <= N.length := by have := congrArg List.length S.pre; rw [List.length_take] at this; omega
 obtain ⟨h1, tk, rfl, hk⟩ := x.done
 have noA : ∀ b : Addr, b ∉ (cxOf CX P w K mg base N qual scope f cd A outer s H E).ex := fun b z => absurd (show b ∈ ([] : List Addr) from z) (by simp)
 refine ⟨⟨e0.mod, S.kind, rfl, rfl, Nat.le_refl _, fun y z c h1 h2 => ?_, fun y hy => ?_, fun y c _ h => ?_, fun _ => hd, Around.frames_deeper e0.frames, .inr ⟨rfl, rfl⟩, fun b z => absurd z (noA b), e0.bs, e0.bsz, fun b _ _ => noA b, fun b z => absurd z (noA b), e0.funs, e0.frf⟩,
  rfl, e0.bare, Un.kept hk, ⟨_, x.toInCall.ns, fun i y v h1 h2 h3 => ?_⟩, fun y c h => ⟨_, x.cell y c h⟩, e0.hok.fresh (Nat.le_refl _), fun y c h => ?_, fun p hp => absurd (show p ∈ ([] : List (Addr × Obj)) from hp) (by simp), e0.hok.kept hk, ?_⟩
 ·exact name_of_addr x.apart (PySem.mem_of_lookup h1) (PySem.mem_of_lookup h2)
 ·have hy : scope.names.lookup y = some .cell \/ scope.names.lookup y = some .free := hy
  rcases hy with hy | hy
  ·exact E5 hy
  ·exact absurd rfl (S.nofree _ (PySem.mem_of_lookup hy))
 ·exact Nat.le_of_lt (x.above y c (PySem.mem_of_lookup h))
 ·have hi : i < vs.length := by
   unfold Et at h2
   by_cases hi : i < vs.length
   ·exact hi
   ·rw [List.getElem?_append_right (by simpa using hi)] at h2
    rw [List.getElem?_replicate] at h2
    split at h2 <;> cases h2
  have ha : vs[i]? = some v := by
   unfold Et at h2
   rw [List.getElem?_append_left (by simpa using hi), List.getElem?_map] at h2
   cases e : vs[i]? with
   | none => rw [e] at h2; cases h2
   | some a => rw [e] at h2; cases h2; rfl
  obtain ⟨u, hu, rv⟩ := r.get ha
  have hp : ps[i]? = some y := by
   rw [<- S.pre, List.getElem?_take_of_lt (by omega)]; exact h1
  have ndP : ps.Nodup := by rw [<- S.pre]; exact S.nd.sublist (List.take_sublist _ _)
  refine ⟨u, rv, ?_⟩
  rcases S.par y (List.mem_of_getElem? hp) with k | k
  ·exact .inl ⟨k, Jn ndP hp hu k⟩
  ·obtain ⟨c, e⟩ := E5 (n := s.heap.objs.size + 1) k
   refine .inr ⟨.inl k, c, e, ?_⟩
   have q := x.cell y c e
   rw [Jl ndP hp hu (by show scope.names.lookup y ≠ _; rw [k]; decide)] at q
   exact q
 ·exact e0.hok.fresh (Nat.le_of_lt (x.above y c (PySem.mem_of_lookup h)))
 ·unfold Et
  show _ = N.length
  rw [List.length_append, List.length_map, List.length_replicate]
  omega
theorem Za {CX : CXT} {P : Program} {w : World} {K : PySem.W.Frag} {mg : Str -> Option Value} {base : Heap} {k : Nat} {f : Addr} {name qual : Str} {params : Arguments} {body : List Stmt} {scope : Scope} {dV kV doc pm cdv ct oc : Value} {an od : Option Addr}
  {osl : Array (Option Value)} {N ps : List Str} {sp : Sp} (lk : K.lookup f = some ⟨oc, od, .func (PySem.W.fnOf name qual params body scope dV kV doc pm an cdv ct), osl⟩) (hcd : PySem.W.codeIn K cdv qual = true) (S : Ai N ps scope)
  (len : ∀ vs H Q E, sp vs H Q E -> vs.length = ps.length)
  (hbody : ∀ (A : Around) (outer : List Env) (s : Shared) (H : Hp) (vs : List V) (Q : VK) (E : XK), Room k (A.deeper (envOfC qual scope s.heap.objs.size f cdv)) -> sp vs H Q E ->
   ∃ t, PSs (cxOf CX P w K mg base N qual scope f cdv A outer s H E) body t /\ t { nx := fun _ H' => Q .non H', rt := Q } (Et N vs) H) :
  FnOk P w K mg base CX (k + 1) f (PySem.W.fnOf name qual params body scope dV kV doc pm an cdv ct) ps sp := by
 refine ⟨len, fun A outer s H args us vs Q E hr e0 hb r hsp => ?_⟩
 have hl := len _ _ _ _ hsp
 have KX : K.In s.heap := e0.mod.kin.keeps fun b o e => (e0.bs b o e).1
 have lim : s.heap.NoLimit := e0.mod.nolimit.keeps fun b o e => (e0.bs b o e).1
 have hkind : ∀ y ∈ ps.zip us, scope.names.lookup y.1 = some .local \/ (scope.names.lookup y.1 = some .cell /\ ((cellsFrom (s.heap.objs.size + 1) scope.names []).lookup y.1).isSome = true) := fun ⟨n, v⟩ hy => by
  rcases S.par n (List.of_mem_zip hy).1 with q | q
  ·exact .inl q
  ·exact .inr ⟨q, PySem.W.cellsFrom_some _ _ _ (.inl q)⟩
 refine codeAny_call_function hr.depth (KX _ _ lk) rfl S.co S.gen rfl (PySem.W.codeRec_of KX hcd) (hb _ _ _ _ ?_)
 refine wpAny_newFunctionEnv_cells S.kind hkind fun env he s1 x => ?_
 subst he
 refine ⟨lim.keeps x.toInCall.keep, codeAny_func ?_⟩
 obtain ⟨t, ht, hq⟩ := hbody A outer s H vs Q E (hr.deeper _) hsp
 have I : Inv (cxOf CX P w K mg base N qual scope f cdv A outer s H E) [] (Et N vs) H s1 := Ri S hr.hd e0 hl r x
 refine wpAny_mono (ht [] s1 (Et N vs) H _ I hq) (fun fl s' hs => ?_) fun e s' hs => hs
 have fin : ∀ {σ' : St} {H' : Hp} {v : V} {u : Value}, Inv (cxOf CX P w K mg base N qual scope f cdv A outer s H E) [] σ' H' s' -> RelV v u -> Q v H' -> CE outer P w H s Q u s' :=
  fun {σ' H' v u} J rv q => ⟨v, H', J.os, J.bare, J.base, J.hok, rv, q⟩
 cases fl with
 | ret u =>
  obtain ⟨v, σ', H', J, rv, q⟩ := hs
  exact fin J rv q
 | next =>
  obtain ⟨σ', H', J, q⟩ := hs
  exact fin (v := V.non) (u := Value.none) J rfl q
 | brk =>
  obtain ⟨_, _, _, q⟩ := hs
  exact False.elim q
 | cont =>
  obtain ⟨_, _, _, q⟩ := hs
  exact False.elim q
section
variable {X : Cx} {x : Str} {p pos : Pos} {e : Expr} {es : List Expr} {t : TA} {id T : String} {r : List V -> Hp -> VK -> Prop}
def tCB (r : List V -> Hp -> VK -> Prop) (t : TA) : TE := fun σ H Q => t σ H fun vs H1 => r vs H1 Q
theorem U1 (hc : Bt X (.builtin id) r) (hg : Gl X x) (hm : X.mg x = none) (hv : bootBuiltins x = some (.builtin id)) (ha : PA X (e :: es) t) (hn : x ≠ "__name__" := by decide) (hdb : (x == ("__debug__" : Str)) = false := by decide)
  (he : starEach (e :: es) X.env = (false, eval e X.env) :: starEach es X.env := by rfl) (hpl : (backTo pos (starEach es X.env)).any (·.1) = false := by rfl) : PE X (.Call (.Name x p) (e :: es) [] pos) (tCB r t) := by
 intro pins s σ H Q I h
 refine wpAny_Call_Name_kw (Ev I hg hm hv ?_ hn hdb)
 exact PyProof.Rows.callWith_builtin1 (thn (ha pos pins s σ H _ I h) fun us s1 ⟨vs, H1, I1, r1, q1⟩ => hc pins s1 σ H1 vs us Q I1 r1 q1) he hpl
theorem Rz (hc : Bt X (.type T) r) (hg : Gl X x) (hm : X.mg x = none) (hv : bootBuiltins x = some (.type T)) (ha : PA X (e :: es) t) (hn : x ≠ "__name__" := by decide) (hdb : (x == ("__debug__" : Str)) = false := by decide)
  (he : starEach (e :: es) X.env = (false, eval e X.env) :: starEach es X.env := by rfl) (hpl : (backTo pos (starEach es X.env)).any (·.1) = false := by rfl) : PE X (.Call (.Name x p) (e :: es) [] pos) (tCB r t) := by
 intro pins s σ H Q I h
 refine wpAny_Call_Name_kw (Ev I hg hm hv ?_ hn hdb)
 exact PyProof.Rows.callWith_type1 (thn (ha pos pins s σ H _ I h) fun us s1 ⟨vs, H1, I1, r1, q1⟩ => hc pins s1 σ H1 vs us Q I1 r1 q1) he hpl
end
end L2
namespace HT
open PySem PyProof.Rows
section
open PySem.SeqAt
open PySem.AutoSeq1 (wpAny_loadPart')
open PySem.MeetsSeq PySem.MeetsSeq2 PySem.MeetsSeq3
end
section
variable {prog : Program} {w : World} {A : Around} {E : Value -> Shared -> Prop} {s : Shared}
theorem cat_tup {t b : Addr} {vs ws : List Value} {Q : Value -> Shared -> Prop} (ht : IsTup s.heap t vs.toArray) (hb : IsTup s.heap b ws.toArray) (hv : vs ≠ [])
  (h1 : ws = [] -> Q (.ref t) s) (h2 : ws ≠ [] -> Q (.ref s.heap.objs.size) { s with heap := s.heap.push { cls := .type "tuple", data := .seq (vs ++ ws).toArray } })
  (hsz : vs.length + ws.length <= sizeLine) : wpAny (model prog w) A (binaryOp .Add (.ref t) (.ref b)) Q E s := by
 obtain ⟨⟨cls, dd, data, sl⟩, ho, hc, n, hd⟩ := id ht
 obtain ⟨⟨cls2, dd2, data2, sl2⟩, ho2, hc2, n2, hd2⟩ := id hb
 simp only at hc hd hc2 hd2
 subst hc hd hc2 hd2
 have e : vs.toArray ++ ws.toArray = (vs ++ ws).toArray := by simp
 by_cases hw : ws = []
 ·exact concat_meets ⟨_, ho, rfl⟩ ⟨_, ho2, rfl⟩ noFill_tuple_add seq_tuple_add PySem.F.slot_tuple_add PySem.F.entry_tuple_add (PySem.F.args_tuple_add_2 _ _)
   (tuple_addW1 t b vs.toArray ws.toArray n n2 dd dd2 sl sl2 (by simpa using hv) (by simp [hw])) ⟨ho, ho2, h1 hw⟩
 ·refine concat_meets ⟨_, ho, rfl⟩ ⟨_, ho2, rfl⟩ noFill_tuple_add seq_tuple_add PySem.F.slot_tuple_add PySem.F.entry_tuple_add (PySem.F.args_tuple_add_2 _ _)
   (tuple_addW2 t b vs.toArray ws.toArray n n2 dd dd2 sl sl2 (by simpa using hv) (by simpa using hw) (by rw [List.size_toArray, List.size_toArray]; exact hsz)) ⟨ho, ho2, ?_⟩
  rw [e]
  exact h2 hw
def sIx (n d : Nat) : Option Int -> Nat
 | none => d
 | some v => if v < 0 then (v + (n : Int)).toNat else min v.toNat n
theorem sIx_none (n d : Nat) : sIx n d none = d := rfl
theorem sIx_nat (n d k : Nat) : sIx n d (some (k : Int)) = min k n := by
 show (if (k : Int) < 0 then ((k : Int) + (n : Int)).toNat else min (k : Int).toNat n) = min k n
 rw [if_neg (by omega), Int.toNat_natCast]
theorem ai2 (n d : Nat) (hd : d <= n) (o : Option Int) : sIx n d o <= n := by
 cases o with
 | none => exact hd
 | some v =>
  show (if v < 0 then (v + (n : Int)).toNat else min v.toNat n) <= n
  by_cases hv : v < 0
  ·rw [if_pos hv]; omega
  ·rw [if_neg hv]; exact Nat.min_le_right _ _
theorem Pp (v : Int) (n d : Nat) : (if v < 0 then max (v + (n : Int)) 0 else min v (n : Int)) = ((sIx n d (some v) : Nat) : Int) := by
 show (if v < 0 then max (v + (n : Int)) 0 else min v (n : Int)) = (((if v < 0 then (v + (n : Int)).toNat else min v.toNat n) : Nat) : Int)
 by_cases hv : v < 0
 ·simp only [if_pos hv]; omega
 ·simp only [if_neg hv]; omega
theorem No (lo hi : Option Int) (n : Nat) : Builtin.Slice.sliceAdjust lo hi 1 (n : Int) = (((sIx n 0 lo : Nat) : Int), ((sIx n n hi : Nat) : Int)) := by
 have h1 : ¬ ((1 : Int) < 0) := by omega
 unfold Builtin.Slice.sliceAdjust
 simp only [h1, if_false]
 refine Prod.ext ?_ ?_
 ·cases lo with
  | none => rfl
  | some v => exact Pp v n 0
 ·cases hi with
  | none => rfl
  | some v => exact Pp v n n
theorem On (i j : Nat) : Builtin.Slice.slicePlaces (i : Int) (j : Int) 1 = j - i := by
 unfold Builtin.Slice.slicePlaces
 have h1 : (1 : Int) > 0 := by omega
 simp only [h1, if_true, Int.ediv_one]
 split <;> omega
theorem Iq {v : Value} {o : Option Int} {Q : Option Int -> Shared -> Prop} (p : IsPart v o) (h : Q o s) : wpAny (model prog w) A (Builtin.Slice.slicePartIndex v) Q E s := by
 cases p with
 | none => exact slicePart_none h
 | int i t => exact slicePart_int h
theorem F4 {sl : Addr} {vl vu : Value} {lo hi : Option Int} {n : Nat} {Q : Int × Int × Nat -> Shared -> Prop} (hs : s.heap.IsSliceOf sl vl vu .none) (pl : IsPart vl lo) (pu : IsPart vu hi)
  (h : Q (((sIx n 0 lo : Nat) : Int), 1, sIx n n hi - sIx n 0 lo) s) : wpAny (model prog w) A (Builtin.Slice.sliceApplied (.ref sl) (pure (n : Int))) Q E s := by
 obtain ⟨os, hos, hcs, hds⟩ := id hs
 unfold Builtin.Slice.sliceApplied Builtin.Slice.sliceFields
 refine wpAny_bind (wpAny_bind (wpAny_field hos hds (x := vl) rfl (wpAny_bind (wpAny_field hos hds (x := vu) rfl (wpAny_bind (wpAny_field hos hds (x := .none) rfl (wpAny_pure ?_)))))))
 refine wpAny_bind (slicePart_none ?_)
 show wpAny _ _ (if ((1 : Int) == 0) = true then _ else _) _ _ s
 rw [if_neg (by decide)]
 refine wpAny_bind (Iq pl (wpAny_bind (Iq pu (wpAny_bind (wpAny_pure ?_)))))
 show wpAny _ _ (match Builtin.Slice.sliceAdjust lo hi 1 (n : Int) with | (lo, hi) => pure (lo, (1 : Int), Builtin.Slice.slicePlaces lo hi 1)) _ _ s
 rw [No lo hi n]
 show wpAny _ _ (pure (((sIx n 0 lo : Nat) : Int), (1 : Int), Builtin.Slice.slicePlaces ((sIx n 0 lo : Nat) : Int) ((sIx n n hi : Nat) : Int) 1)) _ _ s
 rw [On]
 exact wpAny_pure h
theorem U4 (xs : Array Value) (i k : Nat) : ((List.range k).filterMap fun (m : Nat) => xs[((i : Int) + (m : Int) * 1).toNat]?).toArray = ((xs.toList.drop i).take k).toArray := by
 have e : (fun (m : Nat) => xs[((i : Int) + (m : Int) * 1).toNat]?) = fun m => xs[i + m]? := by
  funext m
  have : ((i : Int) + (m : Int) * 1).toNat = i + m := by omega
  rw [this]
 rw [e]
 have := pick_run xs i k
 rw [List.filterMap_map] at this
 have e2 : ((fun x => xs[x]?) ∘ fun x => i + x) = fun m => xs[i + m]? := rfl
 rw [e2] at this
 rw [this]
theorem getItem_tuple_cut {t sl : Addr} {items : Array Value} {vl vu : Value} {lo hi : Option Int} {Q : Value -> Shared -> Prop} (ht : IsTup s.heap t items) (hs : s.heap.IsSliceOf sl vl vu .none) (pl : IsPart vl lo) (pu : IsPart vu hi)
  (hw : ¬ (sIx items.size 0 lo = 0 /\ sIx items.size items.size hi = items.size))
  (h : Q (.ref s.heap.objs.size) { s with heap := s.heap.push { cls := .type "tuple", data := .seq ((items.toList.drop (sIx items.size 0 lo)).take (sIx items.size items.size hi - sIx items.size 0 lo)).toArray } })
  (hsz : items.size <= sizeLine) : wpAny (model prog w) A (getItem (.ref t) (.ref sl)) Q E s := by
 have htake : sizeOk (.seq ((items.toList.drop (sIx items.size 0 lo)).take (sIx items.size items.size hi - sIx items.size 0 lo)).toArray) := by
  show ((items.toList.drop (sIx items.size 0 lo)).take (sIx items.size items.size hi - sIx items.size 0 lo)).toArray.size <= sizeLine
  rw [List.size_toArray, List.length_take, List.length_drop, Array.length_toList]
  omega
 have hj : sIx items.size items.size hi <= items.size := ai2 _ _ (Nat.le_refl _) hi
 obtain ⟨os, hos, hcs, hds⟩ := id hs
 have hTs : s.TypeIs (.ref sl) "slice" := ⟨os, hos, hcs⟩
 unfold getItem
 try with_reducible refine wpAny_holding ?_
 first | refine wpAny_bind (wpAny_pure ?_) | skip
 refine wpAny_bind (wpAny_sequenceKey ht.typeIs (by decide) ?_)
 refine wpAny_bind (wpAny_callSpecial?_slot (name := Str.ofString "__getitem__") ht.typeIs PyProof.Rows.slot_tuple_getitem
  (wpAny_call_entry PyProof.Rows.slot_tuple_getitem ht.typeIs entry_tuple_getitem ?_ (args_tuple_getitem _ _)))
 show wpAny _ _ (Builtin.Tuple.tupleItemsOf (.ref t) >>= _) _ _ s
 refine wpAny_bind (tupleItemsOf_ ht ?_)
 refine wpAny_bind (wpAny_typeOf hTs ?_)
 rw [if_pos (by decide)]
 refine wpAny_bind (F4 hs pl pu ?_)
 have hno : ¬ ((((sIx items.size 0 lo : Nat) : Int) == 0 && (1 : Int) == 1 && (sIx items.size items.size hi - sIx items.size 0 lo) == items.size) = true) := by
  intro q
  rw [Bool.and_eq_true, Bool.and_eq_true] at q
  have q1 : ((sIx items.size 0 lo : Nat) : Int) = 0 := eq_of_beq q.1.1
  have q2 : sIx items.size items.size hi - sIx items.size 0 lo = items.size := eq_of_beq q.2
  exact hw ⟨by omega, by omega⟩
 show wpAny _ _ (if (((sIx items.size 0 lo : Nat) : Int) == 0 && (1 : Int) == 1 && (sIx items.size items.size hi - sIx items.size 0 lo) == items.size) = true then _ else _) _ _ s
 rw [if_neg hno, U4]
 first
  | exact wpAny_bind (m := Builtin.Tuple.tupleExact _) (wpAny_newObj_type (wpAny_pure ⟨_, rfl, wpAny_pure h⟩) htake)
  | exact wpAny_bind (m := Builtin.Tuple.tupleExact _) (wpAny_newObj_type (wpAny_bind (wpAny_pure (wpAny_pure ⟨_, rfl, wpAny_pure h⟩))) htake)
  | exact wpAny_bind (wpAny_bind (m := Builtin.Tuple.tupleExact _) (wpAny_newObj_type (wpAny_pure (wpAny_pure ⟨_, rfl, wpAny_pure h⟩)) htake))
  | exact wpAny_bind (wpAny_bind (m := Builtin.Tuple.tupleExact _) (wpAny_newObj_type (wpAny_pure ⟨_, rfl, wpAny_pure h⟩) htake))
end
end HT
namespace L2
open PySem PySem.Spec PyProof.Rows
abbrev TO := St -> Hp -> (Option Int -> Hp -> Prop) -> Prop
def PO (X : Cx) (e : Option Expr) (t : TO) : Prop :=
 ∀ (pins : List (Addr × Obj)) (s : Shared) (σ : St) (H : Hp) (Q : Option Int -> Hp -> Prop), Inv X pins σ H s -> t σ H Q ->
  wpAny (model X.prog X.w) X.A (evalPart e X.env) (fun u s' => ∃ o H', Inv X pins σ H' s' /\ IsPart u o /\ Q o H') X.xe s
def Yy : TO := fun _ H Q => Q none H
section
variable {X : Cx} {e : Expr} {te : TE} {lo hi : Option Expr} {tl th : TO} {pos p2 : Pos}
theorem Xy : PO X none Yy := by
 intro pins s σ H Q I h
 rw [evalPart_none]
 exact wpAny_pure ⟨none, H, I, .none, h⟩
def SlR (X : Cx) (r : V -> Option Int -> Option Int -> Hp -> VK -> Prop) : Prop :=
 ∀ (pins : List (Addr × Obj)) (s : Shared) (σ : St) (H : Hp) (x : V) (v vl vu : Value) (lo hi : Option Int) (sl : Addr) (Q : VK), Inv X pins σ H s -> RelV x v -> s.heap.IsSliceOf sl vl vu .none -> IsPart vl lo -> IsPart vu hi -> r x lo hi H Q ->
  ∃ T id, typeLookup (.type T) "__getitem__" = pure (some (.builtin id)) /\ s.TypeIs v T /\ wpAny (model X.prog X.w) X.A (getItem v (.ref sl)) (EP X pins σ Q) X.xe s
def cutV (xs : List V) (lo hi : Option Int) : List V := (xs.drop (HT.sIx xs.length 0 lo)).take (HT.sIx xs.length xs.length hi - HT.sIx xs.length 0 lo)
theorem Gb (xs : List V) (lo hi : Option Int) : (cutV xs lo hi).length <= xs.length := by
 unfold cutV
 rw [List.length_take, List.length_drop]
 omega
def rSlT (K : PySem.W.Frag) : V -> Option Int -> Option Int -> Hp -> VK -> Prop := fun x lo hi H Q => ∃ a xs, x = .ref a /\ SqT K H a xs /\
 ¬ (HT.sIx xs.length 0 lo = 0 /\ HT.sIx xs.length xs.length hi = xs.length) /\ ∀ p, H p = none -> Q (.ref p) (upd H p (.tup (cutV xs lo hi)))
theorem aj1 : SlR X (rSlT X.K) := by
 intro pins s σ H x v vl vu lo hi sl Q I rx hs pl pu h
 obtain ⟨a, xs, rfl, hx, hw, q⟩ := h
 cases rx
 obtain ⟨its, r, ht, hz⟩ := I.tuple hx
 have hlen : its.toArray.size = xs.length := by rw [List.size_toArray]; exact r.length.symm
 refine ⟨"tuple", _, PyProof.Rows.slot_tuple_getitem.lookup, ht.typeIs, ?_⟩
 refine HT.getItem_tuple_cut ht hs pl pu (by rw [hlen]; exact hw) ?_ (by rw [hlen]; exact hz)
 rw [hlen]
 refine ⟨.ref s.heap.objs.size, _, I.laid (t' := s.toks) (o := .tup (cutV xs lo hi)) (fun b ob q => Heap.get?_push_of_some _ q) (Nat.le_refl _) ?_, rfl, q _ (I.hok.fresh (Nat.le_refl _))⟩
 exact ⟨Nat.le_trans (Gb xs lo hi) hz, _, (r.drop (HT.sIx xs.length 0 lo)).take (HT.sIx xs.length xs.length hi - HT.sIx xs.length 0 lo), IsTup.new _ _⟩
def Zq (K : PySem.W.Frag) : R2 := fun x y H Q => ∃ a b xs ys, x = .ref a /\ y = .ref b /\ SqT K H a xs /\ SqT K H b ys /\ xs ≠ [] /\ xs.length + ys.length <= sizeLine /\
 (ys = [] -> Q (.ref a) H) /\ (ys ≠ [] -> ∀ p, H p = none -> Q (.ref p) (upd H p (.tup (xs ++ ys))))
theorem Vals.nil_iff {xs : List V} {us : List Value} (r : Vals xs us) : us = [] ↔ xs = [] := by
 cases r with
 | nil => simp
 | cons _ _ => simp
theorem op_catT : OpR X (binaryOp .Add) (Zq X.K) := by
 intro pins s σ H x y v u Q I rx ry h
 obtain ⟨a, b, xs, ys, rfl, rfl, ha, hb, hx, hz, q1, q2⟩ := h
 cases rx
 cases ry
 obtain ⟨its, r1, p1, _⟩ := I.tuple ha
 obtain ⟨its2, r2, p2, _⟩ := I.tuple hb
 refine HT.cat_tup p1 p2 (fun z => hx (r1.nil_iff.mp z)) (fun z => ⟨.ref a, H, I, rfl, q1 (r2.nil_iff.mp z)⟩) (fun z => ?_) (by rw [<- r1.length, <- r2.length]; exact hz)
 refine ⟨.ref s.heap.objs.size, _, I.laid (t' := s.toks) (o := .tup (xs ++ ys)) (fun b ob q => Heap.get?_push_of_some _ q) (Nat.le_refl _) ?_, rfl, q2 (fun w => z (r2.nil_iff.mpr w)) _ (I.hok.fresh (Nat.le_refl _))⟩
 exact ⟨by rw [List.length_append]; exact hz, _, r1.append r2, IsTup.new _ _⟩
end
def ixN (n : Nat) (i : Int) : Option Nat := if 0 <= i then (if i < n then some i.toNat else none) else if -(n : Int) <= i then some (i + n).toNat else none
def atI {α : Type} (xs : List α) (i : Int) : Option α := (ixN xs.length i).bind fun j => xs[j]?
theorem Py {n : Nat} {i : Int} {j : Nat} (h : ixN n i = some j) : seqIndex? i n = some j /\ j < n /\ -(n : Int) <= i /\ i < n := by
 unfold ixN at h
 by_cases h0 : 0 <= i
 ·rw [if_pos h0] at h
  by_cases h1 : i < n
  ·rw [if_pos h1] at h
   have e : i.toNat = j := Option.some.inj h
   exact ⟨by rw [seqIndex_of h0 h1, e], by omega, by omega, h1⟩
  ·rw [if_neg h1] at h; cases h
 ·rw [if_neg h0] at h
  by_cases h1 : -(n : Int) <= i
  ·rw [if_pos h1] at h
   have e : (i + n).toNat = j := Option.some.inj h
   exact ⟨by rw [seqIndex_neg (by omega) h1, e], by omega, h1, by omega⟩
  ·rw [if_neg h1] at h; cases h
theorem Kw {α : Type} {xs : List α} {i : Int} {v : α} (h : atI xs i = some v) : ∃ j, seqIndex? i xs.length = some j /\ xs[j]? = some v /\ j < xs.length /\ -(xs.length : Int) <= i /\ i < xs.length := by
 unfold atI at h
 cases e : ixN xs.length i with
 | none => rw [e] at h; cases h
 | some j =>
  rw [e] at h
  obtain ⟨h1, h2, h3, h4⟩ := Py e
  exact ⟨j, h1, h, h2, h3, h4⟩
theorem Aq {α : Type} {xs : List α} {j : Nat} {v : α} (h : xs[j]? = some v) : atI xs (j : Int) = some v := by
 have hj : j < xs.length := (List.getElem?_eq_some_iff.mp h).1
 have e : ixN xs.length (j : Int) = some j := by
  unfold ixN
  rw [if_pos (by omega), if_pos (by omega)]; simp
 unfold atI; rw [e]; exact h
def Pi (b : Expr) : Prop := ∀ o i, subscripted b false o i = operate [o, i] (getItem o i)
def IxR (X : Cx) (r : R2) : Prop :=
 ∀ (value slice : Expr) (pins : List (Addr × Obj)) (s : Shared) (σ : St) (H : Hp) (x y : V) (v u : Value) (Q : VK), Inv X pins σ H s -> RelV x v -> RelV y u -> r x y H Q ->
  subscripted slice false v u = operate [v, u] (getItem v u) -> wpAny (model X.prog X.w) X.A (subscriptTail value slice v u) (EP X pins σ Q) X.xe s
def MtR (X : Cx) (id : String) (r : V -> List V -> Hp -> VK -> Prop) : Prop :=
 ∀ (pins : List (Addr × Obj)) (s : Shared) (σ : St) (H : Hp) (x : V) (xs : List V) (v : Value) (us : List Value) (Q : VK), Inv X pins σ H s -> RelV x v -> Vals xs us -> r x xs H Q ->
  wpAny (model X.prog X.w) X.A (call (.builtin id) (v :: us)) (EP X pins σ Q) X.xe s
section
variable {X : Cx} {a b : Expr} {ta tb : TE} {pos : Pos}
theorem ap2 {r : R2} (hr : IxR X r) (ha : PE X a ta) (hb : PE X b tb) (hs : Pi b) : PE X (.Subscript a b pos) (tOp r ta tb) := by
 intro pins s σ H Q I h
 exact Subscript_ (binT ha hb I h fun v u s2 x y H2 I2 rx ry q => hr a b pins s2 σ H2 x y v u Q I2 rx ry q (hs _ _))
def rIxL (K : PySem.W.Frag) : R2 := fun x y H Q => ∃ p xs i v, x = .ref p /\ y = .int i /\ SqL K H p xs /\ atI xs i = some v /\ Q v H
def rIxT (K : PySem.W.Frag) : R2 := fun x y H Q => ∃ p xs i v, x = .ref p /\ y = .int i /\ SqT K H p xs /\ atI xs i = some v /\ Q v H
def rIxS : R2 := fun x y H Q => ∃ z i c, x = .str z /\ y = .int i /\ z.length <= sizeLine /\ atI z.cps.toList i = some c /\ Q (.str ⟨#[c]⟩) H
theorem Xf : IxR X (rIxL X.K) := by
 intro value slice pins s σ H x y v u Q I rx ry h hs
 obtain ⟨p, xs, i, z, rfl, rfl, hq, he, q⟩ := h
 cases rx
 obtain ⟨t, rfl⟩ := ry
 obtain ⟨its, r, pl, hz⟩ := I.list hq
 obtain ⟨j, h1, h2, h3, h4, h5⟩ := Kw he
 obtain ⟨w, ew, rw'⟩ := r.get h2
 have hl := r.length
 have hn := Ew
 have fin : EP X pins σ Q w s := ⟨z, H, I, rw', q⟩
 by_cases h0 : 0 <= i
 ·have hj : i.toNat = j := by
   rw [seqIndex_of h0 h5] at h1
   exact Option.some.inj h1
  exact item_listR pl.isList h0 (by omega) (by rw [hj]; simpa using ew) fin hs
 ·have hj : (i + (its.toArray.size : Int)).toNat = j := by
   rw [seqIndex_neg (by omega) h4] at h1
   rw [List.size_toArray, <- hl]
   exact Option.some.inj h1
  exact subscriptTail_builtinR (x := w) pl.isList.typeIs slot_list_getitem.lookup
   (wpAny_getItem_list_neg (Q := fun r s' => r = w /\ EP X pins σ Q r s') pl.isList (by omega) (by rw [List.size_toArray] <;> omega) (by omega) (by rw [hj]; simpa using ew) ⟨rfl, fin⟩) hs
theorem aa1 : IxR X (rIxT X.K) := by
 intro value slice pins s σ H x y v u Q I rx ry h hs
 obtain ⟨p, xs, i, z, rfl, rfl, hq, he, q⟩ := h
 cases rx
 obtain ⟨t, rfl⟩ := ry
 obtain ⟨its, r, pl, hz⟩ := I.tuple hq
 obtain ⟨j, h1, h2, h3, h4, h5⟩ := Kw he
 obtain ⟨w, ew, rw'⟩ := r.get h2
 have hl := r.length
 have hn := Ew
 have fin : EP X pins σ Q w s := ⟨z, H, I, rw', q⟩
 exact subscriptTail_builtinR (x := w) pl.typeIs slot_tuple_getitem.lookup
  (getItem_tuple (j := j) (Q := fun r s' => r = w /\ EP X pins σ Q r s') pl (by omega) (by omega) (by rw [List.size_toArray, <- hl]; exact h1) (by simpa using ew) ⟨rfl, fin⟩) hs
theorem aa0 : IxR X rIxS := by
 intro value slice pins s σ H x y v u Q I rx ry h hs
 obtain ⟨z, i, c, rfl, rfl, hz, he, q⟩ := h
 obtain ⟨t, rfl⟩ := rx
 obtain ⟨t', rfl⟩ := ry
 obtain ⟨j, h1, h2, h3, h4, h5⟩ := Kw he
 have hl : z.cps.toList.length = z.length := by simp [Str.length]
 rw [hl] at h1 h4 h5
 have hn := Ew
 exact tail_any (typeIs_str s z t) slot_str_getitem.lookup (getItem_str (c := c) (by
  have e1 : decide (i < -(2 ^ 63 : Int)) = false := decide_eq_false (by omega)
  have e2 : decide (i ≥ 2 ^ 63) = false := decide_eq_false (by omega)
  rw [e1, e2, Bool.or_false]) (by rw [h1]; simpa using h2) ⟨.str ⟨#[c]⟩, H, I.tok _, ⟨_, rfl⟩, q⟩) hs
theorem Og (its : List Value) (n j : Nat) (u : Value) : Obj.mapSeq (·.setIfInBounds j u) { cls := .type "list", data := .seq its.toArray n } = { cls := .type "list", data := .seq (its.set j u).toArray n } := by
 simp [Obj.mapSeq]
theorem Inv.lst {pins : List (Addr × Obj)} {σ : St} {H : Hp} {s : Shared} {p : Addr} {xs : List V} (I : Inv X pins σ H s) (h : H p = some (.lst xs)) :
  ∃ (its : List Value) (n : Nat), Vals xs its /\ s.heap.get? p = some { cls := .type "list", data := .seq its.toArray n } /\ xs.length <= sizeLine := by
 obtain ⟨z, its, n, r, e⟩ := I.hok p _ h
 exact ⟨its, n, r, e, z⟩
theorem Inv.lstUpd {pins : List (Addr × Obj)} {σ : St} {H : Hp} {s : Shared} {p : Addr} {xs ys : List V} {its its' : List Value} {n n' : Nat} {f : Obj -> Obj} (I : Inv X pins σ H s) (h : H p = some (.lst xs))
  (ho : s.heap.get? p = some { cls := .type "list", data := .seq its.toArray n }) (hf : f { cls := .type "list", data := .seq its.toArray n } = { cls := .type "list", data := .seq its'.toArray n' }) (r : Vals ys its') (hz : ys.length <= sizeLine) (t : Nat) :
  Inv X pins σ (upd H p (.lst ys)) { s with heap := s.heap.update p f, toks := t } := by
 have e : (s.heap.update p f).get? p = some { cls := .type "list", data := .seq its'.toArray n' } := by
  rw [Heap.get?_update_self f ho (by rw [hf] <;> rfl), hf]
 refine I.write (x := p) (e := p) (by rw [h]; trivial) (.inl rfl) (fun b u hb q => (Heap.get?_update_other _ _ (Ne.symm hb)).trans q) ⟨_, e⟩ ?_
 exact ⟨hz, its', n', r, e⟩
def aq5 : V -> V -> V -> Hp -> (Hp -> Prop) -> Prop := fun o i v H Q => ∃ p xs k j, o = .ref p /\ i = .int k /\ H p = some (.lst xs) /\ ixN xs.length k = some j /\ Q (upd H p (.lst (xs.set j v)))
theorem Vy : PSet X aq5 := by
 intro pins s σ H o i v ov iv u Q I ro ri rv h
 obtain ⟨p, xs, k, j, rfl, rfl, hp, hj, q⟩ := h
 cases ro
 obtain ⟨t, rfl⟩ := ri
 obtain ⟨its, n, r, ho, hz⟩ := I.lst hp
 obtain ⟨h1, h2, h3, h4⟩ := Py hj
 have hl := r.length
 have hn := Ew
 have I' : Inv X pins σ (upd H p (.lst (xs.set j v))) { s with heap := s.heap.update p (Obj.mapSeq (·.setIfInBounds j u)) } :=
  I.lstUpd hp ho (Og its n j u) (r.set rv j) (by rw [List.length_set]; exact hz) s.toks
 by_cases h0 : 0 <= k
 ·have hk : k.toNat = j := by
   rw [seqIndex_of h0 h4] at h1
   exact Option.some.inj h1
  exact PySem.W.ki_setAt ho h0 (by omega) (by rw [List.size_toArray, <- hl]; exact h4) (by rw [hk]; exact ⟨_, I', q⟩)
 ·have hk : (k + (its.toArray.size : Int)).toNat = j := by
   rw [seqIndex_neg (by omega) h3] at h1
   rw [List.size_toArray, <- hl]
   exact Option.some.inj h1
  exact PySem.W.ki_setBack ho (by omega) (by rw [List.size_toArray, <- hl]; exact h3) (by omega) (by rw [hk]; exact ⟨_, I', q⟩)
theorem Lr (lo hi : Option Int) (n : Nat) : (sliceBounds lo hi none n).1 = ((HT.sIx n 0 lo : Nat) : Int) /\ (sliceBounds lo hi none n).2.1 = ((HT.sIx n n hi : Nat) : Int) /\ (sliceBounds lo hi none n).2.2 = 1 := by
 refine ⟨?_, ?_, rfl⟩
 ·cases lo with
  | none => simp [sliceBounds, HT.sIx]
  | some i =>
   simp only [sliceBounds, HT.sIx, Option.getD_none, show (1 : Int) > 0 by decide, if_true]
   by_cases h : i < 0
   ·simp only [h, if_true] <;> omega
   ·simp only [h, if_false] <;> omega
 ·cases hi with
  | none => simp [sliceBounds, HT.sIx]
  | some i =>
   simp only [sliceBounds, HT.sIx, Option.getD_none, show (1 : Int) > 0 by decide, if_true]
   by_cases h : i < 0
   ·simp only [h, if_true] <;> omega
   ·simp only [h, if_false] <;> omega
theorem Ji (its : List Value) (lo hi : Option Int) : slicePick its.toArray lo hi none = ((its.drop (HT.sIx its.length 0 lo)).take (HT.sIx its.length its.length hi - HT.sIx its.length 0 lo)).toArray := by
 obtain ⟨h1, h2, h3⟩ := Lr lo hi its.toArray.size
 unfold slicePick
 rw [h1, h2, h3]
 simp only [sliceRange_one, pick_run, List.size_toArray] <;> rfl
def rSlL (K : PySem.W.Frag) : V -> Option Int -> Option Int -> Hp -> VK -> Prop := fun x lo hi H Q => ∃ a xs, x = .ref a /\ SqL K H a xs /\ ∀ p, H p = none -> Q (.ref p) (upd H p (.lst (cutV xs lo hi)))
theorem Yu : SlR X (rSlL X.K) := by
 intro pins s σ H x v vl vu lo hi sl Q I rx hs pl pu h
 obtain ⟨a, xs, rfl, hx, q⟩ := h
 cases rx
 obtain ⟨its, r, ht, hz⟩ := I.list hx
 have hlen := r.length
 refine ⟨"list", _, slot_list_getitem.lookup, ht.isList.typeIs, ?_⟩
 refine wpAny_getItem_list_slice ht.isList hs pl pu .none (by simp) ?_ (by rw [List.size_toArray] <;> omega)
 rw [Ji, <- hlen]
 refine ⟨.ref s.heap.objs.size, _, I.laid (t' := s.toks) (o := .lst (cutV xs lo hi)) (fun b ob q => Heap.get?_push_of_some _ q) (Nat.le_refl _) ?_, rfl, q _ (I.hok.fresh (Nat.le_refl _))⟩
 exact ⟨Nat.le_trans (Gb xs lo hi) hz, _, 0, (r.drop (HT.sIx xs.length 0 lo)).take (HT.sIx xs.length xs.length hi - HT.sIx xs.length 0 lo), Heap.get?_push_size _ rfl⟩
def Bu : V -> Bool
 | .non => true
 | .bl _ => true
 | .int _ => true
 | .str _ => true
 | _ => false
def eqV : V -> V -> Bool
 | .non, .non => true
 | .bl a, .bl b => a == b
 | .bl a, .int b => (if a then 1 else 0) == b
 | .int a, .bl b => a == (if b then 1 else 0)
 | .int a, .int b => a == b
 | .str a, .str b => a == b
 | _, _ => false
theorem Nz {A : Around} {s : Shared} {y x : V} {u v : Value} (ry : RelV y u) (rx : RelV x v) (fy : Bu y = true) (fx : Bu x = true) : SeqAt.EqAt A s u v (eqV y x) := by
 cases y with
 | non =>
  cases ry
  cases x with
  | non => cases rx; exact SeqAt.EqAt.same _
  | bl b => cases rx; exact SeqAt.EqAt.none_bool b
  | int b => obtain ⟨t, rfl⟩ := rx; exact SeqAt.EqAt.none_int b t
  | str b => obtain ⟨t, rfl⟩ := rx; exact SeqAt.EqAt.none_str b t
  | _ => exact absurd (show false = true from fx) Bool.false_ne_true
 | bl a =>
  cases ry
  cases x with
  | non => cases rx; exact SeqAt.EqAt.bool_none a
  | bl b => cases rx; exact SeqAt.EqAt.bool_bool a b
  | int b => obtain ⟨t, rfl⟩ := rx; exact SeqAt.EqAt.bool_int a b t
  | str b => obtain ⟨t, rfl⟩ := rx; exact SeqAt.EqAt.bool_str a b t
  | _ => exact absurd (show false = true from fx) Bool.false_ne_true
 | int a =>
  obtain ⟨t', rfl⟩ := ry
  cases x with
  | non => cases rx; exact SeqAt.EqAt.int_none a t'
  | bl b => cases rx; exact SeqAt.EqAt.int_bool a t' b
  | int b => obtain ⟨t, rfl⟩ := rx; exact SeqAt.EqAt.int_int a t' b t
  | str b => obtain ⟨t, rfl⟩ := rx; exact SeqAt.EqAt.int_str a t' b t
  | _ => exact absurd (show false = true from fx) Bool.false_ne_true
 | str a =>
  obtain ⟨t', rfl⟩ := ry
  cases x with
  | non => cases rx; exact SeqAt.EqAt.str_none a t'
  | bl b => cases rx; exact SeqAt.EqAt.str_bool a t' b
  | int b => obtain ⟨t, rfl⟩ := rx; exact SeqAt.EqAt.str_int a t' b t
  | str b => obtain ⟨t, rfl⟩ := rx; exact SeqAt.EqAt.str_str a t' b t
  | _ => exact absurd (show false = true from fx) Bool.false_ne_true
 | _ => exact absurd (show false = true from fy) Bool.false_ne_true
def eqU (x : V) (u : Value) : Bool := match u with
 | .none => eqV .non x
 | .bool b => eqV (.bl b) x
 | .int i _ => eqV (.int i) x
 | .str z _ => eqV (.str z) x
 | _ => false
theorem Tu {x y : V} {u : Value} (r : RelV y u) (f : Bu y = true) : eqU x u = eqV y x := by
 cases y with
 | non => cases r; rfl
 | bl b => cases r; rfl
 | int i => obtain ⟨t, rfl⟩ := r; rfl
 | str z => obtain ⟨t, rfl⟩ := r; rfl
 | _ => exact absurd (show false = true from f) Bool.false_ne_true
theorem E3 {x : V} : ∀ {xs : List V} {us : List Value}, Vals xs us -> xs.all Bu = true -> us.any (eqU x) = xs.any fun y => eqV y x
 | _, _, .nil, _ => rfl
 | y :: xs, u :: us, .cons r t, f => by
  rw [List.all_cons, Bool.and_eq_true] at f
  rw [List.any_cons, List.any_cons, Tu r f.1, E3 t f.2]
theorem D7 {A : Around} {s : Shared} {x : V} {v : Value} (rx : RelV x v) (fx : Bu x = true) : ∀ {xs : List V} {us : List Value}, Vals xs us -> xs.all Bu = true -> ∀ u ∈ us, SeqAt.EqAt A s u v (eqU x u)
 | _, _, .nil, _ => fun u hu => by cases hu
 | y :: xs, u :: us, .cons r t, f => fun u' hu => by
  rw [List.all_cons, Bool.and_eq_true] at f
  rcases List.mem_cons.mp hu with rfl | hu
  ·rw [Tu r f.1]; exact Nz r rx f.1 fx
  ·exact D7 rx fx t f.2 u' hu
def inV (x : V) (xs : List V) : Bool := xs.any fun y => eqV y x
def rIn (K : PySem.W.Frag) (neg : Bool) : R2 := fun x y H Q => ∃ p xs, y = .ref p /\ (SqL K H p xs \/ SqT K H p xs) /\ Bu x = true /\ xs.all Bu = true /\ Q (.bl (if neg then !inV x xs else inV x xs)) H
theorem Rw : OpR X (compareOp .In) (rIn X.K false) := by
 intro pins s σ H x y v u Q I rx ry h
 obtain ⟨p, xs, rfl, hq, fx, fs, q⟩ := h
 cases ry
 rcases hq with hq | hq
 ·obtain ⟨its, r, pl, hz⟩ := I.list hq
  refine SeqAt.in_listAt (eqU x) pl.isList (fun w hw => D7 rx fx r fs w (by simpa using hw)) ⟨.bl _, H, I, rfl, ?_⟩
  rw [show its.toArray.any (eqU x) = its.any (eqU x) by simp, E3 r fs]
  exact q
 ·obtain ⟨its, r, pl, hz⟩ := I.tuple hq
  refine SeqAt.in_tupleAt (eqU x) pl (fun w hw => D7 rx fx r fs w (by simpa using hw)) ⟨.bl _, H, I, rfl, ?_⟩
  rw [show its.toArray.any (eqU x) = its.any (eqU x) by simp, E3 r fs]
  exact q
theorem Lj : OpR X (compareOp .NotIn) (rIn X.K true) := by
 intro pins s σ H x y v u Q I rx ry h
 obtain ⟨p, xs, rfl, hq, fx, fs, q⟩ := h
 cases ry
 rcases hq with hq | hq
 ·obtain ⟨its, r, pl, hz⟩ := I.list hq
  refine SeqAt.notIn_listAt (eqU x) pl.isList (fun w hw => D7 rx fx r fs w (by simpa using hw)) ⟨.bl _, H, I, rfl, ?_⟩
  rw [show its.toArray.any (eqU x) = its.any (eqU x) by simp, E3 r fs]
  exact q
 ·obtain ⟨its, r, pl, hz⟩ := I.tuple hq
  refine SeqAt.notIn_tupleAt (eqU x) pl (fun w hw => D7 rx fx r fs w (by simpa using hw)) ⟨.bl _, H, I, rfl, ?_⟩
  rw [show its.toArray.any (eqU x) = its.any (eqU x) by simp, E3 r fs]
  exact q
theorem Ky : Bt X (.builtin "len") (fun xs H Q => ∃ p ys, xs = [.ref p] /\ (SqL X.K H p ys \/ SqT X.K H p ys) /\ Q (.int ys.length) H) := by
 intro pins s σ H xs us Q I r h
 obtain ⟨p, ys, rfl, hq, q⟩ := h
 obtain ⟨u, rfl, rx⟩ := Fm r
 cases rx
 have hn := Ew
 rcases hq with hq | hq
 ·obtain ⟨its, r', pl, hz⟩ := I.list hq
  have hlen := r'.length
  exact Calls.call_len_list pl.isList (by simp only [List.size_toArray] <;> omega) ⟨.int ys.length, H, I.tok _, ⟨s.toks + 1, by rw [List.size_toArray, hlen]⟩, q⟩
 ·obtain ⟨its, r', pl, hz⟩ := I.tuple hq
  have hlen := r'.length
  exact len_tuple pl (by simp only [List.size_toArray] <;> omega) ⟨.int ys.length, H, I.tok _, ⟨s.toks + 1, by rw [List.size_toArray, hlen]⟩, q⟩
theorem Kz : Bt X (.builtin "len") (fun xs H Q => ∃ z, xs = [.str z] /\ z.length <= sizeLine /\ Q (.int z.length) H) := by
 intro pins s σ H xs us Q I r h
 obtain ⟨z, rfl, hz, q⟩ := h
 obtain ⟨u, rfl, t, rfl⟩ := Fm r
 have hn := Ew
 exact len_str (by omega) ⟨.int z.length, H, I.tok _, ⟨_, rfl⟩, q⟩
theorem K0 : Bt X (.type "list") (fun xs H Q => ∃ p ys, xs = [.ref p] /\ (SqL X.K H p ys \/ SqT X.K H p ys) /\ ∀ l, H l = none -> Q (.ref l) (upd H l (.lst ys))) := by
 intro pins s σ H xs us Q I r h
 obtain ⟨p, ys, rfl, hq, q⟩ := h
 obtain ⟨u, rfl, rx⟩ := Fm r
 cases rx
 have fin : ∀ (its : List Value), Vals ys its -> ys.length <= sizeLine -> ∀ (h' : Heap) (c' : Nat), (∀ b o', s.heap.get? b = some o' -> h'.get? b = some o') ->
   h'.get? s.heap.objs.size = some { cls := .type "list", dict := none, data := .seq its.toArray c', slots := #[] } -> EP X pins σ Q (.ref s.heap.objs.size) { s with heap := h' } := fun its r' hz h' c' kp e =>
  ⟨.ref s.heap.objs.size, _, I.laid (t' := s.toks) kp (Nat.le_refl _) (show ObjOk X.prog X.w _ h' _ (.lst ys) from ⟨hz, its, c', r', e⟩), rfl, q _ (I.hok.fresh (Nat.le_refl _))⟩
 rcases hq with hq | hq
 ·obtain ⟨its, r', pl, hz⟩ := I.list hq
  have hlen := r'.length
  obtain ⟨o, ho, hc, n, hd⟩ := pl.isList
  exact call_list_seq p (.inl rfl) ho hc hd (fun h' c' kp e => fin its r' hz h' c' kp e) (by simp only [List.size_toArray] <;> omega)
 ·obtain ⟨its, r', pl, hz⟩ := I.tuple hq
  have hlen := r'.length
  obtain ⟨o, ho, hc, n, hd⟩ := pl
  exact call_list_seq p (.inr rfl) ho hc hd (fun h' c' kp e => fin its r' hz h' c' kp e) (by simp only [List.size_toArray] <;> omega)
theorem Jf : Bt X (.type "tuple") (fun xs H Q => ∃ p ys, xs = [.ref p] /\ ((SqL X.K H p ys /\ ∀ l, H l = none -> Q (.ref l) (upd H l (.tup ys))) \/ (SqT X.K H p ys /\ Q (.ref p) H))) := by
 intro pins s σ H xs us Q I r h
 obtain ⟨p, ys, rfl, h⟩ := h
 obtain ⟨u, rfl, rx⟩ := Fm r
 cases rx
 rcases h with ⟨hq, q⟩ | ⟨hq, q⟩
 ·obtain ⟨its, r', pl, hz⟩ := I.list hq
  have hlen := r'.length
  refine call_tuple_list pl.isList (fun h' kp => ?_) (by simp only [List.size_toArray] <;> omega)
  have I1 : Inv X pins σ H { s with heap := h' } := I.kept (t' := s.toks) kp
  have I2 : Inv X pins σ (upd H h'.objs.size (.tup ys)) { s with heap := h'.push { cls := .type "tuple", data := .seq its.toArray } } :=
   I1.laid (t' := s.toks) (fun b o e => Heap.get?_push_of_some _ e) (Nat.le_refl _) (show ObjOk X.prog X.w _ _ _ (.tup ys) from ⟨hz, its, r', IsTup.new _ _⟩)
  exact ⟨.ref h'.objs.size, _, I2, rfl, q _ (I1.hok.fresh (Nat.le_refl _))⟩
 ·obtain ⟨its, r', pl, hz⟩ := I.tuple hq
  exact call_tuple_same pl ⟨.ref p, H, I, rfl, q⟩
def tyV (K : PySem.W.Frag) (T : String) (x : V) (H : Hp) : Prop := match x with
 | .str _ => T = "str"
 | .int _ => T = "int"
 | .ref p => (T = "list" /\ ∃ xs, SqL K H p xs) \/ (T = "tuple" /\ ∃ o, K.lookup p = some o /\ o.cls = .type "tuple" /\ o.dict = none) \/
   (T = "dict" /\ ((∃ kvs, H p = some (.dK kvs)) \/ ∃ kvs, H p = some (.dT kvs))) \/ (T = "set" /\ ∃ S n, H p = some (.set S n))
 | _ => False
theorem Wj {pins : List (Addr × Obj)} {σ : St} {H : Hp} {s : Shared} {T : String} {x : V} {v : Value} (I : Inv X pins σ H s) (r : RelV x v) (ty : tyV X.K T x H) :
  s.TypeIs v T /\ ∀ a, v = .ref a -> ∃ ob, s.heap.get? a = some ob /\ ob.dict = none := by
 cases x with
 | str z =>
  obtain ⟨t, rfl⟩ := r
  cases (show T = "str" from ty)
  exact ⟨typeIs_str s z t, fun _ e => nomatch e⟩
 | int i =>
  obtain ⟨t, rfl⟩ := r
  cases (show T = "int" from ty)
  exact ⟨typeIs_int s i t, fun _ e => nomatch e⟩
 | ref p =>
  cases r
  rcases ty with ⟨rfl, xs, hq⟩ | ⟨rfl, o, hk, hc, hd⟩ | ⟨rfl, hk⟩ | ⟨rfl, S, n, hk⟩
  ·obtain ⟨its, _, pl, _⟩ := I.list hq
   refine ⟨pl.isList.typeIs, fun a e => ?_⟩
   cases e
   obtain ⟨o, n, e, c, hd, _⟩ := pl
   exact ⟨o, e, hd⟩
  ·refine ⟨⟨o, I.kIn p o hk, hc⟩, fun a e => ?_⟩
   cases e
   exact ⟨o, I.kIn _ o hk, hd⟩
  ·have z : ∃ o, s.heap.get? p = some o /\ o.ExactDict := by
    rcases hk with ⟨kvs, hk⟩ | ⟨kvs, hk⟩
    ·obtain ⟨_, _, _, _, o, _, _, e, ex, _⟩ := I.hok p _ hk
     exact ⟨o, e, ex⟩
    ·obtain ⟨_, _, _, _, o, _, _, e, ex, _⟩ := I.hok p _ hk
     exact ⟨o, e, ex⟩
   obtain ⟨o, e, ex⟩ := z
   refine ⟨⟨o, e, ex.1⟩, fun a e2 => ?_⟩
   cases e2
   exact ⟨o, e, ex.2.1⟩
  ·obtain ⟨o, _, _, _, e, ex, _⟩ := I.hok p _ hk
   refine ⟨⟨o, e, ex.1⟩, fun a e2 => ?_⟩
   cases e2
   exact ⟨o, e, ex.2.1⟩
 | _ => exact False.elim ty
variable {o e : Expr} {es : List Expr} {to : TE} {t : TA} {name : Str} {apos cpos : Pos} {T id : String} {r : V -> List V -> Hp -> VK -> Prop}
/- xs.append(e), list.index on a module's tuple .. are MtR facts of 06m -/
end
def MtM (X : Cx) (id : String) (r : V -> List V -> Hp -> VK -> Prop) : Prop :=
 ∀ (pins : List (Addr × Obj)) (s : Shared) (σ : St) (H : Hp) (x : V) (xs : List V) (v : Value) (us : List Value) (Q : VK), Inv X pins σ H s -> RelV x v -> Vals xs us -> r x xs H Q ->
  wpAny (model X.prog X.w) X.A (call (.builtin id) (v :: us)) (EP X pins σ Q) X.xe s
theorem Vals.one : ∀ {x : V} {us : List Value}, Vals [x] us -> ∃ u, us = [u] /\ RelV x u
 | _, _, .cons r .nil => ⟨_, rfl, r⟩
theorem Vals.two : ∀ {x y : V} {us : List Value}, Vals [x, y] us -> ∃ u v, us = [u, v] /\ RelV x u /\ RelV y v
 | _, _, _, .cons r (.cons q .nil) => ⟨_, _, rfl, r, q⟩
section
variable {X : Cx} {pins : List (Addr × Obj)} {σ : St} {H : Hp} {s : Shared} {l b : Addr} {xs ys zs : List V}
theorem Inv.lset {its its' : List Value} {n : Nat} {f : Array Value -> Array Value} {t' : Nat} (I : Inv X pins σ H s) (hH : H l = some (.lst xs))
  (e : s.heap.get? l = some { cls := .type "list", data := .seq its.toArray n }) (hf : f its.toArray = its'.toArray) (hv : Vals ys its') (hz : ys.length <= sizeLine) :
  Inv X pins σ (upd H l (.lst ys)) { s with heap := s.heap.update l (Obj.mapSeq f), toks := t' } := by
 have q := PySem.IsL.update e f
 rw [hf] at q
 refine I.write (x := l) (e := l) (by rw [hH]; exact trivial) (.inl rfl) (fun b' u hb hu => (Heap.get?_update_other s.heap (Obj.mapSeq f) (Ne.symm hb)).trans hu) ⟨_, q⟩ ?_
 exact ⟨hz, its', _, hv, q⟩
theorem Inv.lnew {its : List Value} {t' : Nat} (I : Inv X pins σ H s) (hv : Vals ys its) (hz : ys.length <= sizeLine) :
  Inv X pins σ (upd H s.heap.objs.size (.lst ys)) { s with heap := s.heap.push { cls := .type "list", data := .seq its.toArray }, toks := t' } :=
 I.laid (fun _ _ q => Heap.get?_push_of_some _ q) (Nat.le_refl _) ⟨hz, its, 0, hv, Heap.get?_push_size _ rfl⟩
theorem Inv.fresh (I : Inv X pins σ H s) : H s.heap.objs.size = none := I.hok.fresh (Nat.le_refl _)
theorem Inv.lstM (I : Inv X pins σ H s) (hH : H l = some (.lst xs)) : xs.length <= sizeLine /\ ∃ (its : List Value) (n : Nat), Vals xs its /\ xs.length = its.length /\ s.heap.get? l = some { cls := .type "list", data := .seq its.toArray n } := by
 obtain ⟨z, its, n, r, e⟩ := I.hok l _ hH
 exact ⟨z, its, n, r, r.length, e⟩
theorem Uw {n : Nat} (h : n <= sizeLine) : Builtin.List.listTooLong n = false := by
 unfold Builtin.List.listTooLong
 exact decide_eq_false (by omega)
end
section
variable {X : Cx}
def Cb : V -> List V -> Hp -> VK -> Prop := fun x vs H Q => ∃ l xs y, x = .ref l /\ vs = [y] /\ H l = some (.lst xs) /\ xs.length < sizeLine /\ Q .non (upd H l (.lst (xs ++ [y])))
theorem Ke : MtM X "list.append" Cb := by
 intro pins s σ H x vs v us Q I rx rv h
 obtain ⟨l, xs, y, rfl, rfl, hH, hz, q⟩ := h
 cases rx
 obtain ⟨u, rfl, ru⟩ := rv.one
 obtain ⟨z, its, n, r, hl, e⟩ := I.lstM hH
 refine call_meets F.slot_list_append ⟨_, e, rfl⟩ F.entry_list_append (F.args_list_append_2 _ _) (PySem.list_append l its.toArray n u (by rw [List.size_toArray]; omega)) ⟨e, ?_⟩
 refine ⟨.non, _, I.lset (its' := its ++ [u]) hH e (by simp) (r.append (.cons ru .nil)) ?_, rfl, q⟩
 rw [List.length_append, List.length_singleton]
 omega
def Fh : V -> List V -> Hp -> VK -> Prop := fun x vs H Q => ∃ l b xs zs, x = .ref l /\ vs = [.ref b] /\ H l = some (.lst xs) /\ H b = some (.lst zs) /\ xs.length + zs.length <= sizeLine /\ Q .non (upd H l (.lst (xs ++ zs)))
theorem Rs : MtM X "list.extend" Fh := by
 intro pins s σ H x vs v us Q I rx rv h
 obtain ⟨l, b, xs, zs, rfl, rfl, hH, hB, hz, q⟩ := h
 cases rx
 obtain ⟨u, rfl, ru⟩ := rv.one
 cases ru
 obtain ⟨z, its, n, r, hl, e⟩ := I.lstM hH
 obtain ⟨z2, its2, n2, r2, hl2, e2⟩ := I.lstM hB
 have hsz : its.toArray.size + its2.toArray.size <= sizeLine := by rw [List.size_toArray, List.size_toArray]; omega
 have hlong : ¬ (!its.toArray.isEmpty && Builtin.List.listTooLong (its.toArray.size + its2.toArray.size)) = true := by
  rw [Uw hsz, Bool.and_false]
  exact Bool.false_ne_true
 refine call_meets F.slot_list_extend ⟨_, e, rfl⟩ F.entry_list_extend (F.args_list_extend_2 _ _)
  (AutoSeq1.list_extend_list_list_0 l its.toArray n b its2.toArray n2 hlong (by rw [List.size_toArray]; omega) (by omega)) ⟨e, e2, ?_⟩
 refine ⟨.non, _, I.lset (its' := its ++ its2) hH e (by simp) (r.append r2) ?_, rfl, q⟩
 rw [List.length_append]
 omega
def rCat : R2 := fun x y H Q => ∃ l b xs zs, x = .ref l /\ y = .ref b /\ H l = some (.lst xs) /\ H b = some (.lst zs) /\ xs.length + zs.length <= sizeLine /\ ∀ p, H p = none -> Q (.ref p) (upd H p (.lst (xs ++ zs)))
theorem op_cat : OpR X (binaryOp .Add) rCat := by
 intro pins s σ H x y v u Q I rx ry h
 obtain ⟨l, b, xs, zs, rfl, rfl, hH, hB, hz, q⟩ := h
 cases rx
 cases ry
 obtain ⟨z, its, n, r, hl, e⟩ := I.lstM hH
 obtain ⟨z2, its2, n2, r2, hl2, e2⟩ := I.lstM hB
 refine PySem.P.add_list e e2 ?_ (by rw [List.size_toArray, List.size_toArray]; omega)
 have ea : its.toArray ++ its2.toArray = (its ++ its2).toArray := by simp
 rw [ea]
 exact ⟨.ref _, _, I.lnew (t' := s.toks) (r.append r2) (by rw [List.length_append]; omega), rfl, q _ I.fresh⟩
end
section
variable {prog : Program} {w : World} {A : Around} {E : Value -> Shared -> Prop} {s : Shared}
set_option maxRecDepth 100000 in
end
section
variable {X : Cx}
end
end L2
namespace Att
open PySem PySem.W PySem.Calls PyProof.Rows
theorem Go {P : Params} {h : Heap} : ∀ (ns : List Int) (vs : List Value), WellAll P h vs (ns.map WData.int) -> IntsAre vs ns := by
 intro ns
 induction ns with
 | nil =>
  intro vs w
  rw [List.map_nil] at w
  cases w
  exact .nil
 | cons n ns ih =>
  intro vs w
  rw [List.map_cons] at w
  cases w with
  | cons a b =>
   cases a
   exact .cons _ _ (ih _ b)
theorem Sf {l : OpenLaw} {n : Nat} (hn : l.most = some n) {P : Params} {h : Heap} {args : List WData} {vals : List Value}
  (hpre : l.row.toRowW.claim.pre args = true) (hwl : WellAll P h vals args) :
  ∃ a vs ns, vals = [Value.ref a] /\ args = [WData.list (ns.map WData.int)] /\ h.get? a = some { cls := .type "list", data := .seq vs.toArray } /\ IntsAre vs ns /\ ns.length <= n := by
 have hsh : WShape.hasAll [] args [.list .int] = true := (pre_splitW hpre).1
 have hc : l.pre.holds [] { args := args } = true := (pre_splitW hpre).2
 obtain ⟨d, r, rfl, h1, h2⟩ := hasAllW_cons hsh
 obtain rfl := hasAllW_nil h2
 obtain ⟨xs, rfl, h3⟩ := hasW_list h1
 obtain ⟨ns, rfl⟩ := items_int h3
 have hlen : ns.length <= n := by
  unfold OpenLaw.pre at hc
  have h4 : (WTm.not (.lt (.lit (.int (n : Int))) (.len (.arg 0)))).holds [] { args := [.list (ns.map .int)] } = true := by
   have h4 := (holds_andW hc).1
   rw [hn] at h4
   exact h4
  have h5 := condW_of h4 (w_not (w_lt w_lit (w_len_list (w_arg rfl))))
  rw [List.length_map] at h5
  refine Nat.le_of_not_lt fun q => ?_
  have q' : (n : Int) < ((ns.length : Nat) : Int) := by omega
  first
   | (rw [decide_eq_true q'] at h5; exact absurd h5 (by decide))
   | (simp at h5; omega)
 cases hwl with
 | cons w1 w2 =>
  cases w2
  cases w1 with
  | list ho hall => exact ⟨_, _, ns, rfl, rfl, ho, Go ns _ hall, hlen⟩
theorem R5 (l : OpenLaw) (args : List WData) : l.row.toRowW.claim.post args (.bool true) args = true :=
 postW_of (r := l.row.toRowW) (X := (true == true))
  (show WShape.has [] (.bool true) .bool = true by first | rfl | decide | simp [WShape.has, WShape.arms, WShape.armsAll])
  (show (WTm.eq .res (.lit (.bool true))).value [] { args := args, res := some (.bool true), after := args } = some (.bool (true == true)) from w_eq_bool (w_res rfl) w_lit) rfl
theorem attach_call {l : OpenLaw} {n : Nat} {q : Program} {loose : List Str} {XP : (Str -> Option Value) -> Heap -> Prop} {YP : World -> Heap -> Prop} {d : DefRec}
  (hn : l.most = some n) (hdf : d.params.defaults = [])
  (call : ∀ (w : World) (s₀ s₁ : Shared) (mg mb : Str -> Option Value) (fa : Addr) (o : Obj) (pm cd doc : Value) (a : Addr) (vs : List Value) (ns : List Int),
   Ground q loose [] XP w s₀ mg mb s₁.heap -> YP w s₁.heap ->
   s₁.heap.get? fa = some o -> o.data = .func (docDef d.name d.params d.body d.scope pm cd doc) -> s₁.heap.CodeRec cd d.name -> mg d.name = some (.ref fa) ->
   s₁.heap.get? a = some { cls := .type "list", data := .seq vs.toArray } -> IntsAre vs ns -> ns.length <= n -> s₁.gens = #[] ->
   codeAny (model l.prog w) callerA (.call (.ref fa) ⟨[.ref a], []⟩) (fun r s' => r = .ok (.ret (.bool true)) /\ OldK s₁.heap s'.heap /\ s'.os = s₁.os /\ AllBare s'.gens) s₁) :
  WalkO q loose XP YP l.row.toRowW d [] (fun f vs => PySem.call f vs) := by
 intro w s₀ s₁ mg mb G Y fa o pm cd doc dV kV ho hd hcd hD hmg hg args vals as hpre hlay hrd hwl hlo
 obtain rfl : dV = .none := Dflts.none hD hdf
 obtain rfl : kV = .none := Dflts.noKw hD
 obtain ⟨a, vs, ns, rfl, rfl, hobj, hints, hlen⟩ := Sf hn hpre hwl
 refine enter_call (codeAny_mono (call w s₀ s₁ mg mb fa o pm cd doc a vs ns G Y ho (fd_plain hd) hcd hmg hobj hints hlen hg) fun r s' hq => ?_)
 obtain ⟨rfl, h2, h3, h4⟩ := hq
 exact ⟨.inl ⟨.bool true, .bool true, [], rfl, fun _ => rfl, .bool true, R5 l _, fun _ => ⟨List.Pairwise.nil, fun _ hm => (nomatch hm)⟩⟩, h2, h3, h4⟩
section
variable {prog : Program} {w : World} {A : Around} {E : Value -> Shared -> Prop} {s : Shared} {K : Frag}
end
end Att
namespace L2
open PySem PySem.Spec PyProof.Rows
theorem Ku : ∀ {vs : List Value} {ns : List Int}, IntsAre vs ns -> Vals (ns.map V.int) vs
 | _, _, .nil => .nil
 | _, _, .cons n t h => .cons ⟨t, rfl⟩ (Ku h)
def Only (H : Hp) : Prop := ∀ b, H b = none \/ ∃ o xs, H b = some (.frz o (.lst xs))
theorem Uj {P : Program} {w : World} {K : PySem.W.Frag} {mg mb : Str -> Option Value} {CX : CXT} {k : Nat} {fa a : Addr} {fd : FuncData} {x : Str} {sp : Sp} {s₁ : Shared} {vs : List Value} {ns : List Int}
  (KX : K.In s₁.heap) (hns : s₁.heap.Ns mainGlobals mg) (hb : s₁.heap.Ns builtinsNs mb) (hbb : ∀ x : Str, x ≠ "__name__" -> mb x = bootBuiltins x) (hlim : s₁.heap.NoLimit) (hg : s₁.gens = #[])
  (ha : s₁.heap.get? a = some { cls := .type "list", data := .seq vs.toArray }) (hi : IntsAre vs ns) (hl : ns.length <= sizeLine) (hr : Room k callerA)
  (F : ∀ base : Heap, K.In base -> base.Ns mainGlobals mg -> FnOk P w K mg base CX k fa fd [x] sp) (hbind : ∀ (s : Shared) (u : Value), BindsTo s fd ⟨[u], []⟩ [(x, u)])
  (hsp : ∀ H : Hp, Only H -> SqL K H a (ns.map V.int) -> sp [.ref a] H (fun v _ => v = .bl true) fun _ _ _ => False)
  (hCX : ∀ H e s', CX [] H s₁ (fun _ _ _ => False) e s' -> False) :
  codeAny (model P w) callerA (.call (.ref fa) ⟨[.ref a], []⟩) (fun r s' => r = .ok (.ret (.bool true)) /\ OldK s₁.heap s'.heap /\ s'.os = s₁.os /\ AllBare s'.gens) s₁ := by
 have rv := Ku hi
 have lenV := hi.length
 have core : ∀ H : Hp, Only H -> SqL K H a (ns.map V.int) -> HOk P w H s₁.heap -> (∀ b, H b ≠ none -> b = a) -> (H a ≠ none -> K.lookup a = none) ->
   codeAny (model P w) callerA (.call (.ref fa) ⟨[.ref a], []⟩) (fun r s' => r = .ok (.ret (.bool true)) /\ OldK s₁.heap s'.heap /\ s'.os = s₁.os /\ AllBare s'.gens) s₁ := by
  intro H hO hS hok hA hK
  have base_of : ∀ {b : Addr} {o : Obj}, s₁.heap.get? b = some o -> H b = none -> (hidT s₁.heap H).get? b = some o := fun e n => Ud e n
  have noA : ∀ {b : Addr} {o : Obj} {es : Array DictEntry} {ep : Nat}, s₁.heap.get? b = some o -> o.data = .dict es ep -> H b = none := fun {b o es ep} e d => by
   cases q : H b with
   | none => rfl
   | some u =>
    have e' : b = a := hA b (by rw [q]; simp)
    subst e'
    rw [ha] at e; cases e
    have d' : Data.seq vs.toArray _ = Data.dict es ep := d
    cases d'
  have nsK : ∀ {b : Addr} {m : Str -> Option Value}, s₁.heap.Ns b m -> (hidT s₁.heap H).Ns b m := fun {b m} ⟨o, es, ep, e, d, r⟩ => ⟨o, es, ep, base_of e (noA e d), d, r⟩
  have hKb : K.In (hidT s₁.heap H) := fun b o e => base_of (KX b o e) (by
   cases q : H b with
   | none => rfl
   | some u =>
    have e' : b = a := hA b (by rw [q]; simp)
    subst e'
    rw [hK (by rw [q]; simp)] at e; cases e)
  have hM : Mod K mg (hidT s₁.heap H) := ⟨hKb, nsK hns, ⟨mb, nsK hb, hbb⟩, let ⟨mc, h1, h2⟩ := hlim; ⟨mc, nsK h1, h2⟩⟩
  have e0 : Env0 P w K mg (hidT s₁.heap H) callerA [] s₁ H := ⟨rfl, hM, fun b o e => Xn e, Nat.le_of_eq (Rh _ _), trivial, fun b hb => absurd (show b ∈ ([] : List Addr) from hb) (by simp), hok, .of_eq hg⟩
  refine codeAny_mono ((F _ hKb (nsK hns)).run callerA [] s₁ H ⟨[.ref a], []⟩ [.ref a] [.ref a] _ _ hr e0 (hbind s₁ (.ref a)) (.cons rfl .nil) (hsp H hO hS)) fun r s' h => ?_
  cases r with
  | error e => exact (hCX H e s' h).elim
  | ok fl =>
   cases fl with
   | next => exact False.elim h
   | brk => exact False.elim h
   | cont => exact False.elim h
   | ret u =>
    obtain ⟨v, H', os, bare, un, hok', r', q⟩ := h
    have q' : v = .bl true := q
    subst q'
    obtain rfl : u = Value.bool true := r'
    refine ⟨rfl, OldK.of_keep fun b o e => ?_, os, bare⟩
    cases q : H b with
    | none => exact un.keep b o e q (by intro z; exact absurd (show b ∈ ([] : List Addr) from z) (by simp)) (by simp)
    | some u =>
     rcases hO b with z | ⟨ob, xs, z⟩
     ·rw [q] at z; cases z
     ·have z2 := un.frzs b ob _ z
      obtain ⟨e1, _⟩ := hok b _ z
      obtain ⟨e2, _⟩ := hok' b _ z2
      rw [e] at e1; cases e1
      exact e2
 cases hk : K.lookup a with
 | some o =>
  have e := KX a o hk
  rw [ha] at e
  cases e
  refine core (fun _ => none) (fun _ => .inl rfl) (.inr ⟨_, vs.toArray, _, hk, rfl, rfl, rfl, by rw [List.size_toArray, lenV]; exact hl, by simpa using rv⟩) (fun b u z => by have z' : (none : Option HO) = some u := z; cases z') (fun b z => absurd rfl z) fun z => absurd rfl z
 | none =>
  refine core (fun b => if b = a then some (.frz { cls := .type "list", data := .seq vs.toArray } (.lst (ns.map V.int))) else none) (fun b => ?_) (.inl (.inr ⟨{ cls := .type "list", data := .seq vs.toArray }, if_pos rfl⟩)) (fun b u z => ?_) (fun b z => ?_) fun _ => hk
  ·by_cases hb : b = a
   ·exact .inr ⟨_, _, if_pos hb⟩
   ·exact .inl (if_neg hb)
  ·by_cases hb : b = a
   ·have z' := (if_pos hb).symm.trans z
    cases z'
    subst hb
    exact ⟨ha, by rw [List.length_map]; exact hl, vs, _, rv, ha⟩
   ·have z' := (if_neg hb).symm.trans z
    cases z'
  ·by_cases hb : b = a
   ·exact hb
   ·exact absurd (if_neg hb) z
theorem walk_of {l : PySem.W.OpenLaw} {n k : Nat} {q : Program} {loose : List Str} {XP : (Str -> Option Value) -> Heap -> Prop} {YP : World -> Heap -> Prop} {d : DefRec} {K : Params -> PySem.W.Frag} {CX : World -> CXT} {sp : World -> Sp} {x : Str}
  (hn : l.most = some n) (hn2 : n <= sizeLine) (hdf : d.params.defaults = []) (hr : Room k callerA)
  (hY : ∀ (w : World) (h : Heap), YP w h -> (K w.params).In h)
  (F : ∀ (w : World) (mg : Str -> Option Value) (fa : Addr) (h : Heap), (K w.params).In h -> h.Ns mainGlobals mg -> mg d.name = some (.ref fa) ->
   ∃ fd : FuncData, (∀ (s : Shared) (u : Value), BindsTo s fd ⟨[u], []⟩ [(x, u)]) /\
    ∀ base : Heap, (K w.params).In base -> base.Ns mainGlobals mg -> FnOk l.prog w (K w.params) mg base (CX w) k fa fd [x] (sp w))
  (hsp : ∀ (w : World) (H : Hp) (a : Addr) (ns : List Int), ns.length <= n -> Only H -> SqL (K w.params) H a (ns.map V.int) -> sp w [.ref a] H (fun v _ => v = .bl true) fun _ _ _ => False)
  (hCX : ∀ (w : World) (H : Hp) (s : Shared) (e : Value) (s' : Shared), CX w [] H s (fun _ _ _ => False) e s' -> False) :
  PySem.W.WalkO q loose XP YP l.row.toRowW d [] (fun f vs => PySem.call f vs) := by
 refine Att.attach_call hn hdf fun w s₀ s₁ mg mb fa o pm cd doc a vs ns G Y ho hd hcd hmg hobj hints hlen hg => ?_
 have KX := hY w _ Y
 obtain ⟨fd, hb, hF⟩ := F w mg fa _ KX G.T.g hmg
 exact Uj KX G.T.g G.T.b G.T.builtins G.T.nolimit hg hobj hints (Nat.le_trans hlen hn2) hr hF hb (fun H hO hS => hsp w H a ns hlen hO hS) fun H e s' => hCX w H s₁ e s'
end L2
/- THE LAST THEOREM (shape; LID, My.* are yours):
   My.Adr: a structure of the addresses that your layer names (classes, functions); My.Txt K t: a structure (Prop) of the equations over K;
   My.txt_mk : {K} {implicit addresses ..} (e1 : nsIn K mainGlobals "law" = some (some (.ref f))) (e2 : K.lookup f = some ⟨oc, od, .func (fnOf "law" "law" params body scope dV kV doc pm an cdv ct), sl⟩) (e3 : codeIn K cdv "law" = true) .. : ∃ t, My.Txt K t
set_option maxRecDepth 100000 in
set_option maxHeartbeats 0 in
theorem PySem.Challenge.cw_LID_holds : PySem.Challenge.rw_LID.Holds := by
 w_on; o_law; k_head; (case hw => w_witness2)
 k_fill
 refine L2.walk_of (l := PySem.Challenge.rw_LID) (n := 63) (k := 40) (x := "script") (CX := fun w => ..) (sp := fun _ => My.sp_law) rfl (by decide) rfl ⟨rfl, by decide, by decide⟩ (fun w h Y => PySem.W.kIn_of Y) ?F ?S ?C
 case F =>
  intro w mg fa h KX G hmg
  have T : ∃ t, My.Txt (L2.KOf KX) t := by
   dsimp only [L2.KOf]                          -- K must stand as «<heap const> w.params» for k_is
   refine' My.txt_mk ?e1 ?e2 ?e3 ..
   (case e1 => PySem.W.k_is)                    -- in the order: a name -> its address -> its object -> its parts
   (case e2 => PySem.W.k_is)
   ..
  obtain ⟨t, T⟩ := T
  have e0 := hmg.symm.trans (PySem.W.mg_of KX G T.law)
  cases e0                                       -- fa is the law's own address
  exact ⟨_, fun s u => .of_eq rfl, fun base kb nb => My.law_fn T kb nb⟩     -- if «.of_eq rfl» comes too early: refine' ⟨_, ?b, fun base kb nb => My.law_fn T kb nb⟩; exact fun s u => .of_eq rfl
 case S => exact fun w H a ns hl hO hS => ..
 case C => exact ..
(the tactic k_is has no namespace: write k_is) -/
namespace L2
open PySem PySem.Spec PyProof.Rows
def Di (s : Stmt) (j : Nat) : Stmt := match s with
 | .ClassDef _ _ _ body _ _ _ _ _ _ _ => body.getD j (.Pass ⟨0, 0, 0, 0⟩)
 | _ => .Pass ⟨0, 0, 0, 0⟩
def Bf (s : Stmt) : Arguments := match s with
 | .FunctionDef _ a _ _ _ _ _ _ _ _ => a
 | _ => { posonlyargs := [], args := [], vararg := none, kwonlyargs := [], kw_defaults := [], kwarg := none, defaults := [] }
def Ag (s : Stmt) : List Stmt := match s with
 | .FunctionDef _ _ b _ _ _ _ _ _ _ => b
 | _ => []
def Ab (s : Stmt) : Scope := match s with
 | .FunctionDef _ _ _ _ _ _ sc _ _ _ => sc
 | _ => { kind := .function, names := [], isGenerator := false, isCoroutine := false }
abbrev CX0 : CXT := fun _ _ _ _ _ _ => False
structure Fun (K : PySem.W.Frag) (x qual : Str) (st : Stmt) (f : Addr) (fd : FuncData) : Prop where
 ex : ∃ (oc : Value) (od : Option Addr) (kV doc pm : Value) (an : Option Addr) (cdv ct : Value) (osl : Array (Option Value)),
  fd = PySem.W.fnOf x qual (Bf st) (Ag st) (Ab st) .none kV doc pm an cdv ct /\ K.lookup f = some ⟨oc, od, .func fd, osl⟩ /\ PySem.W.codeIn K cdv qual = true
 kp : PySem.W.keepIn K (.ref f) = true
section
variable {P : Program} {w : World} {K : PySem.W.Frag} {mg : Str -> Option Value} {base : Heap}
theorem Fun.binds {x qual : Str} {st : Stmt} {f : Addr} {fd : FuncData} {ps : List Str} (F : Fun K x qual st f fd)
  (h : ∀ (kV doc pm : Value) (an : Option Addr) (cdv ct : Value) (us : List Value), us.length = ps.length -> bindArgs (PySem.W.fnOf x qual (Bf st) (Ag st) (Ab st) .none kV doc pm an cdv ct) ⟨us, []⟩ = pure (ps.zip us)) : Binds K fd ps [] := by
 obtain ⟨oc, od, kV, doc, pm, an, cdv, ct, osl, rfl, lk, hcd⟩ := F.ex
 exact .all (h kV doc pm an cdv ct)
theorem N1 {x qual : Str} {st : Stmt} {f : Addr} {oc : Value} {od an : Option Addr} {osl : Array (Option Value)} {kV doc pm cdv ct : Value} (l : K.lookup f = some ⟨oc, od, .func (PySem.W.fnOf x qual (Bf st) (Ag st) (Ab st) .none kV doc pm an cdv ct), osl⟩)
  (c : PySem.W.codeIn K cdv qual = true) (k : PySem.W.keepIn K (.ref f) = true) : Fun K x qual st f (PySem.W.fnOf x qual (Bf st) (Ag st) (Ab st) .none kV doc pm an cdv ct) := ⟨⟨oc, od, kV, doc, pm, an, cdv, ct, osl, rfl, l, c⟩, k⟩
end
section
variable {X : Cx}
end
theorem iteF {A B : Prop} (h : B) : if false = true then A else B := by
 rw [if_neg Bool.false_ne_true]
 exact h
theorem iteT {A B : Prop} (h : A) : if true = true then A else B := by
 rw [if_pos rfl]
 exact h
theorem ite2 {c A B : Prop} [Decidable c] (h1 : c -> A) (h2 : ¬ c -> B) : if c then A else B := by
 by_cases h : c
 ·rw [if_pos h]
  exact h1 h
 ·rw [if_neg h]
  exact h2 h
def Same (H H' : Hp) : Prop := ∀ b o, H b = some o -> H' b = some o
theorem Same.refl (H : Hp) : Same H H := fun _ _ h => h
theorem Same.trans {H H1 H2 : Hp} (a : Same H H1) (b : Same H1 H2) : Same H H2 := fun c o h => b c o (a c o h)
theorem Same.free {H H' : Hp} (e : Same H H') {l : Addr} (h : H' l = Option.none) : H l = Option.none := by
 cases q : H l with
 | none => rfl
 | some o =>
  rw [e l o q] at h
  cases h
def Cx.comp (X : Cx) (N' : List Str) (scope : Scope) (cl : List (Str × Addr)) (fp : List Addr) (C : Addr) (s : Shared) (H : Hp) (xe : Value -> Shared -> Prop) : Cx :=
 {prog := X.prog, w := X.w, K := X.K, mg := X.mg, base := X.base, A := X.A, N := N', s₀ := s, H₀ := H, env := compEnvC scope cl C X.env, outer := X.stack, stack := X.stack,
  ex := fp, fn := fun x => (cl.lookup x).isNone, calm := X.calm, pn := [], xe := xe }
def capt (srcs : List (Option Nat)) (σ : St) : St := srcs.map fun o => o.bind fun j => (σ[j]?).join
structure G6 (X : Cx) (N' : List Str) (srcs : List (Option Nat)) (scope : Scope) (cl : List (Str × Addr)) : Prop where
 clos : closureFor scope X.env = pure cl
 nocell : ∀ y ∈ scope.names, y.2 ≠ .cell
 kind : scope.kind = .function
 names : ∀ y ∈ scope.names, y.2 = .local -> scope.names.lookup y.1 = some .local
 sub : ∀ x c, cl.lookup x = some c -> X.env.cells.lookup x = some c
 has : ∀ x, ((relabel scope X.env).names.lookup x = some .cell \/ (relabel scope X.env).names.lookup x = some .free) -> ∃ c, cl.lookup x = some c
 len : srcs.length = N'.length
 src : ∀ (k j : Nat) (x : Str), N'[k]? = some x -> srcs[k]? = some (some j) -> X.N[j]? = some x /\ (X.env.scope.names.lookup x = some .cell \/ X.env.scope.names.lookup x = some .free) /\
  ((relabel scope X.env).names.lookup x = some .cell \/ (relabel scope X.env).names.lookup x = some .free)
def PIfs (X : Cx) (ifs : List Expr) (t : TT) : Prop :=
 ∀ (pins : List (Addr × Obj)) (s : Shared) (σ : St) (H : Hp) (Q : Bool -> Hp -> Prop), Inv X pins σ H s -> t σ H Q ->
  wpAny (model X.prog X.w) X.A (forIn ifs true fun c r => if r = true then do let ok <- isTrue c X.env (eval c X.env); pure (ForInStep.yield ok) else pure (ForInStep.yield r)) (TP X pins σ Q) X.xe s
def tYes : TT := fun _ H Q => Q true H
theorem U5 {X : Cx} : PIfs X [] tYes := fun _ _ _ H _ I h => wpAny_tests_nil ⟨H, I, h⟩
theorem U6 {X : Cx} {c : Expr} {t : TT} (h : PT X c t) : PIfs X [c] t := fun pins s σ H Q I q => wpAny_tests_one (h pins s σ H Q I q)
def Wf (srcs : List (Option Nat)) (wi : TI) (g : TG) (tc : TT) (te : TE) : TE := fun σ H Q => wi σ H fun J H1 => ∀ D, H1 D = none ->
 ∃ W : Nat -> Nat -> St -> Hp -> Prop, (∃ m, W 0 m (capt srcs σ) (upd H1 D (.lst []))) /\ ∀ i m σ' H', W i m σ' H' ->
  (J.stop i H' /\ Q (.ref D) H') \/ (J.go i H' /\ ∃ N : St -> Hp -> Prop, (∀ σ2 H2, N σ2 H2 -> ∃ m', m' < m /\ W (i + 1) m' σ2 H2) /\ ∀ x H2, J.yld i H' x H2 -> g x σ' H2 fun σ3 H3 => tc σ3 H3 fun b H4 => if b = true then
    te σ3 H4 fun v H5 => ∃ ys, H5 D = some (.lst ys) /\ ys.length < sizeLine /\ N σ3 (upd H5 D (.lst (ys ++ [v])))
   else N σ3 H4)
section
variable {g : TG} {tc : TT} {te : TE} {D : Addr} {R : Hp -> Prop} {σ : St} {H : Hp}
end
section
variable {prog : Program} {w : World} {A : Around} {E : Value -> Shared -> Prop} {R : Result -> Shared -> Prop} {s : Shared}
theorem K2 {elt target iter : Expr} {ifs : List Expr} {scope : Scope} {pos : Pos} {it acc : Value} {env : Env} (I : Nat -> Shared -> Prop)
  (turn : ∀ n s, I n s -> wpAny (model prog w) A (pyNext it) (fun r s₁ => match r with
   | none => R (.ok .next) s₁
   | some v => wpAny (model prog w) A (letOwnedTupleGo target it v) (fun _ s₀ => wpAny (model prog w) A (assign target env v) (fun _ s₂ =>
     wpAny (model prog w) A (forIn ifs true fun c r => if r = true then do let ok <- isTrue c env (eval c env); pure (ForInStep.yield ok) else pure (ForInStep.yield r)) (fun ok s₃ =>
      if ok = true then wpAny (model prog w) A (eval elt env) (fun x s₄ =>
       wpAny (model prog w) A (call (.builtin "list.append") [acc, x]) (fun _ s₅ => ∃ m, m < n /\ I m s₅) (notedBy (model prog w) A env fun e s' => R (.error e) s') s₄) (notedBy (model prog w) A env fun e s' => R (.error e) s') s₃
      else ∃ m, m < n /\ I m s₃) (notedBy (model prog w) A env fun e s' => R (.error e) s') s₂) (notedBy (model prog w) A env fun e s' => R (.error e) s') s₀) (notedBy (model prog w) A env fun e s' => R (.error e) s') s₁) (notedBy (model prog w) A env fun e s' => R (.error e) s') s)
  (n : Nat) (h : I n s) :
  codeAny (model prog w) A (.compLoop (.ListComp elt [⟨target, iter, ifs, 0⟩] scope pos) 0 it acc env) R s := by
 refine codeAny_loop rfl I (fun n s hI => ?_) n h
 show wpAny _ A ((compTurn (.ListComp elt [⟨target, iter, ifs, 0⟩] scope pos) 0 it acc env).onRaise (fun x => do noteFrame x env; theTreesLotGoes x)) _ _ s
 refine wpAny_noted ?_
 rw [compTurn_list]
 refine wpAny_bind (wpAny_standAt (wpAny_bind (wpAny_mono (turn n s hI) (fun r s₁ h₁ => ?_) fun _ _ h' => h')))
 cases r with
 | none => exact wpAny_pure h₁
 | some v =>
  refine wpAny_bind (wpAny_mono h₁ (fun _ s₀ h₀ => ?_) fun _ _ h' => h')
  refine wpAny_bind (wpAny_mono h₀ (fun _ s₂ h₂ => wpAny_bind (wpAny_mono h₂ (fun ok s₃ h₃ => ?_) fun _ _ h' => h')) fun _ _ h' => h')
  cases ok with
  | false => exact wpAny_pure ⟨rfl, h₃⟩
  | true =>
   exact wpAny_bind (wpAny_bind (wpAny_mono h₃ (fun x s₄ h₄ => wpAny_bind (wpAny_mono h₄ (fun _ s₅ h₅ => wpAny_pure (wpAny_pure ⟨rfl, h₅⟩)) fun _ _ h' => h')) fun _ _ h' => h'))
end
section
variable {X : Cx} {elt tg iter : Expr} {ifs : List Expr} {scope : Scope} {pos : Pos} {N' : List Str} {srcs : List (Option Nat)} {cl : List (Str × Addr)} {wi : TI} {g : TG} {tc : TT} {te : TE}
theorem Nu {xe : Value -> Shared -> Prop} {pins : List (Addr × Obj)} {σ : St} {H : Hp} {s : Shared} {fp : List Addr} {C D : Addr} {h₁ : Heap} {tk : Nat} (S : G6 X N' srcs scope cl) (I : Inv X pins σ H s) (f : ∀ b ∈ fp, FpOk X pins H b) (fo : ∀ b ∈ fp, b < s.heap.objs.size)
  (hD : s.heap.objs.size <= D) (hC : s.heap.objs.size <= C) (hDC : C ≠ D) (hns : ∃ m, h₁.Ns C m) (old : ∀ b o, s.heap.get? b = some o -> h₁.get? b = some o) (hacc : ∃ n, h₁.get? D = some { cls := .type "list", data := .seq ([] : List Value).toArray n }) :
  Inv (X.comp N' scope cl fp C s H xe) [] (capt srcs σ) (upd H D (.lst [])) { s with heap := h₁, toks := tk } := by
 have hfD := I.hok.fresh hD
 have ok : (X.comp N' scope cl fp C s H xe).Ok := by
  refine ⟨I.ok.mod, S.kind, I.ok.glob, I.ok.blt, hC, fun x y c a b => I.ok.inj x y c (S.sub x c a) (S.sub y c b), S.has, fun x c hf hl => ?_, I.ok.hd, I.ok.frames, .inl rfl, fun b hb => ⟨?_, fun x c hl => ?_⟩, I.bs, Nat.le_trans I.ok.bsz I.sz, fun b o e hb => ?_, fun b hb hfs => ?_, I.stack, I.stkFree⟩
  ·have hl' : cl.lookup x = some c := hl
   have hf' : (cl.lookup x).isNone = true := hf
   rw [hl'] at hf'
   cases hf'
  ·exact Nat.ne_of_lt (Nat.lt_of_lt_of_le (fo b hb) hC)
  ·exact (f b hb).2.2.2.2.1 x c (S.sub x c hl)
  ·rcases (f b hb).2.2.2.1 with z | z
   ·exact I.ok.noex b o e z
   ·exact absurd (Nat.lt_of_lt_of_le (Heap.lt_size e) (Nat.le_trans I.ok.bsz z)) (Nat.lt_irrefl _)
  ·rcases List.mem_cons.mp (I.stkSub b hfs) with z | z
   ·exact (f b hb).2.1 z
   ·exact (f b hb).2.2.1 z
 obtain ⟨m0, hns⟩ := hns
 obtain ⟨nn, hacc⟩ := hacc
 refine ⟨ok, rfl, I.bare, Un.laid old hD hfD, ⟨m0, hns, fun k x v e1 e2 e3 => ?_⟩, fun x c hl => ?_, ?_, fun x c hl => ?_, fun p hp => absurd (show p ∈ ([] : List (Addr × Obj)) from hp) (by simp), I.hok.laid old hD ⟨Nat.zero_le _, [], nn, .nil, hacc⟩, ?_⟩
 ·-- the captured names
  have e1 : N'[k]? = some x := e1
  have e2 : (srcs.map fun o => o.bind fun j => (σ[j]?).join)[k]? = some (some v) := e2
  rw [List.getElem?_map] at e2
  cases hk : srcs[k]? with
  | none => rw [hk] at e2; cases e2
  | some o =>
   rw [hk] at e2
   cases o with
   | none => cases e2
   | some j =>
    have e2' : (σ[j]?).join = some v := Option.some.inj e2
    have e3' : σ[j]? = some (some v) := by
     cases hj : σ[j]? with
     | none => rw [hj] at e2'; cases e2'
     | some y => rw [hj] at e2'; exact congrArg some e2'
    obtain ⟨a1, a2, a3⟩ := S.src k j x e1 hk
    obtain ⟨m, hn, hl⟩ := I.loc
    obtain ⟨u, r, l⟩ := hl j x v a1 e3' (a2.elim (fun z => .inr (.inl z)) fun z => .inr (.inr z))
    refine ⟨u, r, .inr ⟨a3, ?_⟩⟩
    obtain ⟨c, hc⟩ := S.has x a3
    refine ⟨c, hc, ?_⟩
    rcases l with ⟨z, _⟩ | ⟨_, c', hc', o, ho, hd⟩
    ·have z' : X.env.scope.names.lookup x = some .local := z
     rcases a2 with q | q <;> rw [q] at z' <;> cases z'
    ·have e := S.sub x c hc
     rw [hc'] at e
     cases e
     exact ⟨o, old _ o ho, hd⟩
 ·obtain ⟨v, o, ho, hd⟩ := I.cell x c (S.sub x c hl)
  exact ⟨v, o, old _ o ho, hd⟩
 ·show upd H D (.lst []) C = none
  rw [Af hDC]
  exact I.hok.fresh hC
 ·have hx := S.sub x c hl
  obtain ⟨v, o, ho, hd⟩ := I.cell x c hx
  rw [Af (Nat.ne_of_lt (Nat.lt_of_lt_of_le (Heap.lt_size ho) hD))]
  exact I.freeC x c hx
 ·show (capt srcs σ).length = N'.length
  unfold capt
  rw [List.length_map, S.len]
def A9 (X : Cx) (scope : Scope) (cl : List (Str × Addr)) (use : Option (Value -> Sem Unit)) (Q2 : Value -> Shared -> Prop) (D C : Addr) : Value -> Shared -> Prop :=
 notedBy (model X.prog X.w) X.A (compEnvC scope cl C X.env) fun e s' => compPost (model X.prog X.w) X.A X.xe use Q2 (.ref D) C (.error e) s'
theorem Jt {pins : List (Addr × Obj)} {s : Shared} {σ : St} {H : Hp} {Q : VK} {use : Option (Value -> Sem Unit)} {Q2 : Value -> Shared -> Prop} (hc : X.calm = true) (S : G6 X N' srcs scope cl) (hi : PI X tg iter wi)
  (hb : ∀ fp C D s2 H2, Inv X pins σ H2 s2 -> (∀ b ∈ fp, FpOk X pins H2 b) -> s2.heap.objs.size <= C -> PG (X.comp N' scope cl fp C s2 H2 (A9 X scope cl use Q2 D C)) tg g /\ PIfs (X.comp N' scope cl fp C s2 H2 (A9 X scope cl use Q2 D C)) ifs tc /\ PE (X.comp N' scope cl fp C s2 H2 (A9 X scope cl use Q2 D C)) elt te)
  (I : Inv X pins σ H s) (h : Wf srcs wi g tc te σ H Q)
  (fin : ∀ (D C : Addr) (H' : Hp) (s' : Shared), Inv X pins σ H' s' -> (∃ m, s'.heap.Ns C m) -> FpOk X pins H' C -> Q (.ref D) H' -> compPost (model X.prog X.w) X.A X.xe use Q2 (.ref D) C (.ok .next) s')
  (hs : ∀ x, foldedSetIterable iter X.env x = pure x) :
  wpAny (model X.prog X.w) X.A (comprehension (.ListComp elt [⟨tg, iter, ifs, 0⟩] scope pos) scope X.env (firstIterPos [⟨tg, iter, ifs, 0⟩] pos) (newList []) false (eval iter X.env) use) Q2 X.xe s := by
 refine wpAny_comprehension_free rfl hs S.clos S.kind S.names (thn (hi pins s σ H _ I h) fun v s1 h1 => thn h1 fun itv s2 h2 => ?_)
 obtain ⟨it, fp, tn, J, H2, e, I2, T, st2, f2, q2⟩ := h2
 subst e
 refine wpAny_newObj_type (wpAny_newFunctionEnv S.nocell (by intro y hy; simp at hy) (fun h₁ hns₁ hsb₁ => ?_) S.kind)
 dsimp only at hns₁ hsb₁ ⊢
 generalize hH2 : s2.heap.push { cls := .type "list", dict := none, data := .seq ([] : List Value).toArray } = G2 at hns₁ hsb₁ ⊢
 have hCe : G2.objs.size = s2.heap.objs.size + 1 := by rw [<- hH2, Heap.size_push]
 have hDC : G2.objs.size ≠ s2.heap.objs.size := by rw [hCe]; exact Nat.ne_of_gt (Nat.lt_succ_self _)
 have hCle : s2.heap.objs.size <= G2.objs.size := by rw [hCe]; exact Nat.le_succ _
 have old : ∀ b o, s2.heap.get? b = some o -> h₁.get? b = some o := fun b o e =>
  hsb₁.extBut b o (Nat.ne_of_lt (Nat.lt_of_lt_of_le (Heap.lt_size e) hCle)) (Heap.get?_push_of_some _ (hH2 ▸ Heap.get?_push_of_some _ e))
 have hacc : ∃ n, h₁.get? s2.heap.objs.size = some { cls := .type "list", data := .seq ([] : List Value).toArray n } := ⟨_, hsb₁.extBut _ _ (Ne.symm hDC) (Heap.get?_push_of_some _ (hH2 ▸ Heap.get?_push_size _ rfl))⟩
 have fo : ∀ b ∈ fp, b < s2.heap.objs.size := fun b hb => by
  obtain ⟨o, ho, _⟩ := T.obj _ _ st2 b hb
  exact Heap.lt_size ho
 have st3 : tn 0 h₁ := T.keep _ _ _ st2 fun b _ o e => old b o e
 obtain ⟨hg, ht, he⟩ := hb fp G2.objs.size s2.heap.objs.size s2 H2 I2 f2 hCle
 obtain ⟨W, ⟨m0, w0⟩, turn⟩ := q2 s2.heap.objs.size (I2.hok.fresh (Nat.le_refl _))
 have loop : ∀ s3 : Shared, s3 = { s2 with heap := h₁, toks := s2.toks + ([] : List (Str × Value)).length } ->
   codeAny (model X.prog X.w) X.A (.compLoop (.ListComp elt [⟨tg, iter, ifs, 0⟩] scope pos) 0 (.ref it) (.ref s2.heap.objs.size) (compEnvC scope cl G2.objs.size X.env))
    (compPost (model X.prog X.w) X.A X.xe use Q2 (.ref s2.heap.objs.size) G2.objs.size) s3 := by
  rintro s3 rfl
  have I3 : Inv (X.comp N' scope cl fp G2.objs.size s2 H2 (A9 X scope cl use Q2 s2.heap.objs.size G2.objs.size)) [] (capt srcs σ) (upd H2 s2.heap.objs.size (.lst [])) { s2 with heap := h₁, toks := s2.toks + ([] : List (Str × Value)).length } :=
   Nu S I2 f2 fo (Nat.le_refl _) hCle hDC ⟨_, hns₁⟩ old hacc
  have stat : ∀ {H' : Hp}, (∀ b ∈ fp, H' b = none) -> ∀ b ∈ fp, FpOk (X.comp N' scope cl fp G2.objs.size s2 H2 (A9 X scope cl use Q2 s2.heap.objs.size G2.objs.size)) [] H' b := fun hn b hb =>
   ⟨hn b hb, Nat.ne_of_lt (Nat.lt_of_lt_of_le (fo b hb) hCle), (fun z => (List.mem_cons.mp (I2.stkSub b z)).elim (f2 b hb).2.1 (f2 b hb).2.2.1), .inl hb, fun x c hl => (f2 b hb).2.2.2.2.1 x c (S.sub x c hl), fun p hp => absurd (show p ∈ ([] : List (Addr × Obj)) from hp) (by simp)⟩
  refine K2 (fun n s' => ∃ i σ' H', Inv (X.comp N' scope cl fp G2.objs.size s2 H2 (A9 X scope cl use Q2 s2.heap.objs.size G2.objs.size)) [] σ' H' s' /\ tn i s'.heap /\ (∀ b ∈ fp, H' b = none) /\ W i n σ' H') ?_ m0
   ⟨0, _, _, I3, st3, fun b hb => by rw [Af (Nat.ne_of_lt (fo b hb))]; exact (f2 b hb).1, w0⟩
  rintro n s4 ⟨i, σ4, H4, I4, st4, fr4, w4⟩
  rcases turn i n σ4 H4 w4 with ⟨stop, qn⟩ | ⟨go, NN, hNN, step⟩
  ·refine thn (T.done (X.comp N' scope cl fp G2.objs.size s2 H2 (A9 X scope cl use Q2 s2.heap.objs.size G2.objs.size)) rfl rfl rfl hc i [] s4 σ4 H4 _ I4 (stat fr4) st4 stop) fun r s5 ⟨hr, I5⟩ => ?_
   subst hr
   obtain ⟨m5, hn5, _⟩ := id I5.loc
   have I6 : Inv X pins σ H4 s5 := I2.call' (ch := fp) I5.os I5.base I5.hok I5.bare fun b hb => ⟨(f2 b hb).2.2.2.1, (f2 b hb).2.1, (f2 b hb).2.2.2.2.1, (f2 b hb).2.2.2.2.2⟩
   exact fin _ _ H4 s5 I6 ⟨m5, hn5⟩ (I2.fpOk hCle I5.free) qn
  ·refine thn (T.item (X.comp N' scope cl fp G2.objs.size s2 H2 (A9 X scope cl use Q2 s2.heap.objs.size G2.objs.size)) rfl rfl rfl hc i [] s4 σ4 H4 _ I4 (stat fr4) st4 go) fun r s5 ⟨u, hr, h5⟩ => ?_
   subst hr
   refine thn h5 fun _ s6 ⟨x, H6, I6, r6, y6, st6, fr6⟩ => ?_
   have I6' := I6.pinned (stat fr6) (T.obj _ _ st6)
   refine thn (hg _ s6 σ4 H6 x u _ I6' r6 (step x H6 y6)) fun _ s7 ⟨σ7, H7, I7, q7⟩ => ?_
   have again : ∀ {s9 : Shared} {H9 : Hp}, Inv (X.comp N' scope cl fp G2.objs.size s2 H2 (A9 X scope cl use Q2 s2.heap.objs.size G2.objs.size)) ([] ++ Fx fp s6.heap) σ7 H9 s9 -> NN σ7 H9 ->
     ∃ m, m < n /\ ∃ i σ' H', Inv (X.comp N' scope cl fp G2.objs.size s2 H2 (A9 X scope cl use Q2 s2.heap.objs.size G2.objs.size)) [] σ' H' s9 /\ tn i s9.heap /\ (∀ b ∈ fp, H' b = none) /\ W i m σ' H' := fun {s9 H9} I9 n9 => by
    obtain ⟨m', hm, w9⟩ := hNN σ7 H9 n9
    refine ⟨m', hm, i + 1, σ7, H9, I9.unpinned, T.keep _ _ _ st6 fun b hb o e => (I9.pin (b, o) (List.mem_append_right _ (List.mem_append_right _ (Dj hb e)))).1, fun b hb => ?_, w9⟩
    obtain ⟨o, e, d⟩ := T.obj _ _ st6 b hb
    exact (I9.pin (b, o) (List.mem_append_right _ (List.mem_append_right _ (Dj hb e)))).2.1
   refine thn (ht _ s7 σ7 H7 _ I7 q7) fun b s8 ⟨H8, I8, q8⟩ => ?_
   cases b with
   | false =>
    rw [if_neg Bool.false_ne_true] at q8
    exact again I8 q8
   | true =>
    rw [if_pos rfl] at q8
    refine thn (he _ s8 σ7 H8 _ I8 q8) fun y s9 ⟨v9, H9, I9, r9, ys, hD, hlen, w9⟩ => ?_
    refine thn (Ke (X := X.comp N' scope cl fp G2.objs.size s2 H2 (A9 X scope cl use Q2 s2.heap.objs.size G2.objs.size)) ([] ++ Fx fp s6.heap) s9 σ7 H9 (.ref s2.heap.objs.size) [v9] (.ref s2.heap.objs.size) [y] (fun _ H' => H' = upd H9 s2.heap.objs.size (.lst (ys ++ [v9]))) I9 rfl (.cons r9 .nil)
     ⟨_, ys, v9, rfl, rfl, hD, hlen, rfl⟩) fun _ s10 ⟨_, H10, I10, _, e10⟩ => ?_
    subst e10
    exact again I10 w9
 exact codeAny_compStart_list (loop _ rfl) (T.self X.A 0 _ _ _ st3 (loop _ rfl))
theorem Tp {pins : List (Addr × Obj)} {s : Shared} {σ : St} {H : Hp} {Q : VK} (hc : X.calm = true) (S : G6 X N' srcs scope cl) (hi : PI X tg iter wi)
  (hb : ∀ Q2 fp C D s2 H2, Inv X pins σ H2 s2 -> (∀ b ∈ fp, FpOk X pins H2 b) -> s2.heap.objs.size <= C -> PG (X.comp N' scope cl fp C s2 H2 (A9 X scope cl none Q2 D C)) tg g /\ PIfs (X.comp N' scope cl fp C s2 H2 (A9 X scope cl none Q2 D C)) ifs tc /\ PE (X.comp N' scope cl fp C s2 H2 (A9 X scope cl none Q2 D C)) elt te)
  (I : Inv X pins σ H s) (h : Wf srcs wi g tc te σ H Q) (hs : ∀ x, foldedSetIterable iter X.env x = pure x) :
  wpAny (model X.prog X.w) X.A (eval (.ListComp elt [⟨tg, iter, ifs, 0⟩] scope pos) X.env) (EP X pins σ Q) X.xe s := by
 rw [eval_ListComp]
 refine Jt (use := none) hc S hi (fun fp C D s2 H2 => hb _ fp C D s2 H2) I h (fun D C H' s' I' ns fo q => ?_) hs
 obtain ⟨m, hn⟩ := ns
 obtain ⟨f0, f1, f2, f3, f4, f5⟩ := fo
 exact ⟨m, hn, fun h' sb => ⟨.ref D, H', I'.turned (t' := s'.toks) (fun b o hb e => (sb.2 b hb).trans e) f0 f1 f3 f4 f5, rfl, q⟩⟩
theorem To {i : Nat} {x : Str} {pos' spos : Pos} {pins : List (Addr × Obj)} {s : Shared} {σ : St} {H : Hp} {D : Ends} (hc : X.calm = true) (hN : X.N.Nodup) (hx : X.N[i]? = some x) (hl : X.env.scope.names.lookup x = some .local) (S : G6 X N' srcs scope cl) (hi : PI X tg iter wi)
  (hb : ∀ us Q2 fp C D s2 H2, Inv X pins σ H2 s2 -> (∀ b ∈ fp, FpOk X pins H2 b) -> s2.heap.objs.size <= C -> PG (X.comp N' scope cl fp C s2 H2 (A9 X scope cl us Q2 D C)) tg g /\ PIfs (X.comp N' scope cl fp C s2 H2 (A9 X scope cl us Q2 D C)) ifs tc /\ PE (X.comp N' scope cl fp C s2 H2 (A9 X scope cl us Q2 D C)) elt te)
  (I : Inv X pins σ H s) (h : tAsg (Wf srcs wi g tc te) (Tz i) D σ H)
  (hsw : swapsWith (.ListComp elt [⟨tg, iter, ifs, 0⟩] scope pos) (some (.Name x pos')) spos.line X.env = pure true) (hs : ∀ x, foldedSetIterable iter X.env x = pure x) :
  wpAny (model X.prog X.w) X.A (exec (.Assign [.Name x pos'] (.ListComp elt [⟨tg, iter, ifs, 0⟩] scope pos) spos) X.env) (SP X pins D) X.xe s := by
 rw [exec_Assign_Name_used _ _ _ _ hsw]
 refine wpAny_bind (wpAny_standAt (wpAny_bind ?_))
 show wpAny _ X.A (do let _ <- comprehension (.ListComp elt [⟨tg, iter, ifs, 0⟩] scope pos) scope X.env _ (newList []) false (eval iter X.env) (some (assign (.Name x pos') X.env))) _ _ s
 refine wpAny_bind (thn (Jt (use := some (assign (.Name x pos') X.env)) (Q := fun v H' => D.nx (σ.set i (some v)) H') (Q2 := fun _ s' => SP X pins D .next s') hc S hi (fun fp C D s2 H2 => hb _ _ fp C D s2 H2) I h (fun L C H' s' I' ns fo q => ?_) hs) fun _ s' hq => wpAny_pure (wpAny_pure hq))
 obtain ⟨m, hn⟩ := ns
 obtain ⟨f0, f1, f2, f3, f4, f5⟩ := fo
 obtain ⟨oC, es, ep, hoC, hd, hr⟩ := id hn
 have I2 : Inv X (pins ++ [(C, oC)]) σ H' s' := I'.pins_of fun p hp => (List.mem_append.mp hp).elim (fun z => I'.pin p (List.mem_append_right _ z)) fun z => by
  have z' : p = (C, oC) := by simpa using z
  subst z'
  exact ⟨hoC, f0, f1, f2, fun v e => by rw [hd] at e; cases e⟩
 refine wpAny_assign_Name (Fk (i := i) (v := .ref L) I2 hN hx (.inl hl) rfl (fun s2 I3 => ?_) (.inr hl))
 have hoC' := (I3.pin (C, oC) (List.mem_append_right _ (List.mem_append_right _ (by simp)))).1
 refine ⟨m, ⟨oC, es, ep, hoC', hd, hr⟩, fun h' sb => ?_⟩
 exact ⟨_, H', (I3.unpinned).turned (t' := s2.toks) (fun b o hb e => (sb.2 b hb).trans e) f0 f1 f3 f4 f5, q⟩
end
def Its (x : Str) : It := ⟨fun i _ => i < x.cps.size, fun i H v H' => H' = H /\ ∃ c, x.cps[i]? = some c /\ v = .str ⟨#[c]⟩, fun i _ => i = x.cps.size⟩
theorem Wh {P : Program} {w : World} {K : PySem.W.Frag} {tg : Expr} (it : Addr) (x : Str) (t : Tok) (ty : String) (hty : ty = "str_ascii_iterator" \/ ty = "str_iterator") :
  Turn P w K tg (Its x) [it] it (fun i h => h.IsStrIter it ty x t i) where
 mem := by simp
 obj := fun i h st b hb => by
  have e : b = it := by simpa using hb
  subst e
  obtain ⟨o, e, c, d⟩ := st
  exact ⟨o, e, fun v z => by rw [d] at z; cases z⟩
 keep := fun i h h' st k => by
  obtain ⟨o, e, r⟩ := st
  exact ⟨o, k it (by simp) o e, r⟩
 item := by
  intro X hP hw hK hc i pins s σ H E I hf st hg
  subst hP hw hK
  obtain ⟨f0, f1, f2, f3, f4, f5⟩ := hf it (by simp)
  have W : Walks X.prog X.w X.A it [it] [it] x.cps.size (SignAt x) (fun i h => h.IsStrIter it ty x t i) := by
   rcases hty with rfl | rfl
   ·exact Walks.strAscii (I.ok.hd hc) it x t
   ·exact Walks.strWide (I.ok.hd hc) it x t
  refine W.item i s _ _ hg st fun v h' tk hv st' kk => ?_
  obtain ⟨c, u, hcp, rfl⟩ := hv
  have I1 : Inv X pins σ H { s with heap := h', toks := tk } := I.turned (fun b o hb e => kk b o (by simpa using hb) e) f0 f1 f3 f4 f5
  obtain ⟨o, e, cc, d⟩ := id st'
  exact ⟨_, rfl, J1 (s := { s with heap := h', toks := tk }) e cc d (by rcases hty with rfl | rfl <;> decide) ⟨.str ⟨#[c]⟩, H, I1, ⟨_, rfl⟩, ⟨rfl, c, hcp, rfl⟩, st', fun b hb => (hf b hb).1⟩⟩
 done := by
  intro X hP hw hK hc i pins s σ H E I hf st hg
  subst hP hw hK
  obtain ⟨f0, f1, f2, f3, f4, f5⟩ := hf it (by simp)
  have hg : i = x.cps.size := hg
  subst hg
  have W : Walks X.prog X.w X.A it [it] [it] x.cps.size (SignAt x) (fun i h => h.IsStrIter it ty x t i) := by
   rcases hty with rfl | rfl
   ·exact Walks.strAscii (I.ok.hd hc) it x t
   ·exact Walks.strWide (I.ok.hd hc) it x t
  exact W.done s _ _ st fun h' tk kk => ⟨rfl, I.turned (fun b o hb e => kk b o (by simpa using hb) e) f0 f1 f3 f4 f5⟩
 self := by
  intro A i s Q E st h
  rcases hty with rfl | rfl
  ·exact wpAny_pyIter_striter_ascii st h
  ·exact wpAny_pyIter_striter_wide st h
section
variable {X : Cx} {tg : Expr}
end
section
variable {X : Cx} {pins : List (Addr × Obj)} {σ : St} {H : Hp} {s : Shared} {h' : Heap} {ch : List Addr} {t' : Nat}
theorem Inv.turnedL (I : Inv X pins σ H s) (hf : ∀ b ∈ ch, FpOk X pins H b) (k : ∀ b o, b ∉ ch -> s.heap.get? b = some o -> h'.get? b = some o) : Inv X pins σ H { s with heap := h', toks := t' } := by
 have tr : ∀ b ob, H b = some ob -> b ∉ ch := fun b ob e hb => by rw [(hf b hb).1] at e; cases e
 refine I.step (g' := s.gens) (d' := s.drawn) (ch := ch) (fun b hb => ⟨(hf b hb).2.2.2.1, (hf b hb).2.1, (hf b hb).2.2.2.2.1, (hf b hb).2.2.2.2.2⟩) (fun b o _ _ hb e _ => k b o hb e) (fun b o _ _ hb e _ => ⟨o.slots, k b o hb e⟩) (fun _ _ _ _ n => n) (fun b o hb e => ⟨o, k b o hb e⟩)
  (fun _ _ e => e) (fun _ _ _ e => e) (fun b ps e => ⟨#[], by rw [e]; simp⟩) (fun m hm => ?_) (fun b ob e => ?_) I.bare
 ·obtain ⟨o, es, ep, ho, r⟩ := hm
  exact ⟨o, es, ep, k _ o (fun z => (hf _ z).2.1 rfl) ho, r⟩
 ·refine (I.hok b ob e).stay (fun b' w' hc' q => k b' w' ?_ q) (fun _ q => q) fun _ _ q => q
  rcases hc' with rfl | hc'
  ·exact tr _ _ e
  ·exact tr _ _ hc'
theorem Inv.turnedN {T : Addr} {o : HO} (I : Inv X pins σ H s) (hf : ∀ b ∈ ch, FpOk X pins H b) (k : ∀ b o, b ∉ ch -> s.heap.get? b = some o -> h'.get? b = some o) (hT : s.heap.objs.size <= T) (new : ObjOk X.prog X.w (upd H T o) h' T o) :
  Inv X pins σ (upd H T o) { s with heap := h', toks := t' } := by
 have tr : ∀ b ob, H b = some ob -> b ∉ ch := fun b ob e hb => by rw [(hf b hb).1] at e; cases e
 have hn := I.hok.fresh hT
 have nT : ∀ {b o}, s.heap.get? b = some o -> b ≠ T := fun e => Nat.ne_of_lt (Nat.lt_of_lt_of_le (Heap.lt_size e) hT)
 refine I.step (g' := s.gens) (d' := s.drawn) (ch := ch) (fun b hb => ⟨(hf b hb).2.2.2.1, (hf b hb).2.1, (hf b hb).2.2.2.2.1, (hf b hb).2.2.2.2.2⟩) (fun b o _ _ hb e _ => k b o hb e) (fun b o _ _ hb e _ => ⟨o.slots, k b o hb e⟩) (fun b o _ e n => by rw [Af (nT e)]; exact n) (fun b o hb e => ⟨o, k b o hb e⟩)
  (fun b zs e => by rw [Af (Ae e hn)]; exact e) (fun b o zs e => by rw [Af (Ae e hn)]; exact e) (fun b ps e => ⟨#[], by rw [Af (Ae e hn), e]; simp⟩) (fun m hm => ?_) (fun b ob e => ?_) I.bare
 ·obtain ⟨o, es, ep, ho, r⟩ := hm
  exact ⟨o, es, ep, k _ o (fun z => (hf _ z).2.1 rfl) ho, r⟩
 ·by_cases hb : b = T
  ·subst hb
   rw [Ac] at e
   cases e
   exact new
  ·rw [Af hb] at e
   refine (I.hok b ob e).stay (fun b' w' hc' q => k b' w' ?_ q) (fun b' q => by rw [Af (Ae q hn)]; exact q) fun b' zs q => by rw [Af (Ae q hn)]; exact q
   rcases hc' with rfl | hc'
   ·exact tr _ _ e
   ·exact tr _ _ hc'
end
section
variable {X : Cx}
end
theorem R7 {bs : List Bool} : (List.range bs.length).all (fun i => bs.getD i true) = bs.all fun b => b := by
 rw [Bool.eq_iff_iff, List.all_eq_true, List.all_eq_true]
 constructor
 ·intro h b hb
  obtain ⟨i, hi, e⟩ := List.mem_iff_getElem.mp hb
  have q := h i (List.mem_range.mpr hi)
  rw [List.getD_eq_getElem?_getD, List.getElem?_eq_getElem hi, e] at q
  exact q
 ·intro h i hi
  have hi := List.mem_range.mp hi
  rw [List.getD_eq_getElem?_getD, List.getElem?_eq_getElem hi]
  exact h _ (List.getElem_mem hi)
section
variable {X : Cx}
theorem Tl (hc : X.calm = true) : Bt X (.builtin "all") (fun xs H Q => ∃ (p : Addr) (bs : List Bool), xs = [.ref p] /\ SqL X.K H p (bs.map V.bl) /\ Q (.bl (bs.all fun b => b)) H) := by
 intro pins s σ H xs us Q I r h
 obtain ⟨p, bs, rfl, hq, q⟩ := h
 obtain ⟨u, rfl, ru⟩ := r.one
 cases ru
 obtain ⟨its, rv, pl, hz⟩ := I.list hq
 have hlen := rv.length
 rw [List.length_map] at hlen
 obtain ⟨o, n, e, c, hd, ds⟩ := id pl
 have plt := Heap.lt_size e
 refine call_all_walk (wpAny_pyIter_list pl.isList ?_)
 refine ⟨s.heap.objs.size, _, _, _, _, _, (fun i => bs.getD i true), rfl, Walks.list (A := X.A.in1) (show X.A.in1.handled = none from I.ok.hd hc) s.heap.objs.size p (Nat.ne_of_lt plt) its.toArray, ⟨⟨_, Heap.get?_push_size _ rfl, rfl, rfl⟩, pl.isList.push _⟩, ?_, fun h' tk kk => ?_⟩
 ·intro i v s' Q' E' hv hq'
  have hv : its[i]? = some v := by simpa using hv
  have hi : i < bs.length := by rw [hlen]; exact (List.getElem?_eq_some_iff.mp hv).1
  have e1 : (bs.map V.bl)[i]? = some (.bl bs[i]) := by simp [hi]
  obtain ⟨u', hu', ru'⟩ := rv.get e1
  rw [hv] at hu'
  cases hu'
  cases ru'
  have e2 : bs.getD i true = bs[i] := by simp [List.getD_eq_getElem?_getD, hi]
  have hq' : Q' (bs.getD i true) s' := hq'
  rw [e2] at hq'
  exact wpAny_truthy_bool hq'
 ·have e3 : (List.range its.toArray.size).all (fun i => bs.getD i true) = bs.all fun b => b := by
   rw [List.size_toArray, <- hlen]
   exact R7
  rw [e3]
  refine ⟨.bl _, H, I.kept (t' := tk) fun b o' eb => kk b o' ?_ (Heap.get?_push_of_some _ eb), rfl, q⟩
  have hb : b ≠ s.heap.objs.size := Nat.ne_of_lt (Heap.lt_size eb)
  simpa using hb
theorem Tm : Bt X (.builtin "isinstance") (fun xs H Q => ∃ x T t b, xs = [x, .ty T] /\ TyOf X.K H x t /\ PySem.W.kitOne X.K t (.type T) = some b /\ Q (.bl b) H) := by
 intro pins s σ H xs us Q I r h
 obtain ⟨x, T, t, b, rfl, ty, e, q⟩ := h
 obtain ⟨u, v, rfl, ru, rv⟩ := r.two
 cases rv
 exact J6 I ru ty e fun tk => ⟨.bl b, H, I.tok tk, rfl, q⟩
theorem Rx : OpR X (compareOp .LtE) (fun x y H Q => ∃ i j, x = .str i /\ y = .str j /\ Q (.bl (!decide (j.cps.toList < i.cps.toList))) H) := by
 intro pins s σ H x y v u Q I rx ry h
 obtain ⟨i, j, rfl, rfl, q⟩ := h
 obtain ⟨t, rfl⟩ := rx
 obtain ⟨t', rfl⟩ := ry
 exact PySem.P.le_str ⟨.bl _, H, I, rfl, q⟩
end
def eqVs (xs ys : List V) : Bool := decide (xs.length = ys.length) && (List.range xs.length).all fun j => eqV (xs.getD j .non) (ys.getD j .non)
theorem He {xs ys : List V} (h : xs.length ≠ ys.length) : eqVs xs ys = false := by
 unfold eqVs
 rw [decide_eq_false h]
 rfl
def rEqL (K : PySem.W.Frag) (neg : Bool) : R2 := fun x y H Q => ∃ a b xs ys, x = .ref a /\ y = .ref b /\ SqL K H a xs /\ SqL K H b ys /\ xs.all Bu = true /\ ys.all Bu = true /\ Q (.bl (if neg then !eqVs xs ys else eqVs xs ys)) H
section
variable {X : Cx}
theorem Hl {A : Around} {s : Shared} {xs ys : List V} {us ws : List Value} (rx : Vals xs us) (ry : Vals ys ws) (fx : xs.all Bu = true) (fy : ys.all Bu = true) (j : Nat) (h1 : j < us.toArray.size) (h2 : j < ws.toArray.size) :
  SeqAt.EqAt A s us.toArray[j] ws.toArray[j] (eqV (xs.getD j .non) (ys.getD j .non)) := by
 have e1 := rx.length
 have e2 := ry.length
 have h1' : j < us.length := by simpa using h1
 have h2' : j < ws.length := by simpa using h2
 have a1 : xs[j]? = some (xs[j]'(by omega)) := by simp
 have a2 : ys[j]? = some (ys[j]'(by omega)) := by simp
 obtain ⟨u, hu, ru⟩ := rx.get a1
 obtain ⟨v, hv, rv⟩ := ry.get a2
 have b1 : us.toArray[j] = u := by
  have : us[j]? = some us[j] := by simp
  rw [this] at hu
  simpa using Option.some.inj hu
 have b2 : ws.toArray[j] = v := by
  have : ws[j]? = some ws[j] := by simp
  rw [this] at hv
  simpa using Option.some.inj hv
 have c1 : xs.getD j .non = xs[j]'(by omega) := by rw [List.getD_eq_getElem?_getD, a1]; rfl
 have c2 : ys.getD j .non = ys[j]'(by omega) := by rw [List.getD_eq_getElem?_getD, a2]; rfl
 rw [b1, b2, c1, c2]
 exact Nz ru rv (List.all_eq_true.mp fx _ (List.getElem_mem _)) (List.all_eq_true.mp fy _ (List.getElem_mem _))
theorem ac0 (hu : X.A.units < cLine) : OpR X (compareOp .Eq) (rEqL X.K false) := by
 intro pins s σ H x y v u Q I rx ry h
 obtain ⟨a, b, xs, ys, rfl, rfl, qa, qb, fx, fy, q⟩ := h
 cases rx
 cases ry
 obtain ⟨its, r, pl, hz⟩ := I.list qa
 obtain ⟨its2, r2, pl2, hz2⟩ := I.list qb
 have e1 := r.length
 have e2 := r2.length
 by_cases hl : xs.length = ys.length
 ·refine SeqAt.eq_listAt (e := fun j => eqV (xs.getD j .non) (ys.getD j .non)) pl.isList pl2.isList (by simp; omega) hu (fun j h1 h2 => Hl r r2 fx fy j h1 h2) ⟨.bl _, H, I, rfl, ?_⟩
  have e : eqVs xs ys = (List.range its.toArray.size).all fun j => eqV (xs.getD j .non) (ys.getD j .non) := by
   unfold eqVs
   rw [decide_eq_true hl, List.size_toArray, <- e1]
   rfl
  rw [<- e]
  exact q
 ·refine SeqAt.eq_list_lengthsAt pl.isList pl2.isList (by simp; omega) hu ⟨.bl _, H, I, rfl, ?_⟩
  rw [He hl] at q
  exact q
theorem ac4 (hu : X.A.units < cLine) : OpR X (compareOp .NotEq) (rEqL X.K true) := by
 intro pins s σ H x y v u Q I rx ry h
 obtain ⟨a, b, xs, ys, rfl, rfl, qa, qb, fx, fy, q⟩ := h
 cases rx
 cases ry
 obtain ⟨its, r, pl, hz⟩ := I.list qa
 obtain ⟨its2, r2, pl2, hz2⟩ := I.list qb
 have e1 := r.length
 have e2 := r2.length
 by_cases hl : xs.length = ys.length
 ·refine SeqAt.RcNeAt.lists (e := fun j => eqV (xs.getD j .non) (ys.getD j .non)) pl.isList pl2.isList (by simp; omega) hu (fun j h1 h2 => Hl r r2 fx fy j h1 h2) _ _ _ _ ⟨.bl _, H, I, rfl, ?_⟩
  have e : eqVs xs ys = (List.range its.toArray.size).all fun j => eqV (xs.getD j .non) (ys.getD j .non) := by
   unfold eqVs
   rw [decide_eq_true hl, List.size_toArray, <- e1]
   rfl
  rw [<- e]
  exact q
 ·refine SeqAt.RcNeAt.lists_lengths pl.isList pl2.isList (by simp; omega) hu _ _ _ _ ⟨.bl _, H, I, rfl, ?_⟩
  rw [He hl] at q
  exact q
end
theorem Um {cl : List (Str × Addr)} {x : Str} (h : x ∈ cl.map (·.1)) : ∃ c, cl.lookup x = some c := by
 induction cl with
 | nil => simp at h
 | cons p r ih =>
  obtain ⟨n, a⟩ := p
  rw [List.lookup_cons]
  cases e : x == n with
  | true => exact ⟨a, rfl⟩
  | false =>
   refine ih ?_
   rcases List.mem_cons.mp h with q | q
   ·rw [show x = n from q] at e; simp at e
   ·exact q
section
variable {X : Cx} {e : Expr} {te : TE} {lo hi : Option Expr} {tl th : TO} {pos p2 : Pos}
theorem Oz {ys : List Str} : ∀ {us : List Value}, Vals (ys.map V.str) us -> StrsAre us ys := by
 induction ys with
 | nil => intro us r; rw [List.map_nil] at r; cases r; exact .nil
 | cons y ys ih =>
  intro us r
  rw [List.map_cons] at r
  cases r with
  | cons r1 r2 =>
   obtain ⟨t, e⟩ := r1
   subst e
   exact .cons y t (ih r2)
theorem Xl : MtR X "str.join" (fun x xs H Q => ∃ z p ys, x = .str z /\ xs = [.ref p] /\ SqL X.K H p (ys.map V.str) /\ (ys.map (·.length)).sum + ys.length * z.length <= 16777216 /\ Q (.str (Txt.join z ys)) H) := by
 intro pins s σ H x xs v us Q I rx rs h
 obtain ⟨z, p, ys, rfl, rfl, hq, hz, q⟩ := h
 obtain ⟨t, rfl⟩ := rx
 obtain ⟨u, rfl, ru⟩ := rs.one
 cases ru
 obtain ⟨its, rv, pl, _⟩ := I.list hq
 exact PyProof.Rows.join_list pl.isList (by simpa using Oz rv) hz fun t' k => ⟨.str _, H, I.tok k, ⟨_, rfl⟩, q⟩
end
end L2
set_option maxHeartbeats 4000000
namespace L2
open PySem PySem.Spec PyProof.Rows
section
variable {κ : Type} [DecidableEq κ]
def valV (kvs : List (κ × V)) (k : κ) : Option V := (kvs.find? fun kv => decide (kv.1 = k)).map (·.2)
def putK (kvs : List (κ × V)) (k : κ) (v : V) : List (κ × V) :=
 if (kvs.any fun kv => decide (kv.1 = k)) = true then kvs.map (fun kv => if kv.1 = k then (kv.1, v) else kv) else kvs ++ [(k, v)]
theorem Ed {p : κ × V} {r : List (κ × V)} {k : κ} (e : p.1 = k) : valV (p :: r) k = some p.2 := by simp [valV, List.find?_cons, e]
theorem Dd {p : κ × V} {r : List (κ × V)} {k : κ} (e : ¬ p.1 = k) : valV (p :: r) k = valV r k := by simp [valV, List.find?_cons, e]
theorem Jc (k : κ) : ∀ kvs : List (κ × V), (kvs.any fun kv => decide (kv.1 = k)) = (valV kvs k).isSome
 | [] => rfl
 | p :: r => by
  rw [List.any_cons]
  by_cases e : p.1 = k
  ·simp only [Ed e, decide_eq_true e, Bool.true_or, Option.isSome_some]
  ·rw [Dd e, decide_eq_false e, Bool.false_or]; exact Jc k r
theorem D6 (kvs : List (κ × V)) (k : κ) (v : V) : (putK kvs k v).length <= kvs.length + 1 := by
 unfold putK
 split
 ·rw [List.length_map]; omega
 ·rw [List.length_append, List.length_cons, List.length_nil]; omega
theorem Fg {kvs : List (κ × V)} {k : κ} (v : V) (h : valV kvs k = none) : putK kvs k v = kvs ++ [(k, v)] := by
 unfold putK
 rw [Jc, h]
 exact if_neg (by decide)
theorem RelO.isSome_eq {o : Option V} {u : Option Value} (r : RelO o u) : o.isSome = u.isSome := by
 cases o with
 | none => cases u with
  | none => rfl
  | some _ => exact (show False from r).elim
 | some _ => cases u with
  | none => exact (show False from r).elim
  | some _ => rfl
theorem KV.val {kvs : List (κ × V)} {vs : List (κ × Value)} (r : KV kvs vs) (k : κ) : RelO (valV kvs k) (valueAt vs k) := by
 unfold KV at r
 induction r with
 | nil => exact True.intro
 | @cons p q ps qs h t ih =>
  obtain ⟨h1, h2⟩ := h
  by_cases e : p.1 = k
  ·have e' : q.1 = k := h1.symm.trans e
   have b : valueAt (q :: qs) k = some q.2 := by simp [valueAt, List.find?_cons, e']
   rw [Ed e, b]; exact h2
  ·have e' : ¬ q.1 = k := fun z => e (h1.trans z)
   have b : valueAt (q :: qs) k = valueAt qs k := by simp [valueAt, List.find?_cons, e']
   rw [Dd e, b]; exact ih
theorem KV.any {kvs : List (κ × V)} {vs : List (κ × Value)} (r : KV kvs vs) (k : κ) : (kvs.any fun kv => decide (kv.1 = k)) = vs.any fun kv => decide (kv.1 = k) := by
 unfold KV at r
 induction r with
 | nil => rfl
 | cons h t ih => rw [List.any_cons, List.any_cons, ih, h.1]
theorem KV.repl {kvs : List (κ × V)} {vs : List (κ × Value)} (r : KV kvs vs) (k : κ) {y : V} {u : Value} (ry : RelV y u) :
  KV (kvs.map fun kv => if kv.1 = k then (kv.1, y) else kv) (vs.map fun kv => if kv.1 = k then (kv.1, u) else kv) := by
 unfold KV at r ⊢
 induction r with
 | nil => exact .nil
 | @cons p q ps qs h t ih =>
  rw [List.map_cons, List.map_cons]
  refine .cons ?_ ih
  obtain ⟨h1, h2⟩ := h
  by_cases e : p.1 = k
  ·rw [if_pos e, if_pos (h1.symm.trans e)]; exact ⟨h1, ry⟩
  ·rw [if_neg e, if_neg (fun z => e (h1.trans z))]; exact ⟨h1, h2⟩
theorem KV.put {kvs : List (κ × V)} {vs : List (κ × Value)} (r : KV kvs vs) (k : κ) {y : V} {u : Value} (ry : RelV y u) : KV (putK kvs k y) (stored vs k u) := by
 unfold putK stored
 rw [r.any k]
 by_cases e : (vs.any fun kv => decide (kv.1 = k)) = true
 ·rw [if_pos e, if_pos e]; exact r.repl k ry
 ·rw [if_neg e, if_neg e]; exact Paired.snoc r ⟨rfl, ry⟩
theorem KV.length {kvs : List (κ × V)} {vs : List (κ × Value)} (r : KV kvs vs) : kvs.length = vs.length := Paired.length r
end
theorem J8 {P : Program} {w : World} {k : Key} {u : Value} (r : RelV (kV k) u) : (Ay P w).is k u = true := by
 cases k with
 | inl i => obtain ⟨t, e⟩ := (show ∃ t, u = Value.int i t from r); subst e; exact Mt P w i t
 | inr x => obtain ⟨t, e⟩ := (show ∃ t, u = Value.str x t from r); subst e; exact Mu P w x t
theorem J7 {P : Program} {w : World} : ∀ {ks : List Key} {us : List Value}, Vals (ks.map kV) us -> ItemsAre (Ay P w) ks us
 | [], _, r => by rw [List.map_nil] at r; cases r; exact .nil
 | k :: ks, _, r => by
  rw [List.map_cons] at r
  cases r with
  | cons h t => exact .cons (J8 h) (J7 t)
abbrev KT (H : Hp) : List (List Key × V) -> List (List Key × Addr × Value) -> Prop := Paired fun p q => p.1 = q.1 /\ H q.2.1 = some (.tup (p.1.map kV)) /\ RelV p.2 q.2.2
theorem KT.val {H : Hp} {kvs : List (List Key × V)} {xs : List (List Key × Addr × Value)} (r : KT H kvs xs) (k : List Key) : RelO (valV kvs k) ((atKey xs k).map (·.2)) := by
 induction r with
 | nil => exact True.intro
 | @cons p q ps qs h t ih =>
  obtain ⟨h1, _, h2⟩ := h
  by_cases e : p.1 = k
  ·have e' : q.1 = k := h1.symm.trans e
   have b : atKey (q :: qs) k = some q.2 := by simp [atKey, List.find?_cons, e']
   rw [Ed e, b]; exact h2
  ·have e' : ¬ q.1 = k := fun z => e (h1.trans z)
   have b : atKey (q :: qs) k = atKey qs k := by simp [atKey, List.find?_cons, e']
   rw [Dd e, b]; exact ih
theorem KT.repl {H : Hp} {kvs : List (List Key × V)} {xs : List (List Key × Addr × Value)} (r : KT H kvs xs) (k : List Key) {y : V} {u : Value} (ry : RelV y u) :
  KT H (kvs.map fun kv => if kv.1 = k then (kv.1, y) else kv) (xs.map (putAt k u)) := by
 induction r with
 | nil => exact .nil
 | @cons p q ps qs h t ih =>
  rw [List.map_cons, List.map_cons]
  refine .cons ?_ ih
  obtain ⟨h1, h2, h3⟩ := h
  unfold putAt
  by_cases e : p.1 = k
  ·rw [if_pos e, if_pos (h1.symm.trans e)]; exact ⟨h1, h2, ry⟩
  ·rw [if_neg e, if_neg (fun z => e (h1.trans z))]; exact ⟨h1, h2, h3⟩
theorem KT.put {H : Hp} {kvs : List (List Key × V)} {xs : List (List Key × Addr × Value)} (r : KT H kvs xs) (k : List Key) {b : Addr} {y : V} {u : Value} (hb : H b = some (.tup (k.map kV))) (ry : RelV y u) :
  KT H (putK kvs k y) (storedH xs k b u) := by
 have e : (kvs.any fun kv => decide (kv.1 = k)) = (atKey xs k).isSome := by
  rw [Jc, (r.val k).isSome_eq, Option.isSome_map]
 unfold putK storedH
 rw [e]
 by_cases q : (atKey xs k).isSome = true
 ·rw [if_pos q, if_pos q]; exact r.repl k ry
 ·rw [if_neg q, if_neg q]; exact Paired.snoc r ⟨rfl, hb, ry⟩
theorem KT.keeps {H H' : Hp} {kvs : List (List Key × V)} {xs : List (List Key × Addr × Value)} (r : KT H kvs xs) (ht : ∀ b ys, H b = some (.tup ys) -> H' b = some (.tup ys)) : KT H' kvs xs :=
 Paired.mapP r fun _ _ z => ⟨z.1, ht _ _ z.2.1, z.2.2⟩
section
variable {P : Program} {w : World} {H : Hp} {h : Heap} {a : Addr}
theorem Zs {u : HO} (ok : HOk P w H h) (e : Rd H a u) : ObjOk P w H h a u := e.ok ok
theorem Ju {kvs : List (Key × V)} (ok : HOk P w H h) (e : Rd H a (.dK kvs)) : kvs.length <= sizeLine /\ (a == sysModules) = false /\ ∃ vs, KV kvs vs /\ h.DictOf (Ay P w) a vs :=
 show ObjOk P w H h a (.dK kvs) from Zs ok e
theorem Y7 {kvs : List (Key × V)} (ok : HOk P w H h) (e : H a = some (.dK kvs)) : kvs.length <= sizeLine /\ (a == sysModules) = false /\ ∃ vs, KV kvs vs /\ h.DictOf (Ay P w) a vs := Ju ok (.inl e)
theorem Hn {ks : List Key} (ok : HOk P w H h) (e : H a = some (.tup (ks.map kV))) : (tupleKind (Ay P w)).is h ks a := by
 obtain ⟨_, its, r, o, h1, h2, n, h3⟩ := (show ObjOk P w H h a (.tup (ks.map kV)) from ok a _ e)
 exact ⟨o, its.toArray, n, h1, h2, h3, by simpa using J7 r⟩
theorem Mn {kvs : List (List Key × V)} (ok : HOk P w H h) (e : Rd H a (.dT kvs)) : kvs.length <= sizeLine /\ (a == sysModules) = false /\
  ∃ xs, KT H kvs xs /\ h.DictOfH (tupleKind (Ay P w)) a xs := by
 obtain ⟨z, y, xs, r, o, es, ep, h1, h2, h3, h4, h5⟩ := (show ObjOk P w H h a (.dT kvs) from Zs ok e)
 refine ⟨z, y, xs, r, o, es, ep, h1, h2, h3, h4, fun x hx => ?_, h5⟩
 have all : ∀ {l : List (List Key × V)} {m : List (List Key × Addr × Value)}, KT H l m -> ∀ x ∈ m, (tupleKind (Ay P w)).is h x.1 x.2.1 := by
  intro l m q
  induction q with
  | nil => intro x hx; exact nomatch hx
  | @cons p q ps qs hq t ih =>
   intro x hx
   rcases List.mem_cons.mp hx with e | hx
   ·subst e
    exact Hn ok (by rw [<- hq.1]; exact hq.2.1)
   ·exact ih x hx
 exact all r x hx
theorem ak9 {kvs : List (List Key × V)} (ok : HOk P w H h) (e : H a = some (.dT kvs)) : kvs.length <= sizeLine /\ (a == sysModules) = false /\
  ∃ xs, KT H kvs xs /\ h.DictOfH (tupleKind (Ay P w)) a xs := Mn ok (.inl e)
end
def DGet (H : Hp) (a : Addr) (y : V) (r : Option V) : Prop :=
 (∃ kvs k, Rd H a (.dK kvs) /\ y = kV k /\ r = valV kvs k) \/ ∃ kvs k b, Rd H a (.dT kvs) /\ y = .ref b /\ H b = some (.tup (k.map kV)) /\ r = valV kvs k
def DPut (H : Hp) (a : Addr) (y v : V) (H' : Hp) : Prop :=
 (∃ kvs k, H a = some (.dK kvs) /\ y = kV k /\ kvs.length < sizeLine /\ H' = upd H a (.dK (putK kvs k v))) \/
 ∃ kvs k b, H a = some (.dT kvs) /\ y = .ref b /\ H b = some (.tup (k.map kV)) /\ kvs.length < sizeLine /\ H' = upd H a (.dT (putK kvs k v))
theorem DGet.k {H : Hp} {a : Addr} {kvs : List (Key × V)} {k : Key} (e : H a = some (.dK kvs)) : DGet H a (kV k) (valV kvs k) := .inl ⟨kvs, k, .inl e, rfl, rfl⟩
theorem DPut.k {H : Hp} {a : Addr} {kvs : List (Key × V)} {k : Key} {v : V} (e : H a = some (.dK kvs)) (hl : kvs.length < sizeLine) : DPut H a (kV k) v (upd H a (.dK (putK kvs k v))) := .inl ⟨kvs, k, e, rfl, hl, rfl⟩
theorem DPut.t {H : Hp} {a b : Addr} {kvs : List (List Key × V)} {k : List Key} {v : V} (e : H a = some (.dT kvs)) (eb : H b = some (.tup (k.map kV))) (hl : kvs.length < sizeLine) :
  DPut H a (.ref b) v (upd H a (.dT (putK kvs k v))) := .inr ⟨kvs, k, b, e, rfl, eb, hl, rfl⟩
section
variable {X : Cx} {pins : List (Addr × Obj)} {σ : St} {H : Hp} {s : Shared} {a : Addr} {y v : V} {u r : Value} {o : Option V} {A : Around} {E : Value -> Shared -> Prop}
theorem Inv.big (I : Inv X pins σ H s) : sysModules < s.heap.objs.size := by
 have h : mainGlobals < s.heap.objs.size := (I.mod.glob.keeps I.bk).lt
 exact Nat.lt_trans (by decide) h
theorem Q6 {Q : Value -> Shared -> Prop} (hu : A.units + 1 < cLine) (I : Inv X pins σ H s) (g : DGet H a y (some v)) (ry : RelV y u) (h : ∀ w' s', Inv X pins σ H s' -> RelV v w' -> Q w' s') :
  wpAny (model X.prog X.w) A (getItem (.ref a) u) Q E s := by
 rcases g with ⟨kvs, k, e, ey, l⟩ | ⟨kvs, k, b, e, ey, eb, l⟩
 ·subst ey
  obtain ⟨z, hd, vs, rel, dd⟩ := Ju I.hok e
  obtain ⟨w', hw, rw'⟩ := RelO.some_of (v := v) (o := valueAt vs k) (by rw [l]; exact rel.val k)
  exact wpAny_getItem_of (J8 ry) dd.mapOf hw (h w' _ (I.tok _) rw')
 ·subst ey
  cases (show u = Value.ref b from ry)
  obtain ⟨z, hd, xs, rel, dd⟩ := Mn I.hok e
  obtain ⟨w', hw, rw'⟩ := RelO.some_of (v := v) (o := (atKey xs k).map (·.2)) (by rw [l]; exact rel.val k)
  obtain ⟨p, hp, hp2⟩ := Option.map_eq_some_iff.mp hw
  refine wpAny_getItem_heap (tupleKind_room_in1 hu) (Hn I.hok eb) dd hp ?_
  rw [hp2]
  exact h w' _ (I.tok _) rw'
theorem d_in {Q : Value -> Shared -> Prop} (hu : A.units + 1 < cLine) (I : Inv X pins σ H s) (g : DGet H a y o) (ry : RelV y u) (h : ∀ s', Inv X pins σ H s' -> Q (.bool o.isSome) s') :
  wpAny (model X.prog X.w) A (compareOp .In u (.ref a)) Q E s := by
 rcases g with ⟨kvs, k, e, ey, l⟩ | ⟨kvs, k, b, e, ey, eb, l⟩
 ·subst ey
  obtain ⟨z, hd, vs, rel, dd⟩ := Ju I.hok e
  refine wpAny_in_of (J8 ry) hd dd.mapOf ?_
  rw [<- (rel.val k).isSome_eq, <- l]
  exact h _ (I.tok _)
 ·subst ey
  cases (show u = Value.ref b from ry)
  obtain ⟨z, hd, xs, rel, dd⟩ := Mn I.hok e
  refine wpAny_in_heap (tupleKind_room_in1 hu) (Hn I.hok eb) hd dd ?_
  have q := (rel.val k).isSome_eq
  rw [Option.isSome_map] at q
  rw [<- q, <- l]
  exact h _ (I.tok _)
theorem W2 {Q : Value -> Shared -> Prop} (hu : A.units + 1 < cLine) (I : Inv X pins σ H s) (g : DGet H a y o) (ry : RelV y u) (h : ∀ s', Inv X pins σ H s' -> Q (.bool (!o.isSome)) s') :
  wpAny (model X.prog X.w) A (compareOp .NotIn u (.ref a)) Q E s := by
 rcases g with ⟨kvs, k, e, ey, l⟩ | ⟨kvs, k, b, e, ey, eb, l⟩
 ·subst ey
  obtain ⟨z, hd, vs, rel, dd⟩ := Ju I.hok e
  refine wpAny_notIn_of (J8 ry) hd dd.mapOf ?_
  rw [<- (rel.val k).isSome_eq, <- l]
  exact h _ (I.tok _)
 ·subst ey
  cases (show u = Value.ref b from ry)
  obtain ⟨z, hd, xs, rel, dd⟩ := Mn I.hok e
  refine wpAny_notIn_heap (tupleKind_room_in1 hu) (Hn I.hok eb) hd dd ?_
  have q := (rel.val k).isSome_eq
  rw [Option.isSome_map] at q
  rw [<- q, <- l]
  exact h _ (I.tok _)
theorem K4 {h' : Heap} {t' : Nat} {ob : HO} (I : Inv X pins σ H s) (mu : Mut (H a)) (hs : Heap.SameBut a s.heap h') (he : ∃ q, h'.get? a = some q) (new : ObjOk X.prog X.w (upd H a ob) h' a ob) :
  Inv X pins σ (upd H a ob) { s with heap := h', toks := t' } :=
 I.write (x := a) (e := a) mu (.inl rfl) (fun b q hb z => (hs.2 b hb).trans z) he new
theorem Tr {P : Program} {w : World} {H' : Hp} {h' : Heap} {kvs : List (Key × V)} {vs : List (Key × Value)} (z : kvs.length <= sizeLine) (hd : (a == sysModules) = false) (rel : KV kvs vs) (dd : h'.DictOf (Ay P w) a vs) :
  ObjOk P w H' h' a (.dK kvs) := ⟨z, hd, vs, rel, dd⟩
theorem Q7 {H' : Hp} {Q : Unit -> Shared -> Prop} (hu : A.units + 1 < cLine) (I : Inv X pins σ H s) (g : DPut H a y v H') (ry : RelV y u) (rv : RelV v r) (h : ∀ s', Inv X pins σ H' s' -> Q () s') :
  wpAny (model X.prog X.w) A (setItem (.ref a) u r) Q E s := by
 rcases g with ⟨kvs, k, e, ey, l, eH⟩ | ⟨kvs, k, b, e, ey, eb, l, eH⟩
 ·subst ey eH
  obtain ⟨z, hd, vs, rel, dd⟩ := Y7 I.hok e
  have hz : vs.length <= sizeLine := by rw [<- rel.length]; exact z
  have hl : (putK kvs k v).length <= sizeLine := by have := D6 kvs k v; omega
  refine wpAny_setItem_pairs (hsz := hz) (J8 ry) dd fun h' dd' hs => h _ ?_
  have he : ∃ q, h'.get? a = some q := let ⟨q, _, _, hq, _⟩ := dd'; ⟨q, hq⟩
  exact K4 I (by rw [e]; exact True.intro) hs he (Tr hl hd (rel.put k rv) dd')
 ·subst ey eH
  cases (show u = Value.ref b from ry)
  obtain ⟨z, hd, xs, rel, dd⟩ := ak9 I.hok e
  have hz : xs.length <= sizeLine := by rw [<- Paired.length rel]; exact z
  have hl : (putK kvs k v).length <= sizeLine := by have := D6 kvs k v; omega
  refine wpAny_setItem_heap (hsz := hz) (tupleKind_room_in1 hu) (Hn I.hok eb) dd fun h' dd' hs => h _ ?_
  obtain ⟨q, es, ep, hq, h2, h3, h4, _, h5⟩ := dd'
  refine K4 I (by rw [e]; exact True.intro) hs ⟨q, hq⟩ ⟨hl, hd, _, (rel.put k eb rv).keeps fun c ys ec => ?_, q, es, ep, hq, h2, h3, h4, h5⟩
  rw [Af (al8 ec e (fun z => nomatch z))]
  exact ec
end
section
variable {X : Cx} {pins : List (Addr × Obj)} {σ : St} {H : Hp} {s : Shared} {a : Addr} {kvs : List (Key × V)} {k : Key} {u : Value} {A : Around} {E : Value -> Shared -> Prop}
theorem ak7 {Q : Value -> Shared -> Prop} (I : Inv X pins σ H s) (e : Rd H a (.dK kvs)) (h : ∀ t s', Inv X pins σ H s' -> Q (.int kvs.length t) s') : wpAny (model X.prog X.w) A (call (.builtin "len") [.ref a]) Q E s := by
 obtain ⟨z, hd, vs, rel, dd⟩ := Ju I.hok e
 refine call_len_dict hd dd (by rw [<- rel.length]; rw [sizeLine_eq] at z; omega) ?_
 rw [<- rel.length]
 exact h _ _ (I.tok _)
end
theorem Mj {X : Cx} {pins : List (Addr × Obj)} {σ : St} {H : Hp} {s : Shared} {a : Addr} {y : V} {o : Option V} (I : Inv X pins σ H s) (g : DGet H a y o) : s.TypeIs (.ref a) "dict" := by
 rcases g with ⟨kvs, k, e, _, _⟩ | ⟨kvs, k, b, e, _, _, _⟩
 ·obtain ⟨_, _, vs, _, dd⟩ := Ju I.hok e
  exact dd.typeIs
 ·obtain ⟨_, _, xs, _, dd⟩ := Mn I.hok e
  exact dd.typeIs
section
variable {X : Cx} {o i e value : Expr} {pos pos' tpos : Pos} {td ty tv : TE}
end
theorem Ml {P : Program} {w : World} {H : Hp} (h : Heap) (hb : sysModules < h.objs.size) : ObjOk P w H (h.push { cls := .type "dict", data := .dict #[] }) h.objs.size (.dK []) :=
 ⟨Nat.zero_le _, beq_eq_false_iff_ne.mpr (Ne.symm (Nat.ne_of_lt hb)), [], .nil, Heap.DictOf.new h⟩
theorem Ts {P : Program} {w : World} {H : Hp} (h : Heap) (hb : sysModules < h.objs.size) : ObjOk P w H (h.push { cls := .type "dict", data := .dict #[] }) h.objs.size (.dT []) :=
 ⟨Nat.zero_le _, beq_eq_false_iff_ne.mpr (Ne.symm (Nat.ne_of_lt hb)), [], .nil, _, #[], 0, Heap.get?_push_size _ rfl, ⟨rfl, rfl, rfl⟩, rfl, rfl, List.nodup_nil⟩
section
variable {X : Cx} {pos : Pos}
end
def Lw : List (TE × TE) -> St -> Hp -> (List (V × V) -> Hp -> Prop) -> Prop
 | [], _, H, Q => Q [] H
 | (tk, tv) :: r, σ, H, Q => tk σ H fun x H1 => tv σ H1 fun y H2 => Lw r σ H2 fun ps H3 => Q ((x, y) :: ps) H3
abbrev VV : List (V × V) -> List (Value × Value) -> Prop := Paired fun p q => RelV p.1 q.1 /\ RelV p.2 q.2
def PPs (X : Cx) (pos : Pos) (keys : List (Option Expr)) (values : List Expr) (trs : List (TE × TE)) : Prop :=
 ∀ (pins : List (Addr × Obj)) (s : Shared) (σ : St) (H : Hp) (Q : List (V × V) -> Hp -> Prop), Inv X pins σ H s -> Lw trs σ H Q ->
  wpAny (model X.prog X.w) X.A (evalPairs (pairTrees keys values X.env pos)) (fun vs s' => ∃ ps H', Inv X pins σ H' s' /\ VV ps vs /\ Q ps H') X.xe s
theorem Xz {X : Cx} {pos : Pos} : PPs X pos [] [] [] := fun pins s σ H Q I h => pairTrees_nil_walk ⟨[], H, I, .nil, h⟩
theorem U8 {X : Cx} {pos : Pos} {k v : Expr} {ks : List (Option Expr)} {vs : List Expr} {tk tv : TE} {trs : List (TE × TE)} (hk : PE X k tk) (hv : PE X v tv) (hr : PPs X pos ks vs trs) :
  PPs X pos (some k :: ks) (v :: vs) ((tk, tv) :: trs) := fun pins s σ H Q I h =>
 pairTrees_cons_walk (thn (hk pins s σ H _ I h) fun u s1 ⟨x, H1, I1, rx, q1⟩ => thn (hv pins s1 σ H1 _ I1 q1) fun w2 s2 ⟨y, H2, I2, ry, q2⟩ =>
  thn (hr pins s2 σ H2 _ I2 q2) fun ws s3 ⟨ps, H3, I3, rel, q3⟩ => ⟨(x, y) :: ps, H3, I3, .cons ⟨rx, ry⟩ rel, q3⟩)
def Cr (kvs more : List (Key × V)) : List (Key × V) := more.foldl (fun acc kv => putK acc kv.1 kv.2) kvs
theorem KV.merge : ∀ {more : List (Key × V)} {rs : List (Key × Value)} {kvs : List (Key × V)} {vs : List (Key × Value)}, KV more rs -> KV kvs vs -> KV (Cr kvs more) (merged vs rs) := by
 intro more rs kvs vs r
 unfold KV at r
 induction r generalizing kvs vs with
 | nil => intro q; exact q
 | @cons p q ps qs h t ih =>
  intro r0
  have e : KV (putK kvs p.1 p.2) (stored vs q.1 q.2) := by
   have := r0.put p.1 h.2
   rw [<- h.1]; exact this
  exact ih e
theorem Es : ∀ (more kvs : List (Key × V)), (Cr kvs more).length <= kvs.length + more.length
 | [], kvs => by show kvs.length <= kvs.length + 0; omega
 | p :: r, kvs => by
  have h1 := Es r (putK kvs p.1 p.2)
  have h2 := D6 kvs p.1 p.2
  show (Cr (putK kvs p.1 p.2) r).length <= _
  rw [List.length_cons]; omega
theorem Hc {P : Program} {w : World} : ∀ {kvs : List (Key × V)} {ws : List (Value × Value)}, VV (kvs.map fun kv => (kV kv.1, kv.2)) ws -> ∃ rs, Carries (Ay P w) ws rs /\ KV kvs rs
 | [], _, r => by rw [List.map_nil] at r; cases r; exact ⟨[], True.intro, .nil⟩
 | p :: kvs, _, r => by
  rw [List.map_cons] at r
  cases r with
  | @cons a b as bs h t =>
   obtain ⟨rs, c, q⟩ := Hc (P := P) (w := w) t
   obtain ⟨b1, b2⟩ := b
   exact ⟨(p.1, b2) :: rs, ⟨J8 h.1, rfl, c⟩, .cons ⟨rfl, h.2⟩ q⟩
def aw5 (trs : List (TE × TE)) : TE := fun σ H Q => ∀ p, H p = none -> Lw trs σ (upd H p (.dK [])) fun ps H2 => H2 p = some (.dK []) /\ ∃ kvs : List (Key × V), ps = kvs.map (fun kv => (kV kv.1, kv.2)) /\ kvs.length <= 15 /\ Q (.ref p) (upd H2 p (.dK (Cr [] kvs)))
theorem Xv {X : Cx} {pos : Pos} {keys : List (Option Expr)} {values : List Expr} {trs : List (TE × TE)} (h : PPs X pos keys values trs) (hall : keys.all (·.isSome) = true) (hl : keys.length = values.length) (h0 : keys ≠ [])
  (h15 : keys.length <= 15) : PE X (.Dict keys values pos) (aw5 trs) := by
 intro pins s σ H Q I q
 have hn := I.hok.fresh (Nat.le_refl s.heap.objs.size)
 have I1 := I.laid (a := s.heap.objs.size) (o := .dK []) (h' := s.heap.push { cls := .type "dict", data := .dict #[] }) (t' := s.toks) (fun _ _ q => Heap.get?_push_of_some _ q) (Nat.le_refl _) (Ml s.heap I.big)
 refine wpAny_Dict_walk (knd := Ay X.prog X.w) hall hl h0 h15 (thn (h pins _ σ _ _ I1 (q _ hn)) fun ws s2 ⟨ps, H2, I2, rel, e, kvs, ep, lk, q2⟩ => ?_)
 subst ep
 obtain ⟨rs, c, rk⟩ := Hc (P := X.prog) (w := X.w) rel
 obtain ⟨z, hd, vs0, r0, dd⟩ := Y7 I2.hok e
 cases r0
 refine ⟨rs, c, dd, fun h' dd' hs => ⟨.ref s.heap.objs.size, _, ?_, rfl, q2⟩⟩
 have hz : (Cr [] kvs).length <= sizeLine := by
  have h1 := Es kvs []
  rw [List.length_nil] at h1
  rw [sizeLine_eq]; omega
 have he : ∃ q, h'.get? s.heap.objs.size = some q := let ⟨q, _, _, hq, _⟩ := dd'; ⟨q, hq⟩
 exact K4 I2 (by rw [e]; exact True.intro) hs he (Tr hz hd (rk.merge .nil) dd')
section
variable {X : Cx} {pins : List (Addr × Obj)} {σ : St} {H : Hp} {s : Shared} {a : Addr} {y d : V} {u r : Value} {o : Option V} {A : Around} {E : Value -> Shared -> Prop}
end
section
variable {X : Cx} {o e f : Expr} {apos cpos : Pos} {td ty tx : TE}
end
section
variable {X : Cx} {pins : List (Addr × Obj)} {σ : St} {H : Hp} {s : Shared} {a : Addr} {kvs : List (Key × V)} {A : Around} {E : Value -> Shared -> Prop}
end
section
variable {X : Cx} {pins : List (Addr × Obj)} {σ : St} {H : Hp} {s : Shared} {a : Addr} {y : V} {u : Value} {A : Around} {E : Value -> Shared -> Prop}
end
abbrev EK := Addr -> Hp -> Prop
abbrev DE := St -> Hp -> VK -> EK -> Prop
abbrev DT := St -> Hp -> (Bool -> Hp -> Prop) -> EK -> Prop
abbrev DA := St -> Hp -> (List V -> Hp -> Prop) -> EK -> Prop
structure Outs where
 nx : St -> Hp -> Prop
 rt : VK
 bk : St -> Hp -> Prop
 ct : St -> Hp -> Prop
 ex : St -> EK
abbrev DS := Outs -> St -> Hp -> Prop
abbrev At (C : Addr) (dx : Option Addr) (vs : Array Value) : Obj := { cls := .ref C, dict := dx, data := .fields vs }
def excO (a C : Addr) (dx : Option Addr) : HO := .ext fun h => ∃ vs : Array Value, h.get? a = some (At C dx vs) /\ vs.size = 6 /\ vs[1]? = some .none
def flO (a C : Addr) (dx : Option Addr) : HO := .ext fun h => ∃ vs : Array Value, h.get? a = some (At C dx vs) /\ vs.size = 6
def xdO (dx : Addr) (fs : List (Str × V)) : HO := .ext fun h => fs.length <= 1000 /\ ∃ mA, h.Ns1 dx mA /\ (∀ f, RelO (fs.lookup f) (mA f)) /\ PySem.Within mA (fs.map (·.1))
def E2 (X : Cx) (pins : List (Addr × Obj)) (H : Hp) (a : Addr) (s : Shared) : Prop :=
 ∃ (C : Addr) (dx : Option Addr) (vs : Array Value), H a = some (flO a C dx) /\ s.heap.get? a = some (At C dx vs) /\ vs.size = 6 /\
  (vs[1]? = some .none \/ ∃ (T : Addr) (oT : Obj) (ts : Array Value), vs[1]? = some (.ref T) /\ T ≠ a /\ s.heap.get? T = some oT /\ oT.data = .fields ts /\ (∃ z, ts[3]? = some z) /\ FpOk X pins H T)
def B3 (X : Cx) (Ex : St -> EK) : Prop :=
 ∀ (pins : List (Addr × Obj)) (σ : St) (H : Hp) (s : Shared) (a : Addr), Inv X pins σ H s -> E2 X pins H a s -> Ex σ a H -> X.xe (.ref a) s
def QE (X : Cx) (e : Expr) (t : DE) : Prop := ∀ Ex, B3 X Ex -> PE X e (fun σ H Q => t σ H Q (Ex σ))
def QT (X : Cx) (e : Expr) (t : DT) : Prop := ∀ Ex, B3 X Ex -> PT X e (fun σ H Q => t σ H Q (Ex σ))
def QW (X : Cx) (e : Expr) (t : DT) : Prop := ∀ Ex, B3 X Ex -> PW X e (fun σ H Q => t σ H Q (Ex σ))
def QA (X : Cx) (es : List Expr) (t : DA) : Prop := ∀ Ex, B3 X Ex -> PA X es (fun σ H Q => t σ H Q (Ex σ))
def outs (Ex : St -> EK) (D : Ends) : Outs := ⟨D.nx, D.rt, D.bk, D.ct, Ex⟩
def QS (X : Cx) (st : Stmt) (t : DS) : Prop := ∀ Ex, B3 X Ex -> PS X st (fun D σ H => t (outs Ex D) σ H)
def QSs (X : Cx) (st : List Stmt) (t : DS) : Prop := ∀ Ex, B3 X Ex -> PSs X st (fun D σ H => t (outs Ex D) σ H)
def dNo : DE := fun _ _ _ _ => False
def dVar (i : Nat) : DE := fun σ H Q _ => match σ[i]? with
 | some (some v) => Q v H
 | _ => False
def dC (v : V) : DE := fun _ H Q _ => Q v H
def dBin (r : R2) (a b : DE) : DE := fun σ H Q E => a σ H (fun x H1 => b σ H1 (fun y H2 => r x y H2 Q) E) E
def dUn (r : V -> Hp -> VK -> Prop) (a : DE) : DE := fun σ H Q E => a σ H (fun x H1 => r x H1 Q) E
def Df (r r' : R2) (a b c : DE) : DE := fun σ H Q E => a σ H (fun x H1 => b σ H1 (fun y H2 => r x y H2 fun z H3 => match z with
 | .bl k => if k = true then c σ H3 (fun w H4 => r' y w H4 Q) E else Q (.bl false) H3
 | _ => False) E) E
def dAnd (a b : DT) : DT := fun σ H Q E => a σ H (fun k H1 => if k = true then b σ H1 Q E else Q false H1) E
def dOr (a b : DT) : DT := fun σ H Q E => a σ H (fun k H1 => if k = true then Q true H1 else b σ H1 Q E) E
def dNot (a : DT) : DT := fun σ H Q E => a σ H (fun k H1 => Q (!k) H1) E
def dIfE (t : DT) (a b : DE) : DE := fun σ H Q E => t σ H (fun k H1 => if k = true then a σ H1 Q E else b σ H1 Q E) E
def truD (K : PySem.W.Frag) (x : V) (H : Hp) (Q : Bool -> Hp -> Prop) : Prop := match x with
 | .bl k => Q k H
 | .non => Q false H
 | .int i => Q (i != 0) H
 | .str y => y.length <= sizeLine /\ Q ((y.length : Int) != 0) H
 | .ref p => ∃ k, TruV K (.ref p) H k /\ Q k H
 | _ => False
def Mh (K : PySem.W.Frag) (a b : DE) : DE := fun σ H Q E => a σ H (fun x H1 => truD K x H1 fun k H2 => if k = true then b σ H2 Q E else Q x H2) E
def dOrV (K : PySem.W.Frag) (a b : DE) : DE := fun σ H Q E => a σ H (fun x H1 => truD K x H1 fun k H2 => if k = true then Q x H2 else b σ H2 Q E) E
def Y5 (K : PySem.W.Frag) (a : DE) : DE := fun σ H Q E => a σ H (fun x H1 => truD K x H1 fun k H2 => Q (.bl (!k)) H2) E
def dTru (K : PySem.W.Frag) (a : DE) : DT := fun σ H Q E => a σ H (fun x H1 => truD K x H1 Q) E
def dTst (a : DE) : DT := fun σ H Q E => a σ H (fun x H1 => match x with
 | .bl k => Q k H1
 | _ => False) E
def dNil : DA := fun _ H Q _ => Q [] H
def Aa (a : DE) (r : DA) : DA := fun σ H Q E => a σ H (fun x H1 => r σ H1 (fun xs H2 => Q (x :: xs) H2) E) E
def dTup (t : DA) : DE := fun σ H Q E => t σ H (fun xs H1 => xs.length <= sizeLine /\ ∀ p, H1 p = none -> Q (.ref p) (upd H1 p (.tup xs))) E
def dLst (t : DA) : DE := fun σ H Q E => t σ H (fun xs H1 => xs.length <= sizeLine /\ ∀ p, H1 p = none -> Q (.ref p) (upd H1 p (.lst xs))) E
def dFn (r : List V -> Hp -> VK -> EK -> Prop) (t : DA) : DE := fun σ H Q E => t σ H (fun vs H1 => r vs H1 Q E) E
def dMt (r : V -> Hp -> (Hp -> (List V -> Hp -> Prop) -> Prop) -> VK -> Prop) (o : DE) (t : DA) : DE := fun σ H Q E => o σ H (fun x H1 => r x H1 (fun H2 R => t σ H2 R E) Q) E
def Ad : DS := fun D σ H => D.nx σ H
def By : DS := fun _ _ _ => False
def dSeq (t u : DS) : DS := fun D σ H => t { D with nx := u D } σ H
def dRet (e : DE) : DS := fun D σ H => e σ H D.rt (D.ex σ)
def Y6 : DS := fun D _ H => D.rt .non H
def Dq (e : DE) : DS := fun D σ H => e σ H (fun _ H1 => D.nx σ H1) (D.ex σ)
def dIf (c : DT) (t u : DS) : DS := fun D σ H => c σ H (fun b H1 => if b = true then t D σ H1 else u D σ H1) (D.ex σ)
def dBrk : DS := fun D σ H => D.bk σ H
def dCnt : DS := fun D σ H => D.ct σ H
def dSet (i : Nat) (e : DE) : DS := fun D σ H => e σ H (fun v H1 => D.nx (σ.set i (some v)) H1) (D.ex σ)
abbrev DG := TG
def dAsg (e : DE) (g : DG) : DS := fun D σ H => e σ H (fun v H1 => g v σ H1 D.nx) (D.ex σ)
abbrev DI := St -> Hp -> (It -> Hp -> Prop) -> EK -> Prop
def ForW (J : It) (g : DG) (tb : DS) (D : Outs) (σ : St) (H : Hp) : Prop := ∃ W : Nat -> Nat -> St -> Hp -> Prop, (∃ m, W 0 m σ H) /\ ∀ i m σ H, W i m σ H ->
 (J.stop i H /\ D.nx σ H) \/ (J.go i H /\ ∃ N : St -> Hp -> Prop, (∀ σ' H', N σ' H' -> ∃ m', m' < m /\ W (i + 1) m' σ' H') /\ ∀ x H', J.yld i H x H' -> g x σ H' (fun σ2 H2 => tb { D with nx := N, ct := N, bk := D.nx } σ2 H2))
def Thaw (H0 H : Hp) (P : Hp -> Prop) : Prop := P H \/ ∃ p o kvs, H0 p = some (.dK kvs) /\ H p = some (.frz o (.dK kvs)) /\ P (upd H p (.dK kvs))
def dFor (wi : DI) (g : DG) (tb : DS) : DS := fun D σ H => wi σ H (fun J H1 => ForW J g tb { D with nx := fun σ' H' => Thaw H H' (D.nx σ') } σ H1) (D.ex σ)
def CmpW (J : It) (g : DG) (tc : DT) (te : DE) (D : Addr) (R : Hp -> Prop) (σ : St) (H : Hp) (E : EK) : Prop :=
 ∃ W : Nat -> Nat -> St -> Hp -> Prop, (∃ m, W 0 m σ H) /\ ∀ i m σ' H', W i m σ' H' ->
  (J.stop i H' /\ R H') \/ (J.go i H' /\ ∃ N : St -> Hp -> Prop, (∀ σ2 H2, N σ2 H2 -> ∃ m', m' < m /\ W (i + 1) m' σ2 H2) /\ ∀ x H2, J.yld i H' x H2 -> g x σ' H2 (fun σ3 H3 => tc σ3 H3 (fun b H4 => if b = true then
    te σ3 H4 (fun v H5 => ∃ ys, H5 D = some (.lst ys) /\ ys.length < sizeLine /\ N σ3 (upd H5 D (.lst (ys ++ [v])))) E
   else N σ3 H4) E))
def Bm (srcs : List (Option Nat)) (wi : DI) (g : DG) (tc : DT) (te : DE) : DE := fun σ H Q E => wi σ H (fun J H1 => ∀ D, H1 D = none -> CmpW J g tc te D (fun H' => Q (.ref D) H') (capt srcs σ) (upd H1 D (.lst [])) E) E
def dYes : DT := fun _ H Q _ => Q true H
def gdN (i : Nat) : DG := fun v σ H Q => Q (σ.set i (some v)) H
end L2
namespace L2
open PySem PySem.Spec PyProof.Rows PySem.W
section
variable {prog : Program} {w : World} {A : Around} {E : Value -> Shared -> Prop} {s : Shared} {K : PySem.W.Frag} {x C : Addr} {ox : Obj} {od : Option Obj} {name : Str} {expr : Bool} {Q : Value -> Shared -> Prop}
theorem Tk (self : Value) : bindSpecial (.builtin "BaseException.__getattribute__") self = pure (.builtin "BaseException.__getattribute__", [self]) := by
 have hop : withoutEnding? "BaseException.__getattribute__" "#opaque" = none := by decide +kernel
 have hdat : withoutEnding? "BaseException.__getattribute__" "#data" = none := by decide +kernel
 have hk : builtinKind "BaseException.__getattribute__" = some .slot := by decide +kernel
 simp only [bindSpecial, typeOf, builtinType, hop, hdat, hk]; rfl
end
end L2
namespace L2
open PySem PySem.Spec PyProof.Rows PySem.W Builtin Builtin.ObjectAttr
def Aw : List Value -> Bool
 | [.type a, .type b, .type c, .type d] => a == "ValueError" && b == "Exception" && c == "BaseException" && d == "object"
 | .ref _ :: r => Aw r
 | _ => false
def valTail : List Value := [.type "ValueError", .type "Exception", .type "BaseException", .type "object"]
theorem Dg : ∀ {l : List Value}, Aw l = true -> ∃ rs : List Addr, l = rs.map Value.ref ++ valTail
 | [.type a, .type b, .type c, .type d], e => by
  have e : (a == "ValueError" && b == "Exception" && c == "BaseException" && d == "object") = true := e
  simp only [Bool.and_eq_true, beq_iff_eq] at e
  obtain ⟨⟨⟨rfl, rfl⟩, rfl⟩, rfl⟩ := e
  exact ⟨[], rfl⟩
 | .ref a :: r, e => by
  have e : Aw r = true := by cases r <;> first | exact e | cases e
  obtain ⟨rs, h⟩ := Dg e
  exact ⟨a :: rs, by rw [h]; rfl⟩
theorem Wg (rs : List Addr) {T : String} (h : valTail.contains (.type T) = true) : (rs.map Value.ref ++ valTail).contains (.type T) = true := by
 induction rs with
 | nil => exact h
 | cons a r ih => rw [List.map_cons, List.cons_append, List.contains_cons, ih, Bool.or_true]
section
variable {prog : Program} {w : World} {A : Around} {s : Shared} {K : PySem.W.Frag} {x C : Addr} {R : Result -> Shared -> Prop}
end
section
variable {prog : Program} {w : World} {A : Around} {E : Value -> Shared -> Prop} {s : Shared} {K : PySem.W.Frag} {x dx C f : Addr} {mA : Str -> Option Value} {name : Str} {v : Value} {vs : Array Value}
end
end L2
namespace L2
open PySem PySem.Spec PySem.W Builtin Builtin.ObjectAttr
open Sem (wp)
structure ECls (K : PySem.W.Frag) (C : Addr) : Prop where
 obj : ∃ nm q N bs bm hdct sn sub ab col dd k0 k1 k2 k3 k5, K.lookup C = some (excClassObj nm q C N bs bm hdct sn sub ab col dd k0 k1 k2 k3 k5 "ValueError.__new__") /\ Aw bm = true /\ hdct = true
 sa : findIn K (.ref C) "__setattr__" = some (some (.builtin "object.__setattr__"))
 ga : findIn K (.ref C) "__getattribute__" = some (some (.builtin "BaseException.__getattribute__"))
 gt : findIn K (.ref C) "__getattr__" = some none
 ca : findIn K (.ref C) "__class__" = some (some (.builtin "object.__class__"))
 hn : specialIn K (.builtin "object.__class__") "__get__" = some (some (.builtin "getset_descriptor.__get__"))
 htk : takesIn K (.builtin "object.__class__") = some true
theorem Bn {bm : List Value} (h : Aw bm = true) {T : String} {b : Bool} (hb : valTail.contains (.type T) = b) : bm.contains (.type T) = b := by
 obtain ⟨rs, rfl⟩ := Dg h
 induction rs with
 | nil => exact hb
 | cons a r ih =>
  have h' : Aw (r.map Value.ref ++ valTail) = true := by
   cases r <;> exact h
  rw [List.map_cons, List.cons_append, List.contains_cons, ih h']
  rfl
section
variable {M : Model} {A : Around} {E : Value -> Shared -> Prop} {h : Heap} {g : Array GenState} {d : Drawn} {t : Nat} {os : OsState}
variable {nm q : Str} {C N : Addr} {bs bm : List Value} {hdct : Bool} {sn : List Str} {sub : List Value} {ab : Bool} {col : Option Bool} {dd : Option Addr} {k0 k1 k2 k3 k5 : Option Value}
theorem Fn (T : Aw bm = true) {rest : List Value} {Q : Unit -> Shared -> Prop} (hC : h.get? C = some (excClassObj nm q C N bs bm hdct sn sub ab col dd k0 k1 k2 k3 k5 "ValueError.__new__"))
  (hq : Q () ⟨h, g, d, t, os⟩) : wpAny M A (checkBuiltinCall "ValueError.__new__" ⟨.ref C :: rest, []⟩) Q E ⟨h, g, d, t, os⟩ := by
 have F := PySem.F.excBase_ValueError
 have hcont : (Value.ref C :: bm).contains (.type "ValueError") = true := by rw [List.contains_cons, Bn T (show valTail.contains (.type "ValueError") = true by decide +kernel), Bool.or_true]
 have hstar := F.noStar
 simp only [checkBuiltinCall, F.newKind, F.newSplit, F.newRow]
 repeat (first | refine wpAny_loadPart_at hC ?_ | (refine wpAny_isSubtype_exc hC ?_; rw [hcont]) | refine wpAny_staticBase_exc hC ?_ | refine wpAny_madeBy_exc hC ?_ | simp only [bne_self_eq_false, Bool.false_eq_true, if_false] | wp_step)
 exact hq
end
section
variable {prog : Program} {w : World} {A : Around} {R : Result -> Shared -> Prop} {h : Heap} {g : Array GenState} {d : Drawn} {t : Nat} {os : OsState}
variable {nm q : Str} {C N : Addr} {bs bm : List Value} {hdct : Bool} {sn : List Str} {sub : List Value} {ab : Bool} {col : Option Bool} {dd : Option Addr} {k0 k1 k2 k3 k5 : Option Value}
theorem E8 (T : Aw bm = true) {rest : List Value} (hC : h.get? C = some (excClassObj nm q C N bs bm hdct sn sub ab col dd k0 k1 k2 k3 k5 "ValueError.__new__"))
  (hq : R (.ok (.ret (.ref (h.objs.size + 1)))) ⟨(h.push { cls := .type "tuple", data := .seq rest.toArray }).push
   {cls := .ref C, data := .fields #[.ref h.objs.size, .none, .none, .none, .bool false, .none] }, g, d, t, os⟩) (hrest : rest.length <= sizeLine) :
  codeAny (model prog w) A (.builtin "ValueError.__new__" ⟨.ref C :: rest, []⟩) R ⟨h, g, d, t, os⟩ := by
 have F := PySem.F.excBase_ValueError
 have hends := F.ends
 have hcB : (Value.ref C :: bm).contains (.type "ValueError") = true := by rw [List.contains_cons, Bn T (show valTail.contains (.type "ValueError") = true by decide +kernel), Bool.or_true]
 have hcA : (Value.ref C :: bm).contains (.type "AttributeError") = false := by rw [List.contains_cons, Bn T (show valTail.contains (.type "AttributeError") = false by decide +kernel)]; rfl
 have hcN : (Value.ref C :: bm).contains (.type "NameError") = false := by rw [List.contains_cons, Bn T (show valTail.contains (.type "NameError") = false by decide +kernel)]; rfl
 refine codeAny_builtinAt F.entry ?_
 unfold Builtin.«BaseException.__new__»
 refine wpAt_bind ?_
 show wpAt _ _ _ (stack >>= _) _ _ _
 refine wpAt_bind (wpAt_stack fun p below => wpAt_of_wpAny ?_)
 wp_walk
 refine wpAt_of_wpAny ?_
 rw [F.owner]
 repeat (first | with_reducible refine wpAny_madeHere_exc F.canon hC ?_ | with_reducible refine wpAny_loadPart_at hC ?_ | (with_reducible refine wpAny_isSubtype_exc hC ?_; first | rw [hcB] | rw [hcA] | rw [hcN]) | wp_step)
 show R _ _
 rw [Heap.size_push]
 exact hq
end
end L2
namespace L2
open PySem PySem.Spec PySem.W Builtin Builtin.ObjectAttr
open Sem (wp)
section
variable {prog : Program} {w : World} {A : Around} {E : Value -> Shared -> Prop} {h : Heap} {g : Array GenState} {d : Drawn} {t : Nat} {os : OsState}
variable {nm q : Str} {C N f : Addr} {bs bm : List Value} {hdct : Bool} {sn : List Str} {sub : List Value} {ab : Bool} {col : Option Bool} {dd : Option Addr} {k0 k1 k2 k3 k5 : Option Value}
abbrev Gw (h : Heap) (C : Addr) (rest : List Value) : Heap := (h.push { cls := .type "tuple", data := .seq rest.toArray }).push { cls := .ref C, data := .fields #[.ref h.objs.size, .none, .none, .none, .bool false, .none] }
theorem E1 (T : Aw bm = true) {rest : List Value} {Q : Fin -> Shared -> Prop}
  (hC : h.get? C = some (excClassObj nm q C N bs bm hdct sn sub ab col dd k0 k1 k2 k3 k5 "ValueError.__new__"))
  (hi : Looks (model prog w) h (typeLookup (.ref C) "__init__") (some (.builtin "ValueError.__init__")))
  (hq : ∀ h' e, Heap.MadeExcOf h h' e (.ref C) rest -> e = h.objs.size + 1 -> Q (.done (.ret (.ref e))) ⟨h', g, d, t, os⟩) (hrest : rest.length <= sizeLine) :
  wpAny (model prog w) A (Builtin.«type.__call__» ⟨.ref C :: rest, []⟩) Q E ⟨h, g, d, t, os⟩ := by
 have F := PySem.F.excBase_ValueError
 repeat (first | with_reducible refine wpAny_loadPart_at hC ?_ | with_reducible refine wpAny_madeBy_exc hC ?_ | wp_step)
 refine codeAny_call_builtin_code (Code.quiet_builtin _ F.quiet) (Fn T hC ?_)
 refine E8 T hC ?_ hrest
 show wpAny _ _ _ _ _ _
 have kp : ∀ b o, h.get? b = some o -> (Gw h C rest).get? b = some o := fun b o e => Heap.get?_push_of_some _ (Heap.get?_push_of_some _ e)
 have hC₁ := kp _ _ hC
 have hget : (Gw h C rest).get? (h.objs.size + 1) = some { cls := .ref C, data := .fields #[.ref h.objs.size, .none, .none, .none, .bool false, .none] } := by heap_get
 have hcC : (Value.ref C :: bm).contains (.ref C) = true := by simp
 have hcB : (Value.ref C :: bm).contains (.type "ValueError") = true := by rw [List.contains_cons, Bn T (show valTail.contains (.type "ValueError") = true by decide +kernel), Bool.or_true]
 unfold isInstance
 repeat (first | with_reducible refine wpAny_loadPart_at hget ?_ | (with_reducible refine wpAny_isSubtype_exc hC₁ ?_; rw [hcC]) | wp_step)
 show wpAny _ _ (typeLookup (.ref C) _) _ _ _
 refine (hi.keeps kp).at ?_
 refine wpAny_holding (wpAny_bind (wpAny_of_eq (F.init.bind _) ?_))
 have chk : ∀ {Q' : Unit -> Shared -> Prop} {E' : Value -> Shared -> Prop} {A' : Around}, Q' () ⟨Gw h C rest, g, d, t, os⟩ -> wpAny (model prog w) A' (checkBuiltinCall "ValueError.__init__" ⟨.ref (h.objs.size + 1) :: rest, []⟩) Q' E' ⟨Gw h C rest, g, d, t, os⟩ := fun {Q' E' A'} hq' => by
  have hshort := F.noStar
  simp only [checkBuiltinCall, F.initKind, F.initSplit, F.initRow]
  repeat (first | with_reducible refine wpAny_loadPart_at hget ?_ | with_reducible refine wpAny_loadPart_at hC₁ ?_ | (with_reducible refine wpAny_isSubtype_exc hC₁ ?_; rw [hcB]) | wp_step)
  refine wpAny_onRaise ?_
  rw [show ∀ (a b : String) (n : Nat), Bind.check ⟨.positional, "*", "ValueError", .self, [⟨"args", .varPos, false⟩]⟩ a b n (List.map (fun x => x.fst) ({ pos := Value.ref (h.objs.size + 1) :: rest } : Args).kw) = pure () from
   fun a b n => check_star_args _ _ _ _ _ _]
  exact wpAny_pure hq'
 refine wpAny_bind (wpAny_call (codeAny_call_builtin F.init.plain F.initEntry (chk ?_)))
 wp_walk
 refine hq _ _ ⟨fun b o hb => ?_, Heap.get?_none_of_le (Nat.le_succ _), h.objs.size + 2, ?_, Heap.get?_none_of_le (by omega), ?_⟩ rfl
 ·rw [Heap.get?_update_other _ _ (Nat.ne_of_gt (Nat.lt_succ_of_lt (Heap.lt_size hb)))]
  exact Heap.get?_push_of_some _ (Heap.get?_push_of_some _ (Heap.get?_push_of_some _ hb))
 ·rw [Heap.get?_update_self _ (Heap.get?_push_of_some _ hget) rfl]
  simp only [Heap.size_push]
  rfl
 ·rw [Heap.get?_update_other _ _ (show h.objs.size + 1 ≠ h.objs.size + 2 by omega)]
  exact Heap.get?_push_at (by simp only [Heap.size_push]) rfl
theorem Rm (T : Aw bm = true) {rest : List Value} {R : Result -> Shared -> Prop}
  (hC : h.get? C = some (excClassObj nm q C N bs bm hdct sn sub ab col dd k0 k1 k2 k3 k5 "ValueError.__new__"))
  (hi : Looks (model prog w) h (typeLookup (.ref C) "__init__") (some (.builtin "ValueError.__init__")))
  (hq : ∀ h' e, Heap.MadeExcOf h h' e (.ref C) rest -> e = h.objs.size + 1 -> R (.ok (.ret (.ref e))) ⟨h', g, d, t, os⟩) (hrest : rest.length <= sizeLine) :
  codeAny (model prog w) A (.call (.ref C) ⟨rest, []⟩) R ⟨h, g, d, t, os⟩ := by
 have f1 := tc_lookup
 have f2 := tc_bind (.ref C)
 have hT : (⟨h, g, d, t, os⟩ : Shared).TypeIs (.ref C) "type" := ⟨_, hC, rfl⟩
 refine codeAny_of_tree ?_
 show wpAny _ _ (callAny (.ref C) _) _ _ _
 repeat (any_goals (first | assumption | with_reducible refine wpAny_loadPart_at hC ?_ | wp_step))
 refine ⟨rfl, ?_⟩
 exact codeAny_call_builtin_at (Code.quiet_builtin _ (by decide +kernel)) entry_typeCall (wpAny_check_type_call_sub hC (E1 T hC hi hq hrest))
end
end L2
namespace L2
open PySem PySem.Spec PySem.W PyProof.Rows
theorem ECls.cls {K : PySem.W.Frag} {C : Addr} (c : ECls K C) : ∃ cd, clsIn K C = some cd /\ Aw cd.mro = true /\ cd.hasDict = true := by
 obtain ⟨nm, q, N, bs, bm, hdct, sn, sub, ab, col, dd, k0, k1, k2, k3, k5, hl, ht, hd⟩ := c.obj
 refine ⟨_, by unfold clsIn; rw [hl], ?_, hd⟩
 obtain ⟨rs, e⟩ := Dg ht
 show Aw (Value.ref C :: bm) = true
 rw [e]
 clear e
 show Aw (List.map Value.ref (C :: rs) ++ valTail) = true
 have : ∀ l : List Addr, Aw (List.map Value.ref l ++ valTail) = true := fun l => by
  induction l with
  | nil => decide +kernel
  | cons a r ih => cases r <;> exact ih
 exact this _
theorem ECls.sub {K : PySem.W.Frag} {C : Addr} (c : ECls K C) {T : String} (h : valTail.contains (.type T) = true) : mroIn K C (.type T) = some true := by
 obtain ⟨cd, h1, h2, _⟩ := c.cls
 obtain ⟨rs, e⟩ := Dg h2
 unfold mroIn
 rw [h1, Option.bind_some, e, Wg rs h, if_neg]
 cases rs <;> exact Bool.false_ne_true
section
variable {prog : Program} {w : World} {A : Around} {E : Value -> Shared -> Prop} {s : Shared} {K : PySem.W.Frag} {x C : Addr} {ox : Obj} {od : Option Obj} {name : Str}
theorem Ub {g a v : Value} {Q : Option Value -> Shared -> Prop} (X : K.In s.heap) (I : PySem.W.InstAt s.heap x ox C od) (hga : PySem.W.findIn K (.ref C) "__getattribute__" = some (some (.builtin "BaseException.__getattribute__"))) (hgt : PySem.W.findIn K (.ref C) "__getattr__" = some none)
  (hB : PySem.W.mroIn K C (.type "BaseException") = some true) (hf : PySem.W.findObj K C od name = some (.bind g a)) (hh : PySem.W.handedIn v = true)
  (h : ∀ {A' : Around} {R : Result -> Shared -> Prop}, R (.ok (.ret v)) { s with toks := s.toks + 1 } -> codeAny (model prog w) A' (.call g ⟨[a, .ref x, .ref C], []⟩) R { s with toks := s.toks + 1 }) (hq : Q (some v) { s with toks := s.toks + 1 }) :
  wpAny (model prog w) A (getAttr? (.ref x) name) Q E s := by
 obtain ⟨hp, gg, d, t, os⟩ := s
 have L0 := I.type (M := model prog w)
 have L1 := PySem.W.looks_findIn (M := model prog w) X hga
 have L2 := PySem.W.looks_findIn (M := model prog w) X hgt
 have L3 := PySem.W.looks_find (M := model prog w) X I hf
 have L4 := PySem.W.looks_mroIn (M := model prog w) X hB
 unfold getAttr? getAttrBy? getAttrBy
 refine wpAny_bind (wpAny_mkText (wpAny_bind (wpAny_attempt (wpAny_holding (wpAny_bind (L0.at (wpAny_bind (L1.at ?_))))))))
 have hx2 : (Value.builtin "BaseException.__getattribute__" == Value.builtin "object.__getattribute__") = false := by decide +kernel
 have hx1 : (onTheHeap (Value.ref C) && Value.builtin "BaseException.__getattribute__" == Value.builtin "object.__getattribute__") = false := by rw [hx2]; rfl
 dsimp only
 rw [hx1, if_neg Bool.false_ne_true]
 unfold getAttrByItsOwn
 refine wpAny_bind (show wpAny _ _ (typeLookup (.ref C) "__getattr__") _ _ _ from L2.at ?_)
 refine wpAny_bind (wpAny_attempt (wpAny_holding ?_))
 have hx0 : (false && onTheHeap (Value.builtin "BaseException.__getattribute__")) = false := rfl
 unfold callGetattribute
 rw [hx0, if_neg Bool.false_ne_true]
 unfold boundAndCalled
 rw [Tk]
 refine wpAny_bind (wpAny_pure ?_)
 refine wpAny_call (codeAny_call_builtin (by decide +kernel) F.entry_bexc_ga (check_slot (i := "BaseException.__getattribute__") (owner := "BaseException") (n := "__getattribute__") (by decide +kernel) (by decide +kernel) (L0.andThen L4) (F.args_bexc_ga _ _) ?_))
 unfold Builtin.«object.__getattribute__»
 refine wpAny_bind (wpAny_pure (wpAny_bind (wpAny_pure (wpAny_bind (L0.at (wpAny_bind (L3.at ?_)))))))
 refine wpAny_bind (wpAny_holding (wpAny_call (h ?_)))
 refine wpAny_pure ?_
 show wpAny _ _ (handedOut v) _ _ _
 rw [PySem.W.handedOut_of hh]
 exact wpAny_pure (wpAny_pure hq)
theorem Jh {a g : Value} (hc : (clsIn K C).isSome = true) (ha : findIn K (.ref C) name = some (some a)) (hg : specialIn K a "__get__" = some (some g)) (ht : takesIn K a = some true) : findObj K C od name = some (.bind g a) := by
 obtain ⟨cd, hc⟩ := Option.isSome_iff_exists.mp hc
 unfold findObj
 rw [hc, Option.bind_some, ha, Option.bind_some]
 simp [hg, ht]
theorem Ra {Q : Option Value -> Shared -> Prop} (c : ECls K C) (X : K.In s.heap) (I : InstAt s.heap x ox C od) (h : Q (some (.ref C)) { s with toks := s.toks + 1 }) : wpAny (model prog w) A (getAttr? (.ref x) "__class__") Q E s := by
 have hf : findObj K C od "__class__" = some (.bind (.builtin "getset_descriptor.__get__") (.builtin "object.__class__")) := Jh (by obtain ⟨cd, hc, _⟩ := c.cls; rw [hc]; rfl) c.ca c.hn c.htk
 exact Ub (v := .ref C) X I c.ga c.gt (c.sub (by decide +kernel)) hf rfl (fun q => class_get (s := { s with toks := s.toks + 1 }) (ox := ox) (od := od) X I (c.sub (by decide +kernel)) q) h
end
theorem Uh {K : PySem.W.Frag} {x D : Addr} (c : ECls K D) : KitX K (.ref x) (.ref D) (fun h => ∃ ox od, InstAt h x ox D od) where
 ty := fun _ _ _ ⟨_, _, I⟩ => I.type
 it := fun _ _ X _ => by
  obtain ⟨cdD, hcD, _⟩ := c.cls
  unfold clsIn at hcD
  split at hcD
  ·rename_i c' d' cd' sl' ho
   intro A' Q' E' s' k q
   unfold isType loadHead
   exact wpAny_bind (wpAny_loadPart (k _ _ (X _ _ ho)) (wpAny_pure q))
  ·cases hcD
 ne := fun h tp dd its n sl X htp => by
  obtain ⟨cdD, hcD, _⟩ := c.cls
  refine Bool.eq_false_iff.mpr fun q => ?_
  have e : D = tp := Value.ref.inj (beq_iff_eq.mp q)
  subst e
  unfold clsIn at hcD
  split at hcD
  ·rename_i c' d' cd' sl' ho
   have z := (X _ _ ho).symm.trans htp
   cases z
  ·cases hcD
 ca := fun X ⟨_, _, I⟩ k => Ra c X I k
def ExcAt (H : Hp) (a C : Addr) (fs : List (Str × V)) : Prop := (fs = [] /\ (H a = some (excO a C none) \/ H a = some (flO a C none))) \/ ∃ dx, dx ≠ a /\ (H a = some (excO a C (some dx)) \/ H a = some (flO a C (some dx))) /\ H dx = some (xdO dx fs)
inductive TyX (K : PySem.W.Frag) (H : Hp) (x : V) (t : Value) : Prop where
 | of (h : TyOf K H x t)
 | exc {a C : Addr} {fs : List (Str × V)} (ex : x = .ref a) (e : ExcAt H a C fs) (c : ECls K C) (et : t = .ref C)
 | sqT {a : Addr} {xs : List V} (ex : x = .ref a) (e : SqT K H a xs) (et : t = .type "tuple")
 | sqL {a : Addr} {xs : List V} (ex : x = .ref a) (e : SqL K H a xs) (et : t = .type "list")
section
variable {X : Cx} {pins : List (Addr × Obj)} {σ : St} {H : Hp} {s : Shared} {A : Around} {E : Value -> Shared -> Prop} {a C : Addr} {fs : List (Str × V)}
theorem Tv {dx : Option Addr} (I : Inv X pins σ H s) (e : H a = some (excO a C dx)) : ∃ vs : Array Value, s.heap.get? a = some (At C dx vs) /\ vs.size = 6 /\ vs[1]? = some .none := (I.hok a _ e).1
theorem al0 {dx : Option Addr} (I : Inv X pins σ H s) (e : H a = some (flO a C dx)) : ∃ vs : Array Value, s.heap.get? a = some (At C dx vs) /\ vs.size = 6 := (I.hok a _ e).1
theorem Y9 {dx : Option Addr} (I : Inv X pins σ H s) (e : H a = some (excO a C dx) \/ H a = some (flO a C dx)) : ∃ vs : Array Value, s.heap.get? a = some (At C dx vs) /\ vs.size = 6 := by
 rcases e with e | e
 ·obtain ⟨vs, h1, h2, _⟩ := Tv I e; exact ⟨vs, h1, h2⟩
 ·exact al0 I e
theorem a03 {dx : Addr} (I : Inv X pins σ H s) (e : H dx = some (xdO dx fs)) : fs.length <= 1000 /\ ∃ mA, s.heap.Ns1 dx mA /\ (∀ f, RelO (fs.lookup f) (mA f)) /\ PySem.Within mA (fs.map (·.1)) := (I.hok dx _ e).1
theorem ExcAt.inst (I : Inv X pins σ H s) (e : ExcAt H a C fs) : ∃ vs dx od, InstAt s.heap a (At C dx vs) C od /\ (∀ o, od = some o -> ∀ name, ∃ v, lookIn name o = some v /\ RelO (fs.lookup name) v) /\ (od = none -> fs = []) := by
 rcases e with ⟨rfl, e⟩ | ⟨dx, ne, e, ed⟩
 ·obtain ⟨vs, h1, _⟩ := Y9 I e
  exact ⟨vs, none, none, ⟨h1, rfl, rfl, True.intro⟩, fun o z => (nomatch z), fun _ => rfl⟩
 ·obtain ⟨vs, h1, _⟩ := Y9 I e
  obtain ⟨_, mA, hn, hr, _⟩ := a03 I ed
  obtain ⟨od, ho, hl⟩ := Kc hn
  refine ⟨vs, some dx, some od, ⟨h1, rfl, rfl, ho⟩, fun o z name => ?_, fun z => nomatch z⟩
  cases z
  exact ⟨_, hl name, hr name⟩
theorem Hk {Q : Value -> Shared -> Prop} {c : Value} {b : Bool} {x : V} {u t : Value} (I : Inv X pins σ H s) (rx : RelV x u) (ty : TyX X.K H x t) (e : PySem.W.kitOne X.K t c = some b) (h : ∀ tk, Q (.bool b) { s with toks := tk }) :
  wpAny (model X.prog X.w) A (call (.builtin "isinstance") [u, c]) Q E s := by
 cases ty with
 | of ty => exact J6 I rx ty e h
 | @exc a C fs ex ea cl et =>
  subst ex et
  cases (show u = Value.ref a from rx)
  obtain ⟨vs, dx, od, J, _⟩ := ea.inst I
  exact PySem.W.kia_one (Uh cl) I.kIn ⟨_, _, J⟩ e (fun z => nomatch z) h
 | @sqT a xs ex q et =>
  subst ex et
  cases (show u = Value.ref a from rx)
  obtain ⟨_, _, ⟨o, h1, h2, _⟩, _⟩ := I.tuple q
  exact PySem.W.kia_one PySem.W.kitx_tuple I.kIn ⟨o, h1, h2⟩ e (fun z => nomatch z) h
 | @sqL a xs ex q et =>
  subst ex et
  cases (show u = Value.ref a from rx)
  obtain ⟨_, _, ⟨o, _, h1, h2, _⟩, _⟩ := I.list q
  exact PySem.W.kia_one PySem.W.kitx_list I.kIn ⟨o, h1, h2⟩ e (fun z => nomatch z) h
theorem Xb {P : Program} {w : World} {H : Hp} {h : Heap} {dx : Option Addr} {vs : Array Value} (h1 : h.get? a = some (At C dx vs)) (h2 : vs.size = 6) (h3 : vs[1]? = some .none) : ObjOk P w H h a (excO a C dx) :=
 ⟨⟨vs, h1, h2, h3⟩, ⟨_, h1⟩, fun _ _ ⟨vs', q1, q2⟩ k => ⟨vs', k _ q1, q2⟩⟩
theorem Tx {P : Program} {w : World} {H : Hp} {h : Heap} {dx : Option Addr} {vs : Array Value} (h1 : h.get? a = some (At C dx vs)) (h2 : vs.size = 6) : ObjOk P w H h a (flO a C dx) :=
 ⟨⟨vs, h1, h2⟩, ⟨_, h1⟩, fun _ _ ⟨vs', q1, q2⟩ k => ⟨vs', k _ q1, q2⟩⟩
variable {CX : CXT} {k : Nat} {f : Addr} {fd : FuncData} {ps : List Str} {sp : Sp} {dvs : List V} {ds us : List Value} {vs : List V} {Q : VK}
theorem Ot (c : ECls X.K C) (hi : findIn X.K (.ref C) "__init__" = some (some (.builtin "ValueError.__init__"))) (I : Inv X pins σ H s) (r : Vals vs us) (hl : vs.length <= 1000) (h : ∀ a, H a = none -> Q (.ref a) (upd H a (excO a C none))) :
  wpAny (model X.prog X.w) X.A (call (.ref C) us) (EP X pins σ Q) X.xe s := by
 obtain ⟨nm, q, N, bs, bm, hdct, sn, sub, ab, col, dd, k0, k1, k2, k3, k5, hC, ht, _⟩ := c.obj
 obtain ⟨hh, g, d, t, os⟩ := s
 refine wpAny_call (Rm ht (I.kIn _ _ hC) (looks_findIn I.kIn hi) (fun h' e M ee => ?_) (by rw [<- r.length, sizeLine_eq]; omega))
 subst ee
 obtain ⟨kp, _, t0, q1, _, _⟩ := M
 refine ⟨.ref (hh.objs.size + 1), upd H (hh.objs.size + 1) (excO (hh.objs.size + 1) C none), ?_, rfl, h _ (I.hok.fresh (Nat.le_succ _))⟩
 exact I.laid (t' := t) kp (Nat.le_succ _) (Xb q1 rfl rfl)
end
end L2
namespace L2
open PySem PySem.Spec PyProof.Rows
def Ite (K : PySem.W.Frag) (l : Addr) : It :=
  ⟨fun i H => ∃ xs x, SqL K H l xs /\ xs[i]? = some x,
   fun i H v H' => ∃ T x, H T = none /\ v = .ref T /\ (∀ xs, SqL K H l xs -> xs[i]? = some x) /\ H' = upd H T (.tup [.int i, x]),
   fun i H => ∃ xs, SqL K H l xs /\ xs.length <= i⟩
theorem Su {P : Program} {w : World} {K : PySem.W.Frag} {elts : List Expr} {kt : Nat} {pt : Pos} {e it l : Addr} (ne : e ≠ it) :
  Turn P w K (.Tuple elts kt pt) (Ite K l) [e, it] e (fun i h => (∃ old, IsEnum h e it (i : Int) old) /\ h.IsListIter it l i) where
 mem := by simp
 obj := fun i h st b hb => by
  obtain ⟨⟨old, he⟩, ⟨o1, e1, c1, d1⟩⟩ := st
  have hb : b = e \/ b = it := by simpa using hb
  rcases hb with rfl | rfl
  ·exact ⟨_, he, fun v q => nomatch q⟩
  ·exact ⟨o1, e1, fun v q => by rw [d1] at q; cases q⟩
 keep := fun i h h' st k => by
  obtain ⟨⟨old, he⟩, h1⟩ := st
  exact ⟨⟨old, k e (by simp) _ he⟩, h1.at fun o q => k it (by simp) o q⟩
 item := by
  intro X hP hw hK hc i pins s σ H E I hf st hg
  subst hP hw hK
  obtain ⟨xs, x, q1, hx⟩ := hg
  obtain ⟨its1, r1, p1, z1⟩ := I.list q1
  obtain ⟨u, hu, ru⟩ := r1.get hx
  obtain ⟨⟨old, he⟩, h1⟩ := st
  refine wpAny_pyNext_enum_item he h1 p1.isList (x := u) (by simpa using hu) ne fun h' a1 a2 a3 a4 hk => ?_
  refine ⟨_, rfl, wpAny_letOwnedTupleGo_enum a1 fun h'' hz' hs' => ?_⟩
  have hT := I.hok.fresh (Nat.le_refl s.heap.objs.size)
  have up' : ∀ b o, b ∉ [e, it] -> s.heap.get? b = some o -> h''.get? b = some o := fun b o hb q => by
   have b1 : b ≠ e := by rintro rfl; exact hb (by simp)
   have b2 : b ≠ it := by rintro rfl; exact hb (by simp)
   exact hs'.extBut b o b1 (hk b o b1 b2 q)
  have nT : ∀ {b o}, s.heap.get? b = some o -> b ≠ s.heap.objs.size := fun q => Nat.ne_of_lt (Heap.lt_size q)
  have Tnew : h''.get? s.heap.objs.size = some { cls := .type "tuple", data := .seq #[.int i s.toks, u] } := hs'.extBut _ _ (Ne.symm (nT he)) a3
  have I1 : Inv X pins σ (upd H s.heap.objs.size (.tup [.int i, x])) { s with heap := h'', toks := s.toks + 1 } :=
   I.turnedN (t' := s.toks + 1) (ch := [e, it]) (fun b hb => hf b hb) up' (Nat.le_refl _) ⟨by show 2 <= sizeLine; decide, [.int i s.toks, u], .cons ⟨_, rfl⟩ (.cons ru .nil), ⟨_, Tnew, rfl, _, rfl⟩⟩
  refine ⟨.ref s.heap.objs.size, _, I1, rfl, ⟨s.heap.objs.size, x, hT, rfl, fun xs' h' => by rw [I.list_inj h' q1]; exact hx, rfl⟩, ⟨⟨_, hz'⟩, a2.at fun o q => hs'.extBut _ o (Ne.symm ne) q⟩, fun b hb => ?_⟩
  have q := (hf b hb).1
  rw [Af ?_]
  ·exact q
  ·have hb : b = e \/ b = it := by simpa using hb
   rcases hb with rfl | rfl
   ·exact nT he
   ·obtain ⟨_, q, _⟩ := h1; exact nT q
 done := by
  intro X hP hw hK hc i pins s σ H E I hf st hg
  subst hP hw hK
  obtain ⟨xs, q1, hx⟩ := hg
  obtain ⟨its1, r1, p1, z1⟩ := I.list q1
  have e1 := r1.length
  obtain ⟨⟨old, he⟩, h1⟩ := st
  refine wpAny_pyNext_enum_end (I.ok.hd hc) he h1 p1.isList (by simp; omega) fun h' hk => ⟨rfl, ?_⟩
  refine I.turnedL (t' := s.toks) (ch := [e, it]) (fun b hb => hf b hb) fun b o hb q => ?_
  have b2 : b ≠ it := by rintro rfl; exact hb (by simp)
  exact hk b o b2 q
 self := fun A i s Q E st h => let ⟨_, he⟩ := st.1; wpAny_pyIter_enum he h
section
variable {X : Cx} {pins : List (Addr × Obj)} {σ σ0 : St} {H H0 : Hp} {s s0 : Shared} {p : Addr} {kvs : List (Key × V)} {o : Obj}
def EpOf (o : Obj) (ep : Nat) : Prop := ∃ es, o.data = .dict es ep
theorem Inv.froze (I : Inv X pins σ H s) (h : H p = some (.dK kvs)) : ∃ ob ep, s.heap.get? p = some ob /\ EpOf ob ep /\ Inv X pins σ (upd H p (.frz ob (.dK kvs))) s := by
 have K := I.hok p _ h
 obtain ⟨z, y, vs, r, ob, es, ep, e, c, d, q⟩ := id K
 refine ⟨ob, ep, e, ⟨es, d⟩, ?_⟩
 exact I.write (x := p) (e := p) (t' := s.toks) (h' := s.heap) (by rw [h]; trivial) (.inl rfl) (fun b u _ q => q) ⟨ob, e⟩ ⟨e, K⟩
theorem Inv.thaw (I0 : Inv X pins σ0 H0 s0) (h0 : H0 p = some (.dK kvs)) (I : Inv X pins σ H s) (h : H p = some (.frz o (.dK kvs))) : Inv X pins σ (upd H p (.dK kvs)) s := by
 have ne : ∀ b, H b = none -> b ≠ p := fun b e z => by rw [z, h] at e; cases e
 have ntup : ∀ b xs, H b = some (.tup xs) -> b ≠ p := fun b xs e z => by rw [z, h] at e; cases e
 have nown : ∀ b c, H b = some (.own c) -> b ≠ p := fun b c e z => by rw [z, h] at e; cases e
 refine ⟨I.ok, I.os, I.bare, ⟨I.base.keep, I.base.slot, fun b ob e n hx => ?_, I.base.there, fun b xs e => ?_, fun b ob u e => ?_, fun b ps e => ?_⟩, I.loc, I.cell, ?_, fun x c e => ?_, fun q hq => ?_, fun b u e => ?_, I.len⟩
 ·have q := I.base.free b ob e n hx
  rw [Af (ne b q)]; exact q
 ·have q := I.base.tups b xs e
  rw [Af (ntup b xs q)]; exact q
 ·have q := I.base.frzs b ob u e
  have n : b ≠ p := fun z => by
   have q0 := I0.base.frzs b ob u e
   rw [z, h0] at q0; cases q0
  rw [Af n]; exact q
 ·obtain ⟨more, q⟩ := I.base.tbls b ps e
  have n : b ≠ p := fun z => by rw [z, h] at q; cases q
  exact ⟨more, by rw [Af n]; exact q⟩
 ·rw [Af (ne _ I.free)]; exact I.free
 ·have q := I.freeC x c e
  rw [Af (ne _ q)]; exact q
 ·obtain ⟨a, b, c⟩ := I.pin q hq
  exact ⟨a, by rw [Af (ne _ b)]; exact b, c⟩
 ·by_cases z : b = p
  ·subst z
   rw [Ac] at e
   cases e
   exact (I.hok b _ h).2
  ·rw [Af z] at e
   exact (I.hok b u e).stay (fun _ _ _ q => q) (fun c q => by rw [Af (nown c b q)]; exact q) fun c xs q => by rw [Af (ntup c xs q)]; exact q
theorem Thaw.inv {P : Hp -> Prop} (I0 : Inv X pins σ0 H0 s0) (I : Inv X pins σ H s) (t : Thaw H0 H P) : ∃ H', Inv X pins σ H' s /\ P H' := by
 rcases t with t | ⟨p, o, kvs, h0, h, t⟩
 ·exact ⟨H, I, t⟩
 ·exact ⟨_, I0.thaw h0 I h, t⟩
theorem Inv.kdict (I : Inv X pins σ H s) (h : H p = some (.frz o (.dK kvs))) {ep : Nat} (he : EpOf o ep) : ∃ vs, KV kvs vs /\ s.heap.DictAt (Ay X.prog X.w) p vs ep /\ (p == sysModules) = false := by
 obtain ⟨e1, z, y, vs, r, ob, es, ep', e, c, d, q⟩ := I.hok p _ h
 obtain ⟨es', d'⟩ := he
 rw [e1] at e
 cases e
 have d2 := d
 rw [d'] at d2
 cases d2
 exact ⟨vs, r, ⟨o, _, e1, c, d, q⟩, y⟩
end
def Itd (p : Addr) (o : Obj) (kvs : List (Key × V)) : It :=
 ⟨fun i H => H p = some (.frz o (.dK kvs)) /\ i < kvs.length, fun i H x H' => H' = H /\ ∃ k v, kvs[i]? = some (k, v) /\ x = kV k, fun i H => H p = some (.frz o (.dK kvs)) /\ kvs.length <= i⟩
theorem Ui : ∀ {kvs : List (Key × V)} {vs : List (Key × Value)} {i : Nat} {k : Key} {v : V}, KV kvs vs -> kvs[i]? = some (k, v) -> ∃ u, vs[i]? = some (k, u) /\ RelV v u
 | _, _, 0, k, v, .cons (b := q) r _, e => by
  simp only [List.getElem?_cons_zero, Option.some.injEq] at e
  subst e
  exact ⟨q.2, congrArg some (Prod.ext r.1.symm rfl), r.2⟩
 | _, _, i + 1, k, v, .cons r t, e => by
  simp only [List.getElem?_cons_succ] at e ⊢
  exact Ui t e
theorem Zj {P : Program} {w : World} {k : Key} {u : Value} (h : (Ay P w).is k u = true) : RelV (kV k) u := by
 cases k with
 | inl i => obtain ⟨t, rfl⟩ := Value.isInt_shape (show Value.isInt i u = true from h); exact ⟨t, rfl⟩
 | inr z => obtain ⟨t, rfl⟩ := Value.isStrOf_shape (show Value.isStrOf z u = true from h); exact ⟨t, rfl⟩
theorem Ss {P : Program} {w : World} {K : PySem.W.Frag} {tg : Expr} (p it : Addr) (o : Obj) (kvs : List (Key × V)) {ep : Nat} (he : EpOf o ep) : Turn P w K tg (Itd p o kvs) [it] it (fun i h => h.IsKeyIter it p i kvs.length ep) where
 mem := by simp
 obj := fun i h st b hb => by
  have e : b = it := by simpa using hb
  subst e
  obtain ⟨o, e, c, d⟩ := st
  exact ⟨o, e, fun v z => by rw [d] at z; cases z⟩
 keep := fun i h h' st k => st.at fun o e => k it (by simp) o e
 item := by
  intro X hP hw hK hc i pins s σ H E I hf st hg
  subst hP hw hK
  obtain ⟨hH, hi⟩ := hg
  obtain ⟨vs, rel, hd, hm⟩ := I.kdict hH he
  obtain ⟨f0, f1, f2, f3, f4, f5⟩ := hf it (by simp)
  obtain ⟨⟨k, v⟩, hx⟩ : ∃ q, kvs[i]? = some q := ⟨kvs[i], by simp [hi]⟩
  obtain ⟨u, hu, _⟩ := Ui rel hx
  have hl : kvs.length = vs.length := rel.length
  rw [hl] at st
  refine wpAny_pyNext_dict_item st hd hu fun key h' hk st' sb => ?_
  have I1 : Inv X pins σ H { s with heap := h' } := I.turned (t' := s.toks) (fun b o hb e => sb.extBut b o hb e) f0 f1 f3 f4 f5
  obtain ⟨o1, e, c, d⟩ := id st'
  exact ⟨key, rfl, J1 (s := { s with heap := h' }) e c d (by decide) ⟨kV k, H, I1, Zj hk, ⟨rfl, k, v, hx, rfl⟩, by rw [hl]; exact st', fun b hb => (hf b hb).1⟩⟩
 done := by
  intro X hP hw hK hc i pins s σ H E I hf st hg
  subst hP hw hK
  obtain ⟨hH, hi⟩ := hg
  obtain ⟨vs, rel, hd, hm⟩ := I.kdict hH he
  obtain ⟨f0, f1, f2, f3, f4, f5⟩ := hf it (by simp)
  have hl : kvs.length = vs.length := rel.length
  rw [hl] at st
  exact wpAny_pyNext_dict_end (I.ok.hd hc) st hd (by simp; omega) fun h' eb => ⟨rfl, I.turned (t' := s.toks) (fun b o hb e => eb b o hb e) f0 f1 f3 f4 f5⟩
 self := fun _ _ _ _ _ st h => wpAny_pyIter_keyiter st h
theorem W5 {X : Cx} {tg : Expr} {pins : List (Addr × Obj)} {σ : St} {H : Hp} {s : Shared} {R : It -> Hp -> Prop} {E : Value -> Shared -> Prop} {p : Addr} {o : Obj} {kvs : List (Key × V)} (I : Inv X pins σ H s) (h : H p = some (.frz o (.dK kvs)))
  (q : R (Itd p o kvs) H) : wpAny (model X.prog X.w) X.A (pyIter (.ref p)) (PIE X pins σ tg R) E s := by
 have he : ∃ ep, EpOf o ep := by
  obtain ⟨e1, z, y, vs, r, ob, es, ep, e, c, d, _⟩ := I.hok p _ h
  rw [e1] at e; cases e
  exact ⟨ep, es, d⟩
 obtain ⟨ep, he⟩ := he
 obtain ⟨vs, rel, hd, hm⟩ := I.kdict h he
 refine wpAny_pyIter_dict hm hd ?_
 refine ⟨s.heap.objs.size, [s.heap.objs.size], _, _, H, rfl, I.kept (t' := s.toks) fun b o e => Heap.get?_push_of_some _ e, Ss p _ o kvs he, ⟨_, Heap.get?_push_size _ rfl, rfl, by rw [rel.length]; rfl⟩, fun b hb => ?_, q⟩
 have e : b = s.heap.objs.size := by simpa using hb
 subst e
 exact I.fpOk (Nat.le_refl _) (I.hok.fresh (Nat.le_refl _))
end L2
namespace PySem
theorem Sem.wp_never {α : Type} (M : Model) (Γ : Ctx) : ∀ (t : Sem α) (p : Pos) (s : Shared), Sem.wp M Γ t (fun _ _ _ => False) (fun _ _ _ => False) p s -> False := by
 intro t
 induction t with
 | pure a => intro p s h; exact h
 | raise e => intro p s h; exact h
 | unsupported w => intro p s h; exact h
 | finish e => intro p s h; exact h
 | rule tag k ih => intro p s h; exact ih () p s h
 | «at» q k ih => intro p s h; exact ih () q s h
 | load a part k ih => intro p s h; obtain ⟨o, _, h⟩ := h; exact ih o p s h
 | update a part f k ih => intro p s h; exact ih () p _ h.2
 | alloc o k ih => intro p s h; exact ih _ p _ h
 | loadIfAlive a k ih => intro p s h; exact ih _ p s h
 | point l k ih => intro p s h; exact ih () p s h
 | register a k ih => intro p s h; exact h
 | fresh k ih => intro p s h; exact ih _ p _ h
 | ask k ih => intro p s h; exact ih _ p s h
 | choose src n k ih => intro p s h; exact ih _ p _ h.2
 | os q l k ih => intro p s h; exact ih _ p _ h
 | call c hd g l k ih => intro p s h; obtain ⟨r, s', _, h⟩ := h; exact ih r p s' h
 | handled own k ih => intro p s h; exact ih _ p s h
 | newGen c k ih => intro p s h; exact ih _ p _ h
 | genState g k ih => intro p s h; obtain ⟨st, _, h⟩ := h; exact ih _ p s h
 | resume g r l k ih => intro p s h; obtain ⟨res, s', _, h⟩ := h; exact ih res p s' h
 | yield v g l k ih => intro p s h; exact h
 | stack k ih => intro p s h; exact ih _ p s h
 | fork c k ih => intro p s h; exact h
 | thread k ih => intro p s h; first | exact ih _ p s h | exact h
 | await a tk d l k ih => intro p s h; first | exact h | exact ih _ p s h
section
variable {prog : Program} {w : World} {A : Around} {E : Value -> Shared -> Prop} {s : Shared}
theorem Ru {v : Value} {P : Value -> Shared -> Prop} (h : wpAny (model prog w) A (pyNext v) (fun r s' => ∃ u, r = some u /\ P u s') (fun _ _ => False) s) : wpAny (model prog w) A (Builtin.SmallTypes.nextOf v) P E s := by
 intro Γ p hΓ
 have h := h Γ p hΓ
 unfold pyNext Sem.attempt at h
 unfold Builtin.SmallTypes.nextOf
 rw [Sem.wp_bind', Sem.wp_tryCatch, Sem.wp_bind] at h
 rw [Sem.wp_bind']
 refine Sem.wp_mono _ _ _ (fun o p' s' q => ?_) (fun e p' s' q => ?_) p s h
 ·cases o with
  | none => exact (show False from q).elim
  | some u =>
   obtain ⟨u', e, q⟩ := q
   cases e
   exact q
 ·refine (Sem.wp_never (model prog w) Γ (isInstance e (.type "StopIteration")) p' s' ?_).elim
  have q : Sem.wp (model prog w) Γ (isInstance e (.type "StopIteration") >>= fun b => if b = true then pure none else throw e) (fun r _ s' => ∃ u, r = some u /\ P u s') (fun _ _ _ => False) p' s' := q
  rw [Sem.wp_bind'] at q
  refine Sem.wp_mono _ _ _ (fun b p2 s2 q => ?_) (fun _ _ _ z => z) p' s' q
  cases b with
  | true => obtain ⟨u, z, _⟩ := q; cases z
  | false => exact q
variable {κ : Type} [DecidableEq κ] {knd : KeyKind prog w κ} {d it : Addr} {ep i : Nat} {kvs : List (κ × Value)}
theorem Gp {Q : Value -> Shared -> Prop} (hh : A.handled = none) (hit : s.heap.IsKeyIter it d i kvs.length ep) (hm : s.heap.DictAt knd d kvs ep) (hx : kvs[i]? = none)
  (hE : ∀ h' x, Heap.ExtBut it s.heap h' -> (∃ o, h'.get? x = some o /\ o.cls = .type "StopIteration") -> E (.ref x) { s with heap := h' }) : wpAny (model prog w) A (Builtin.SmallTypes.nextOf (.ref it)) Q E s := by
 have ⟨oi, ei, ci, di⟩ := hit
 have ⟨od, es, ed, _, dd, _, pr, _⟩ := hm
 have size : es.size = kvs.length := pr.length ▸ (by simp)
 have past : es.size <= i := by rw [size]; simpa using hx
 have own : Builtin.Dict_items.ownsTuple "dict_keyiterator" = false := by decide
 have nx : ¬ ((i : Int) < 0) := by omega
 have noNone : ¬ ((Value.ref d == Value.none) = true) := Bool.false_ne_true
 unfold Builtin.SmallTypes.nextOf
 refine wpAny_bind (wpAny_callSpecial?_slot (name := Str.ofString "__next__") hit.typeIs F.slot_dict_keyiterator_next (wpAny_call_entry F.slot_dict_keyiterator_next hit.typeIs F.entry_dict_keyiterator_next ?_ (F.args_dict_keyiterator_next_1 _)))
 refine wpAny_bind (wpAny_pure (wpAny_bind (wpAny_bind ?_)))
 first | refine wpAny_bind (wpAny_typeNameOfWhole_keyiter hit.typeIs (wpAny_pure (wpAny_bind (wpAny_fieldsOf ei di ?_)))) | refine wpAny_bind (wpAny_typeNameOf_keyiter hit.typeIs (wpAny_pure (wpAny_bind (wpAny_fieldsOf ei di ?_))))
 simp only [own, Bool.false_eq_true, if_false]
 show wpAny _ _ (if (Value.ref d == Value.none) = true then _ else _) _ _ s
 rw [if_neg noNone]
 refine wpAny_bind (wpAny_pure (wpAny_bind (wpAny_dictEntries ed dd ?_)))
 rw [if_neg (show ¬ _ by rw [size]; simp)]
 refine wpAny_bind (wpAny_pure (wpAny_bind (wpAny_dictEpoch ed dd ?_)))
 rw [if_neg (show ¬ _ by simp)]
 refine wpAny_pure ?_
 simp only [nx, if_false, Int.toNat_natCast, Array.getElem?_eq_none past]
 refine wpAny_bind ?_
 first | refine wpAny_bind (wpAny_typeNameOfWhole_keyiter hit.typeIs (wpAny_pure ?_)) | refine wpAny_bind (wpAny_typeNameOf_keyiter hit.typeIs (wpAny_pure ?_))
 show wpAny _ _ (setField (.ref it) 0 .none >>= fun _ => newExc (.type "StopIteration") [] >>= _) _ _ s
 refine wpAny_bind (wpAny_setField ei di (by simp) (wpAny_bind ?_))
 simp only [newExc, newTuple]
 refine wpAny_bind (wpAny_newObj_type (wpAny_bind (m := firstArgMember _ _) (wpAny_of_eq (a := Value.none) (by first | rfl | (simp only [firstArgMember]; rfl)) (wpAny_newObj_type ?_ (by size_fits)))) (by size_fits))
 simp only [raiseNew]
 refine wpAny_bind (wpAny_handled ?_)
 rw [show A.in1.handled = none from hh]
 refine wpAny_bind (wpAny_pure (wpAny_throw ?_))
 exact hE _ _ (((Heap.SameBut.update ..).extBut.push _).push _) ⟨_, Heap.get?_push_size _ rfl, rfl⟩
theorem Ft {k : κ} {v : Value} {Q : Value -> Shared -> Prop} (hit : s.heap.IsKeyIter it d i kvs.length ep) (hm : s.heap.DictAt knd d kvs ep) (hx : kvs[i]? = some (k, v))
  (hQ : ∀ key h', knd.is k key = true -> h'.IsKeyIter it d (i + 1) kvs.length ep -> Heap.SameBut it s.heap h' -> Q key { s with heap := h' }) : wpAny (model prog w) A (Builtin.SmallTypes.nextOf (.ref it)) Q E s :=
 Ru (wpAny_pyNext_dict_item hit hm hx fun key h' a b c => ⟨key, rfl, hQ key h' a b c⟩)
theorem Q9 {e : Addr} {old : Value} {J : Value -> Heap -> Prop} {Q : Value -> Shared -> Prop} (he : IsEnum s.heap e it i old) (hne : e ≠ it)
  (nx : ∀ (A : Around) (P : Value -> Shared -> Prop) (E : Value -> Shared -> Prop), (∀ x h1, J x h1 -> Heap.SameBut it s.heap h1 -> P x { s with heap := h1 }) -> wpAny (model prog w) A (Builtin.SmallTypes.nextOf (.ref it)) P E s)
  (hJ : ∀ x h1 h2, J x h1 -> (∀ o, h1.get? it = some o -> h2.get? it = some o) -> J x h2)
  (hQ : ∀ x h', IsEnumOut h' e it ((i : Int) + 1) x s.heap.objs.size -> J x h' -> h'.get? s.heap.objs.size = some { cls := .type "tuple", data := .seq #[.int i s.toks, x] } ->
   (∀ b o, b ≠ e -> b ≠ it -> s.heap.get? b = some o -> h'.get? b = some o) -> Q (.ref s.heap.objs.size) { s with heap := h', toks := s.toks + 1 }) :
  wpAny (model prog w) A (Builtin.«enumerate.__next__» ⟨[.ref e], []⟩) (fun fin s' => ∃ v, fin = .done (.ret v) /\ Q v s') E s := by
 have lt : e < s.heap.objs.size := Heap.lt_size he
 obtain ⟨h0, gs, dr, tk, ops⟩ := s
 show wpAny _ _ (field (.ref e) 2 >>= fun z => Builtin.SmallTypes.nextOf z >>= _) _ _ _
 refine wpAny_bind (wpAny_field he rfl (x := .ref it) rfl (wpAny_bind (nx _ _ _ fun x h1 j1 s1 => ?_)))
 have k1 : Heap.SameBut it h0 h1 := s1
 have e1 : IsEnum h1 e it i old := (k1.2 e hne).trans he
 refine wpAny_bind (wpAny_field (s := ⟨h1, gs, dr, tk, ops⟩) e1 rfl (x := rawInt i) rfl ?_)
 refine wpAny_bind (m := field (.ref e) 4) (wpAny_field (s := ⟨h1, gs, dr, tk, ops⟩) e1 rfl (x := .none) rfl ?_)
 show wpAny _ _ (mkInt i >>= _) _ _ ⟨h1, gs, dr, tk, ops⟩
 refine wpAny_bind (wpAny_mkInt ?_)
 show wpAny _ _ (setField (.ref e) 3 (rawInt ((i : Int) + 1)) >>= fun _ => setField (.ref e) 4 .none >>= _) _ _ ⟨h1, gs, dr, tk + 1, ops⟩
 refine wpAny_bind (wpAny_setField_rec e1 (by simp) fun h2 e2 s2 => wpAny_bind (wpAny_setField_rec (s := ⟨h2, gs, dr, tk + 1, ops⟩) (show IsEnum h2 e it ((i : Int) + 1) old from e2) (by simp) fun h3 e3 s3 => ?_))
 have k2 : Heap.SameBut e h1 h2 := s2
 have k3 : Heap.SameBut e h2 h3 := s3
 have e3 : IsEnum h3 e it ((i : Int) + 1) old := e3
 show wpAny _ _ (newTuple [.int i tk, x] >>= _) _ _ ⟨h3, gs, dr, tk + 1, ops⟩
 refine wpAny_bind (wpAny_newTuple ?_)
 have size : h3.objs.size = h0.objs.size := by rw [k3.1, k2.1, k1.1]
 have up : ∃ h4 : Heap, h4 = h3.push { cls := .type "tuple", data := .seq #[.int i tk, x] } := ⟨_, rfl⟩
 obtain ⟨h4, eh4⟩ := up
 rw [<- eh4]
 have e4 : IsEnum h4 e it ((i : Int) + 1) old := by rw [eh4]; exact Heap.get?_push_of_some _ e3
 have t4 : h4.get? h0.objs.size = some { cls := .type "tuple", data := .seq #[.int i tk, x] } := by rw [eh4, <- size]; exact Heap.get?_push_size _ rfl
 have j4 : J x h4 := hJ x h1 h4 j1 fun o q => by rw [eh4]; exact Heap.get?_push_of_some _ (k3.extBut it o (Ne.symm hne) (k2.extBut it o (Ne.symm hne) q))
 have all4 : ∀ b o, b ≠ e -> b ≠ it -> h0.get? b = some o -> h4.get? b = some o := fun b o b1 b2 q => by
  rw [eh4]
  exact Heap.get?_push_of_some _ (k3.extBut b o b1 (k2.extBut b o b1 (k1.extBut b o b2 q)))
 show wpAny _ _ (Builtin.SmallTypes.ownedTupleIsFree (.ref e) >>= _) _ _ ⟨h4, gs, dr, tk + 1, ops⟩
 rw [size]
 refine wpAny_bind ?_
 unfold Builtin.SmallTypes.ownedTupleIsFree
 refine wpAny_bind (wpAny_field e4 rfl (x := .none) rfl (wpAny_pure ?_))
 simp only [if_true]
 refine wpAny_bind (wpAny_rule (wpAny_bind (wpAny_field e4 rfl (x := old) rfl (wpAny_bind (wpAny_setField_rec e4 (by simp) fun h5 e5 s5 => ?_)))))
 have e5 : IsEnum h5 e it ((i : Int) + 1) x := e5
 have k5 : Heap.SameBut e h4 h5 := s5
 show wpAny _ _ (Builtin.SmallTypes.ownedTupleHandOut (.ref e) (.ref h0.objs.size) >>= _) _ _ ⟨h5, gs, dr, tk + 1, ops⟩
 refine wpAny_bind ?_
 unfold Builtin.SmallTypes.ownedTupleHandOut
 refine wpAny_bind (wpAny_setField_rec e5 (by simp) fun h6 e6 s6 => wpAny_setField_rec (s := ⟨h6, gs, dr, tk + 1, ops⟩) (show IsEnumOut h6 e it ((i : Int) + 1) x h0.objs.size from e6) (by simp) fun h7 e7 s7 => ?_)
 have k6 : Heap.SameBut e h5 h6 := s6
 have k7 : Heap.SameBut e h6 h7 := s7
 have on : ∀ b o, b ≠ e -> h4.get? b = some o -> h7.get? b = some o := fun b o n q => k7.extBut b o n (k6.extBut b o n (k5.extBut b o n q))
 exact wpAny_bind (wpAny_letGo (wpAny_pure ⟨_, rfl, hQ x h7 e7 (hJ x h4 h7 j4 fun o q => on it o (Ne.symm hne) q) (on _ _ (Nat.ne_of_gt lt) t4) fun b o b1 b2 q => on b o b1 (all4 b o b1 b2 q)⟩))
theorem Hz {e : Addr} {old : Value} {J : Value -> Heap -> Prop} {Q : Option Value -> Shared -> Prop} (he : IsEnum s.heap e it i old) (hne : e ≠ it)
  (nx : ∀ (A : Around) (P : Value -> Shared -> Prop) (E : Value -> Shared -> Prop), (∀ x h1, J x h1 -> Heap.SameBut it s.heap h1 -> P x { s with heap := h1 }) -> wpAny (model prog w) A (Builtin.SmallTypes.nextOf (.ref it)) P E s)
  (hJ : ∀ x h1 h2, J x h1 -> (∀ o, h1.get? it = some o -> h2.get? it = some o) -> J x h2)
  (hQ : ∀ x h', IsEnumOut h' e it ((i : Int) + 1) x s.heap.objs.size -> J x h' -> h'.get? s.heap.objs.size = some { cls := .type "tuple", data := .seq #[.int i s.toks, x] } ->
   (∀ b o, b ≠ e -> b ≠ it -> s.heap.get? b = some o -> h'.get? b = some o) -> Q (some (.ref s.heap.objs.size)) { s with heap := h', toks := s.toks + 1 }) : wpAny (model prog w) A (pyNext (.ref e)) Q E s := by
 have ty : s.TypeIs (.ref e) "enumerate" := ⟨_, he, rfl⟩
 unfold pyNext
 exact wpAny_bind (wpAny_attempt (wpAny_callSpecial?_slot (name := Str.ofString "__next__") ty F.slot_enumerate_next (wpAny_call_entry F.slot_enumerate_next ty F.entry_enumerate_next (Q9 he hne nx hJ fun x h' a b c d => wpAny_pure (hQ x h' a b c d)) (F.args_enumerate_next_1 _))))
theorem Fy {e : Addr} {old : Value} {Q : Option Value -> Shared -> Prop} (hh : A.handled = none) (he : IsEnum s.heap e it i old) (hit : s.heap.IsKeyIter it d i kvs.length ep) (hm : s.heap.DictAt knd d kvs ep) (hx : kvs[i]? = none)
  (hQ : ∀ h', Heap.ExtBut it s.heap h' -> Q none { s with heap := h' }) : wpAny (model prog w) A (pyNext (.ref e)) Q E s := by
 have ty : s.TypeIs (.ref e) "enumerate" := ⟨_, he, rfl⟩
 unfold pyNext
 refine wpAny_bind (wpAny_attempt (wpAny_callSpecial?_slot (name := Str.ofString "__next__") ty F.slot_enumerate_next (wpAny_call_entry F.slot_enumerate_next ty F.entry_enumerate_next ?_ (F.args_enumerate_next_1 _))))
 show wpAny _ _ (field (.ref e) 2 >>= fun z => Builtin.SmallTypes.nextOf z >>= _) _ _ _
 refine wpAny_bind (wpAny_field he rfl (x := .ref it) rfl (wpAny_bind (Gp hh hit hm hx fun h' x hk ⟨o, ho, hc⟩ => ?_)))
 exact wpAny_bind (wpAny_isInstance (T := "StopIteration") (b := true) ⟨o, ho, hc⟩ isSubtype_stop (wpAny_pure (hQ _ hk)))
theorem Nr {Q : Value -> Shared -> Prop} (hd : (d == sysModules) = false) (hm : s.heap.DictAt knd d kvs ep)
  (h : ∀ h', IsEnum h' (s.heap.objs.size + 1) s.heap.objs.size 0 .none -> h'.IsKeyIter s.heap.objs.size d 0 kvs.length ep -> (∀ b o, s.heap.get? b = some o -> h'.get? b = some o) -> Q (.ref (s.heap.objs.size + 1)) { s with heap := h' }) :
  wpAny (model prog w) A (call (.type "enumerate") [.ref d]) Q E s := by
 have g : MeetsIn prog w (Builtin.«enumerate.__new__» ⟨[.type "enumerate", .ref d], []⟩) (fun _ R s => s.heap.DictAt knd d kvs ep /\
   R (.ok (.ret (.ref (s.heap.objs.size + 1)))) { s with heap := (s.heap.push { cls := .type "dict_keyiterator", data := .fields #[.ref d, .int 0 0, .int kvs.length 0, .int ep 0] }).push { cls := .type "enumerate", data := .fields #[.none, .bool false, .ref s.heap.objs.size, rawInt 0, .none, .none] } }) := by
  refine .of_wp fun A R s h => ?_
  obtain ⟨hp, g, d', tk, os⟩ := s
  obtain ⟨hm, h⟩ := h
  have hsub := sub_enumerate
  obtain ⟨o, es, ho, hcl, hdat, q⟩ := id hm
  have hz : (hp.push { cls := .type "dict_keyiterator", data := .fields #[.ref d, .int 0 0, .int kvs.length 0, .int ep 0] }).objs.size = hp.objs.size + 1 := Heap.size_push ..
  wp_walk using wpAny_pyIter_dict hd hm
  refine wpAny_stack_any fun st => wpAny_pure ?_
  have h2 : R (.ok (.ret (.ref (hp.push { cls := .type "dict_keyiterator", data := .fields #[.ref d, .int 0 0, .int kvs.length 0, .int ep 0] }).objs.size))) ⟨(hp.push { cls := .type "dict_keyiterator", data := .fields #[.ref d, .int 0 0, .int kvs.length 0, .int ep 0] }).push { cls := .type "enumerate", data := .fields #[.none, .bool false, .ref hp.objs.size, rawInt 0, .none, .none] }, g, d', tk, os⟩ := by rw [hz]; exact h
  split
  ·rename_i c _ _ _ _ _
   cases (c == Value.type "enumerate")
   ·wp_walk using wpAny_pyIter_dict hd hm
    exact ⟨_, rfl, h2⟩
   ·wp_walk using wpAny_pyIter_dict hd hm
    exact ⟨_, rfl, h2⟩
  ·wp_walk using wpAny_pyIter_dict hd hm
   exact ⟨_, rfl, h2⟩
 refine callType_newIn F.called_enumerate (by decide) (F.typeCall_enumerate_1 _) (F.newCall_enumerate_1 _) (fun obj => F.args_object_init_2 obj _) F.entry_enumerate_new g ⟨hm, ?_⟩
 have hz : (s.heap.push { cls := .type "dict_keyiterator", data := .fields #[.ref d, .int 0 0, .int kvs.length 0, .int ep 0] }).objs.size = s.heap.objs.size + 1 := Heap.size_push ..
 have he : IsEnum ((s.heap.push { cls := .type "dict_keyiterator", data := .fields #[.ref d, .int 0 0, .int kvs.length 0, .int ep 0] }).push { cls := .type "enumerate", data := .fields #[.none, .bool false, .ref s.heap.objs.size, rawInt 0, .none, .none] }) (s.heap.objs.size + 1) s.heap.objs.size 0 .none := hz ▸ Heap.get?_push_size _ rfl
 exact ⟨⟨_, he, rfl⟩, h _ he ⟨_, Heap.get?_push_of_some _ (Heap.get?_push_size _ rfl), rfl, rfl⟩ fun b o x => Heap.get?_push_of_some _ (Heap.get?_push_of_some _ x)⟩
end
end PySem
namespace L2
open PySem PySem.Spec PyProof.Rows
def Itde (p : Addr) (o : Obj) (kvs : List (Key × V)) : It :=
  ⟨fun i H => H p = some (.frz o (.dK kvs)) /\ i < kvs.length,
   fun i H x H' => ∃ T k v, H T = none /\ x = .ref T /\ kvs[i]? = some (k, v) /\ H' = upd H T (.tup [.int i, kV k]),
   fun i H => H p = some (.frz o (.dK kvs)) /\ kvs.length <= i⟩
theorem O9 {P : Program} {w : World} {K : PySem.W.Frag} {elts : List Expr} {kt : Nat} {pt : Pos} {e it p : Addr} {o : Obj} {kvs : List (Key × V)} {ep : Nat} (ne : e ≠ it) (he : EpOf o ep) :
  Turn P w K (.Tuple elts kt pt) (Itde p o kvs) [e, it] e (fun i h => (∃ old, IsEnum h e it (i : Int) old) /\ h.IsKeyIter it p i kvs.length ep) where
 mem := by simp
 obj := fun i h st b hb => by
  obtain ⟨⟨old, he⟩, ⟨o1, e1, c1, d1⟩⟩ := st
  rcases List.mem_cons.mp hb with rfl | hb
  ·exact ⟨_, he, fun v q => nomatch q⟩
  ·rw [List.mem_singleton.mp hb]; exact ⟨o1, e1, fun v q => by rw [d1] at q; cases q⟩
 keep := fun i h h' st k => let ⟨⟨old, he⟩, h1⟩ := st; ⟨⟨old, k e (by simp) _ he⟩, h1.at fun o q => k it (by simp) o q⟩
 item := by
  intro X hP hw hK hc i pins s σ H E I hf st hg
  subst hP hw hK
  obtain ⟨hH, hi⟩ := hg
  obtain ⟨vs, rel, hd, hm⟩ := I.kdict hH he
  obtain ⟨⟨k, v⟩, hx⟩ : ∃ q, kvs[i]? = some q := ⟨kvs[i], by simp [hi]⟩
  obtain ⟨u, hu, _⟩ := Ui rel hx
  have hl : kvs.length = vs.length := rel.length
  obtain ⟨⟨old, en⟩, h1⟩ := st
  rw [hl] at h1
  refine Hz en ne (J := fun x h => (Ay X.prog X.w).is k x = true /\ h.IsKeyIter it p (i + 1) vs.length ep) (fun A P E hQ => Ft h1 hd hu fun key h' a b c => hQ key h' ⟨a, b⟩ c) (fun x h1 h2 j k => ⟨j.1, j.2.at k⟩) fun key h' a1 ⟨hk, a2⟩ a3 hk' => ?_
  refine ⟨_, rfl, wpAny_letOwnedTupleGo_enum a1 fun h'' hz' hs' => ?_⟩
  have hT := I.hok.fresh (Nat.le_refl s.heap.objs.size)
  have nT : ∀ {b ob}, s.heap.get? b = some ob -> b ≠ s.heap.objs.size := fun q => Nat.ne_of_lt (Heap.lt_size q)
  have up : ∀ b ob, b ∉ [e, it] -> s.heap.get? b = some ob -> h''.get? b = some ob := fun b ob hb q => by
   have b1 : b ≠ e := by rintro rfl; exact hb (by simp)
   have b2 : b ≠ it := by rintro rfl; exact hb (by simp)
   exact hs'.extBut b ob b1 (hk' b ob b1 b2 q)
  have Tnew : h''.get? s.heap.objs.size = some { cls := .type "tuple", data := .seq #[.int i s.toks, key] } := hs'.extBut _ _ (Ne.symm (nT en)) a3
  have I1 : Inv X pins σ (upd H s.heap.objs.size (.tup [.int i, kV k])) { s with heap := h'', toks := s.toks + 1 } :=
   I.turnedN (t' := s.toks + 1) (ch := [e, it]) (fun b hb => hf b hb) up (Nat.le_refl _) ⟨by show 2 <= sizeLine; decide, [.int i s.toks, key], .cons ⟨_, rfl⟩ (.cons (Zj hk) .nil), ⟨_, Tnew, rfl, _, rfl⟩⟩
  refine ⟨.ref s.heap.objs.size, _, I1, rfl, ⟨s.heap.objs.size, k, v, hT, rfl, hx, rfl⟩, ⟨⟨_, hz'⟩, by rw [hl]; exact a2.at fun o q => hs'.extBut _ o (Ne.symm ne) q⟩, fun b hb => ?_⟩
  have q := (hf b hb).1
  rw [Af ?_]
  ·exact q
  ·rcases List.mem_cons.mp hb with rfl | hb
   ·exact nT en
   ·rw [List.mem_singleton.mp hb]; obtain ⟨_, q, _⟩ := h1; exact nT q
 done := by
  intro X hP hw hK hc i pins s σ H E I hf st hg
  subst hP hw hK
  obtain ⟨hH, hi⟩ := hg
  obtain ⟨vs, rel, hd, hm⟩ := I.kdict hH he
  have hl : kvs.length = vs.length := rel.length
  obtain ⟨⟨old, en⟩, h1⟩ := st
  rw [hl] at h1
  refine Fy (I.ok.hd hc) en h1 hd (by simp; omega) fun h' hk => ⟨rfl, ?_⟩
  refine I.turnedL (t' := s.toks) (ch := [e, it]) (fun b hb => hf b hb) fun b o hb q => hk b o (by rintro rfl; exact hb (by simp)) q
 self := fun A i s Q E st h => let ⟨_, he⟩ := st.1; wpAny_pyIter_enum he h
theorem Tt {X : Cx} {elts : List Expr} {kt : Nat} {pt : Pos} {pins : List (Addr × Obj)} {σ : St} {H : Hp} {s : Shared} {R : It -> Hp -> Prop} {E : Value -> Shared -> Prop} {p : Addr} {o : Obj} {kvs : List (Key × V)} (I : Inv X pins σ H s) (h : H p = some (.frz o (.dK kvs)))
  (q : R (Itde p o kvs) H) : wpAny (model X.prog X.w) X.A (call (.type "enumerate") [.ref p]) (fun v s1 => wpAny (model X.prog X.w) X.A (pyIter v) (PIE X pins σ (.Tuple elts kt pt) R) E s1) E s := by
 have he : ∃ ep, EpOf o ep := by
  obtain ⟨e1, z, y, vs, r, ob, es, ep, e, c, d, _⟩ := I.hok p _ h
  rw [e1] at e; cases e
  exact ⟨ep, es, d⟩
 obtain ⟨ep, he⟩ := he
 obtain ⟨vs, rel, hd, hm⟩ := I.kdict h he
 refine Nr hm hd fun h' en hit hk => wpAny_pyIter_enum en ?_
 refine ⟨_, _, _, _, H, rfl, I.kept (t' := s.toks) hk, O9 (Nat.succ_ne_self _) he, ⟨⟨_, en⟩, by rw [rel.length]; exact hit⟩, fun b hb => ?_, q⟩
 have hb : b = s.heap.objs.size + 1 \/ b = s.heap.objs.size := by simpa using hb
 have le : s.heap.objs.size <= b := hb.elim (fun e => e ▸ Nat.le_add_right _ 1) fun e => e ▸ Nat.le_refl _
 exact I.fpOk le (I.hok.fresh le)
end L2
namespace PySem
open PyProof.Rows
section
variable {κ : Type} [DecidableEq κ]
def metK (xs : List κ) : List κ := xs.foldl (fun σ k => if σ.any (fun j => decide (j = k)) then σ else σ ++ [k]) []
theorem Kd (xs : List κ) (k : κ) : metK (xs ++ [k]) = if (metK xs).any (fun j => decide (j = k)) then metK xs else metK xs ++ [k] := by
 unfold metK
 rw [List.foldl_append]
 rfl
theorem Uo (xs : List κ) (k j : κ) : (metK (xs ++ [k])).any (fun i => decide (i = j)) = ((metK xs).any (fun i => decide (i = j)) || decide (j = k)) := by
 rw [Kd]
 by_cases h : (metK xs).any (fun i => decide (i = k)) = true
 ·rw [if_pos h]
  by_cases e : j = k
  ·subst e; rw [h]; rfl
  ·simp [e]
 ·rw [if_neg h, List.any_append]
  congr 1
  simp [eq_comm]
theorem Ms (xs : List κ) : (metK xs).length <= xs.length := by
 have : ∀ (ys acc : List κ), (ys.foldl (fun σ k => if σ.any (fun j => decide (j = k)) then σ else σ ++ [k]) acc).length <= acc.length + ys.length := by
  intro ys
  induction ys with
  | nil => intro acc; exact Nat.le_refl _
  | cons y ys ih =>
   intro acc
   refine Nat.le_trans (ih _) ?_
   rw [List.length_cons]
   dsimp only
   split
   ·omega
   ·rw [List.length_append, List.length_singleton]; omega
 exact Nat.le_trans (this xs []) (by simp)
end
section
variable {prog : Program} {w : World} {A : Around} {R : Result -> Shared -> Prop} {I : Addr} {fp wr : List Addr} {G : Array GenState -> Array GenState -> Prop} {P : Nat -> Value -> Prop} {St : Nat -> Shared -> Prop} {κ : Type} [DecidableEq κ] {knd : KeyKind prog w κ} {ks : List κ}
abbrev Dx (knd : KeyKind prog w κ) (h : Heap) (S : Addr) (ks : List κ) : Prop := h.SetOf knd S (fun k => (metK ks).any (fun j => decide (j = k))) (metK ks).length
theorem Jw {h h' : Heap} {S : Addr} (x : Dx knd h S ks) (k : ∀ o, h.get? S = some o -> h'.get? S = some o) : Dx knd h' S ks :=
 let ⟨o, es, ep, t, ho, r⟩ := x; ⟨o, es, ep, t, k o ho, r⟩
theorem Nc (W : WalksS prog w A.in1 I fp wr G ks.length P St) (S : Addr) (out : S ∉ fp) (hv : ∀ i v, P i v -> ∃ k, ks[i]? = some k /\ knd.is k v = true /\ v.scannable = true) (few : ks.length + 1 < scanBound) (left : Nat) :
  ∀ (i : Nat) (s : Shared), i + left = ks.length -> St i s -> Dx knd s.heap S (ks.take i) -> (∀ s', Moved (S :: wr) G s s' -> Dx knd s'.heap S ks -> R (.ok (.ret .none)) s') ->
   codeAny (model prog w) A (.builtin "set.update.loop" ⟨[.ref S, .ref I], []⟩) R s := by
 have outw : S ∉ wr := fun z => out (W.sub _ z)
 have into : ∀ b ∈ wr, b ∈ S :: wr := fun b z => .tail _ z
 induction left with
 | zero =>
  intro i s hi st fl hR
  have ei : i = ks.length := hi
  subst ei
  rw [List.take_length] at fl
  refine codeAny_builtin F.entry_set_update_loop (Around.under_plainId F.plain_set_update_loop _ ▸ ?_)
  show wpAny _ A.in1 (pyNext (.ref I) >>= _) _ _ s
  exact wpAny_bind (W.done s _ _ st fun s' mv => wpAny_pure (hR s' (mv.mono into) (Jw fl fun o e => mv.heap S o outw e)))
 | succ left ih =>
  intro i s hi st fl hR
  have lt : i < ks.length := by omega
  refine codeAny_builtin F.entry_set_update_loop (Around.under_plainId F.plain_set_update_loop _ ▸ ?_)
  show wpAny _ A.in1 (pyNext (.ref I) >>= _) _ _ s
  refine wpAny_bind (W.item i s _ _ lt st fun v s1 pv st1 mv => ?_)
  obtain ⟨k, ek, ik, sk⟩ := hv i v pv
  have fl1 : Dx knd s1.heap S (ks.take i) := Jw fl fun o e => mv.heap S o outw e
  have tk : ks.take (i + 1) = ks.take i ++ [k] := by rw [List.take_succ, ek]; rfl
  show wpAny _ A.in1 (holding [v] (setAdd S v) >>= _) _ _ s1
  refine wpAny_bind (wpAny_holding ?_)
  unfold setAdd
  refine wpAny_holding (wpAny_bind (knd.pyHash (k := k) ik ?_))
  have room : (metK (ks.take i)).length + 1 < scanBound := by
   have := Ms (ks.take i)
   rw [List.length_take] at this
   omega
  refine wpAny_setAddHashed_of (knd := knd) (s := { s1 with toks := s1.toks + 1 }) ik sk fl1 room fun h' sb fl2 => ?_
  have fl3 : Dx knd h' S (ks.take (i + 1)) := by
   have eS : (fun j => (metK (ks.take i)).any (fun m => decide (m = j)) || decide (j = k)) = fun j => (metK (ks.take i ++ [k])).any (fun m => decide (m = j)) := funext fun j => (Uo (ks.take i) k j).symm
   have en : (if (metK (ks.take i)).any (fun m => decide (m = k)) = true then (metK (ks.take i)).length else (metK (ks.take i)).length + 1) = (metK (ks.take i ++ [k])).length := by
    rw [Kd]; split <;> simp
   rw [tk]
   show h'.SetOf knd S _ _
   rw [<- eS, <- en]
   exact fl2
  refine wpAny_pure ⟨plainId_quiet F.plain_set_update_loop _, ih (i + 1) _ (by omega) (W.frame _ s1 _ _ st1 (Nat.le_succ _) fun b hb o e => ?_) fl3 fun s2 mv2 fl4 => ?_⟩
  ·exact (sb.2 b fun z => out (z ▸ hb)).trans e
  ·exact hR s2 (Moved.trans W.gtrans ((mv.mono into).then_heap (Nat.le_succ _) fun b o hb e => (sb.2 b fun z => hb (z ▸ List.mem_cons_self)).trans e) mv2) fl4
end
section
variable {prog : Program} {w : World} {A : Around} {E : Value -> Shared -> Prop} {s : Shared} {κ : Type} [DecidableEq κ] {knd : KeyKind prog w κ} {ks : List κ}
abbrev Ca (led : Bool) : Obj := { cls := .type "set", dict := none, data := .set #[] 0 (.fresh 0 0 led) }
theorem Nd {l : Addr} {items : Array Value} {Q : Value -> Shared -> Prop} (hh : A.handled = none) (hl : s.heap.IsList l items) (hv : ∀ (i : Nat) (v : Value), items[i]? = some v -> ∃ k, ks[i]? = some k /\ knd.is k v = true /\ v.scannable = true) (hs : items.size = ks.length) (few : ks.length + 1 < scanBound)
  (h : ∀ (h' : Heap) (tk : Nat), Dx knd h' s.heap.objs.size ks -> (∀ b o, b < s.heap.objs.size -> s.heap.get? b = some o -> h'.get? b = some o) -> Q (.ref s.heap.objs.size) { s with heap := h', toks := tk }) :
  wpAny (model prog w) A (call (.type "set") [.ref l]) Q E s := by
 obtain ⟨c, tl, hmro⟩ := F.called_set.mro
 have m1 := F.called_set.made
 have m2 := F.called_set.sub
 have m3 := F.called_set.notType
 have m4 := F.called_set.canCreate
 have m5 := F.typeCall_set_1 (.ref l)
 refine wpAny_call (codeAny_of_tree (show wpAny _ _ (callAny (.type "set") _) _ _ _ from wpAny_pure ⟨Code.quiet_builtin _ (by decide +kernel), codeAny_builtin F.entry_type_call ?_⟩))
 rw [Around.under_plain (weight_type_call_type "set" [.ref l] []) rfl]
 repeat (any_goals (first | assumption | wp_step))
 refine codeAny_mono (code_set_new_1 (.ref l) (E := E) (Q₁ := fun obj s₁ => ∃ led : Bool, obj = .ref s.heap.objs.size /\ s₁ = { s with heap := s.heap.push (Ca led) }) fun led => ⟨led, rfl, rfl⟩) fun r s₁ hr => ?_
 cases r with
 | error e => exact hr
 | ok fl =>
  cases fl with
  | ret obj =>
   obtain ⟨led, rfl, rfl⟩ := hr
   have new : (s.heap.push (Ca led)).get? s.heap.objs.size = some (Ca led) := Heap.get?_push_size _ rfl
   have ty : Shared.TypeIs { s with heap := s.heap.push (Ca led) } (.ref s.heap.objs.size) "set" := ⟨_, new, rfl⟩
   have m6 := F.called_set.init.lookup
   have m7 := F.called_set.init.bind (.ref s.heap.objs.size)
   repeat (any_goals (first | assumption | wp_step))
   refine codeAny_mono (codeAny_call_builtin (R := wants (fun r s₂ => r = .none /\ ∃ h' tk, s₂ = { s with heap := h', toks := tk } /\ Dx knd h' s.heap.objs.size ks /\ (∀ b o, b < s.heap.objs.size -> s.heap.get? b = some o -> h'.get? b = some o)) E) F.called_set.init.plain F.entry_set_init (check_set_init_1 ty ?_)) fun r2 s2 hr2 => ?_
   ·obtain ⟨⟨oc, odict, od, osl⟩, ol, hc, n, hd⟩ := hl
    simp only at hc hd
    subst hc; subst hd
    have lt : l < s.heap.objs.size := Heap.lt_size ol
    have ol2 : (s.heap.push (Ca led)).get? l = some { cls := .type "list", dict := odict, data := .seq items n, slots := osl } := Heap.get?_push_of_some _ ol
    have m8 := F.sub_list_set
    have m9 := F.sub_list_frozenset
    have m10 : (Value.type "list" == Value.type "dict") = false := by decide
    have isl : (s.heap.push (Ca led)).IsList l items := ⟨_, ol2, rfl, n, rfl⟩
    have size : (s.heap.push (Ca led)).objs.size = s.heap.objs.size + 1 := Heap.size_push ..
    unfold Builtin.«set.__init__» noKeywords Builtin.Frozenset.updateFrom
    generalize hPI : pyIter = PI
    wp_walk
    subst hPI
    refine wpAny_pyIter_list isl (wpAny_bind (wpAny_runValue ?_))
    have quiet : A.in1.in1.in1.handled = none := by simp [hh]
    have ne1 : l ≠ (s.heap.push (Ca led)).objs.size := size ▸ Nat.ne_of_lt (Nat.lt_succ_of_lt lt)
    have out : s.heap.objs.size ∉ [(s.heap.push (Ca led)).objs.size, l] := by
     simp only [size, List.mem_cons, List.not_mem_nil, or_false, not_or]
     exact ⟨Nat.ne_of_lt (Nat.lt_succ_self _), Nat.ne_of_gt lt⟩
    have W := (Walks.list (prog := prog) (w := w) quiet (s.heap.push (Ca led)).objs.size l ne1 items).toS
    rw [hs] at W
    refine Nc (ks := ks) W s.heap.objs.size out hv few ks.length 0 _ (Nat.zero_add _) ⟨⟨_, Heap.get?_push_size _ rfl, rfl, rfl⟩, isl.push _⟩ ?_ fun s' mv fl => ?_
    ·exact (setObjOf_fresh (knd := knd) led).setOf (Heap.get?_push_of_some _ new) (by unfold scanBound; omega)
    ·obtain ⟨h', g', d', tk', os'⟩ := s'
     have e1 : g' = s.gens := mv.gens
     have e2 : d' = s.drawn := mv.drawn
     have e3 : os' = s.os := mv.os
     subst e1; subst e2; subst e3
     refine (show wpAny _ _ _ _ _ _ from wpAny_pure (show wpAny _ _ (ret Value.none) _ _ _ from wpAny_pure ⟨rfl, h', tk', rfl, fl, fun b o hb e => ?_⟩))
     refine mv.heap b o ?_ (Heap.get?_push_of_some _ (Heap.get?_push_of_some _ e))
     simp only [size, List.mem_cons, List.not_mem_nil, or_false, not_or]
     exact ⟨Nat.ne_of_lt hb, Nat.ne_of_lt (Nat.lt_succ_of_lt hb)⟩
   ·cases r2 with
    | error e => exact hr2
    | ok f2 =>
     cases f2 with
     | ret r =>
      obtain ⟨rfl, h', tk, rfl, fl, kept⟩ := hr2
      repeat (any_goals (first | assumption | wp_step))
      exact h _ _ fl kept
     | _ => exact hr2.elim
  | _ => exact hr.elim
end
end PySem
namespace L2
open PySem PySem.Spec PyProof.Rows
section
variable {X : Cx} {e : Expr} {de : DE} {p p2 pos pos2 : Pos}
def G0 (K : PySem.W.Frag) : V -> Hp -> VK -> Prop := fun x H Q => match x with
 | .ref l => ∃ ys : List Str, SqL K H l (ys.map V.str) /\ ys.length < 30 /\ Q (.int (metK ys).length) H
 | _ => False
theorem Qo : ∀ {ys : List Str} {us : List Value} {i : Nat} {v : Value}, Vals (ys.map V.str) us -> us[i]? = some v -> ∃ k t, ys[i]? = some k /\ v = .str k t
 | [], _, i, v, r, e => by rw [List.map_nil] at r; cases r; simp at e
 | y :: ys, _, i, v, r, e => by
  rw [List.map_cons] at r
  cases r with
  | cons r1 r2 =>
   obtain ⟨t, rfl⟩ := r1
   cases i with
   | zero => simp only [List.getElem?_cons_zero, Option.some.injEq] at e; exact ⟨y, t, rfl, e.symm⟩
   | succ i => simp only [List.getElem?_cons_succ] at e ⊢; exact Qo r2 e
theorem Xi {pins : List (Addr × Obj)} {σ : St} {H : Hp} {s : Shared} {x : V} {u : Value} {Q : VK} (hc : X.calm = true) (I : Inv X pins σ H s) (rx : RelV x u) (h : G0 X.K x H Q) :
  wpAny (model X.prog X.w) X.A (call (.type "set") [u]) (fun v s1 => wpAny (model X.prog X.w) X.A (call (.builtin "len") [v]) (EP X pins σ Q) X.xe s1) X.xe s := by
 cases x with
 | ref l =>
  cases rx
  obtain ⟨ys, hq, few, q⟩ := h
  obtain ⟨its, rv, pl, hz⟩ := I.list hq
  have hl : its.length = ys.length := by rw [<- rv.length, List.length_map]
  refine Nd (knd := PySem.strKind X.prog X.w) (ks := ys) (I.ok.hd hc) pl.isList (fun i v e => ?_) (by simpa using hl) (by unfold scanBound; omega) fun h' tk fl kept => ?_
  ·obtain ⟨k, t, ek, rfl⟩ := Qo rv (by simpa using e)
   exact ⟨k, ek, by show Value.isStrOf k (.str k t) = true; simp [Value.isStrOf], rfl⟩
  ·have I1 : Inv X pins σ H { s with heap := h', toks := tk } := I.kept (t' := tk) fun b o e => kept b o (Heap.lt_size e) e
   obtain ⟨o, es, ep, t, ho, hex, hd, hel, hmem, hb, hf, hn⟩ := fl
   refine call_len_set ho hex hd hf ?_ ?_
   ·have := Ms ys
    rw [hn]; omega
   ·rw [hn]
    exact ⟨.int _, H, I1.tok _, ⟨_, rfl⟩, q⟩
 | _ => exact (show False from h).elim
end
end L2
namespace PySem
open PyProof.Rows
section
variable {prog : Program} {w : World} {A : Around} {E : Value -> Shared -> Prop} {s : Shared} {κ : Type} [DecidableEq κ] {knd : KeyKind prog w κ} {d it : Addr} {ep i : Nat} {kvs : List (κ × Value)}
end
end PySem
namespace L2
open PySem PySem.Spec PyProof.Rows
section
variable {X : Cx} {pins : List (Addr × Obj)} {σ : St} {A : Around} {E : Value -> Shared -> Prop} {R : Result -> Shared -> Prop} {p it S : Addr} {ep : Nat} {kvs : List (Key × V)} {vs : List (Key × Value)} {res : Value}
end
section
variable {X : Cx} {pins : List (Addr × Obj)} {σ : St} {A : Around} {E : Value -> Shared -> Prop}
end
section
variable {X : Cx}
def Zp (K : PySem.W.Frag) : R2 := fun x y H Q => ∃ a b ys, x = .ref a /\ y = .ref b /\ SqT K H a [] /\ SqT K H b ys /\ Q (.ref b) H
theorem Xp : OpR X (binaryOp .Add) (Zp X.K) := by
 intro pins s σ H x y v u Q I rx ry h
 obtain ⟨a, b, ys, rfl, rfl, ha, hb, q⟩ := h
 cases rx
 cases ry
 obtain ⟨its, r1, p1, _⟩ := I.tuple ha
 obtain ⟨its2, r2, p2, _⟩ := I.tuple hb
 cases r1
 obtain ⟨⟨c1, d1, da1, s1⟩, ho, hc, n, hd⟩ := id p1
 obtain ⟨⟨c2, d2, da2, s2⟩, ho2, hc2, n2, hd2⟩ := id p2
 simp only at hc hd hc2 hd2
 subst hc hd hc2 hd2
 exact concat_meets ⟨_, ho, rfl⟩ ⟨_, ho2, rfl⟩ noFill_tuple_add seq_tuple_add PySem.F.slot_tuple_add PySem.F.entry_tuple_add (PySem.F.args_tuple_add_2 _ _)
   (tuple_addW0 a b _ _ n n2 d1 d2 s1 s2 rfl) ⟨ho, ho2, ⟨.ref b, H, I, rfl, q⟩⟩
theorem Pz (hu : X.A.units + 64 < cLine) : IxR X (fun x y H Q => ∃ a v, x = .ref a /\ DGet H a y (some v) /\ Q v H) := by
 intro value slice pins s σ H x y v u Q I rx ry h hs
 obtain ⟨a, w', rfl, g, q⟩ := h
 cases rx
 exact tail_any (Mj I g) PySem.F.slot_dict_getitem.lookup (Q6 (by omega) I g ry fun w1 s' I' r' => ⟨w', H, I', r', q⟩) hs
theorem Ee : ∀ l : List (Str × Tok), Vals ((l.map (·.1)).map V.str) (strValues l)
 | [] => .nil
 | p :: r => .cons ⟨p.2, rfl⟩ (Ee r)
def Cs : V -> List V -> Hp -> VK -> Prop := fun x xs H Q => ∃ z y, x = .str z /\ xs = [.str y] /\ (y.length == 0) = false /\ z.length <= 100000 /\ ∀ D, H D = none -> Q (.ref D) (upd H D (.lst ((Txt.split z y).map V.str)))
theorem Uu : MtR X "str.split" Cs := by
 intro pins s σ H x xs v us Q I rx rs h
 obtain ⟨z, y, rfl, rfl, hy, hz, q⟩ := h
 obtain ⟨t, rfl⟩ := rx
 obtain ⟨u, rfl, ru⟩ := rs.one
 obtain ⟨t', rfl⟩ := ru
 have big : 100002 <= sizeLine := by decide
 have fin : ∀ (l : List (Str × Tok)) (k : Nat), l.map (·.1) = Txt.split z y -> EP X pins σ Q (.ref s.heap.objs.size) { s with toks := k, heap := s.heap.push { cls := .type "list", data := .seq (strValues l).toArray } } := fun l k e => by
  have hv := Ee l
  rw [e] at hv
  have hl : ((Txt.split z y).map V.str).length <= sizeLine := by
   rw [List.length_map]
   have := split_le z y
   omega
  exact ⟨.ref s.heap.objs.size, _, I.laid (t' := k) (a := s.heap.objs.size) (fun b o q => Heap.get?_push_of_some _ q) (Nat.le_refl _) (show ObjOk X.prog X.w _ _ _ (.lst ((Txt.split z y).map V.str)) from ⟨hl, _, 0, hv, Heap.get?_push_size _ rfl⟩), rfl, q _ (I.hok.fresh (Nat.le_refl _))⟩
 have hn : (Builtin.Str.partsBetween z (Builtin.Str.occurrences z y 0 z.length (z.length + 1)) y.length).length <= sizeLine := by
  have e1 := StrLaws.occ_length_le z y 0 z.length (z.length + 1)
  rw [length_partsBetween]; omega
 cases h1 : (decide (z.length < y.length) || decide (Builtin.Str.strKind z < Builtin.Str.strKind y))
 ·cases hf : (Builtin.Str.occurrences z y 0 z.length (z.length + 1)).isEmpty
  ·refine call_meets F.slot_str_split (typeIs_str _ _ _) F.entry_str_split (F.args_str_split_2 _ _) (meets_str_split_sep z y t t' h1 hy hf (by omega) hn) ?_
   show EP X pins σ Q _ { s with toks := _, heap := s.heap.push { cls := .type "list", data := .seq (strsFrom s.toks (Builtin.Str.partsBetween z (Builtin.Str.occurrences z y 0 z.length (z.length + 1)) y.length)).toArray } }
   rw [strsFrom_eq]
   exact fin (numbered s.toks _) _ ((numbered_texts _ _).trans ((if_neg (ne_true_of_eq_false h1)).trans (if_neg (ne_true_of_eq_false hf))).symm)
  ·exact call_meets F.slot_str_split (typeIs_str _ _ _) F.entry_str_split (F.args_str_split_2 _ _) (meets_str_split_not_found z y t t' h1 hy hf) (fin [(z, t)] _ ((if_neg (ne_true_of_eq_false h1)).trans (if_pos hf)).symm)
 ·exact call_meets F.slot_str_split (typeIs_str _ _ _) F.entry_str_split (F.args_str_split_2 _ _) (meets_str_split_cannot_occur z y t t' h1) (fin [(z, t)] _ (if_pos h1).symm)
theorem Wt {y : V} {v : Value} (r : RelV y v) (f : Bu y = true) : absV v = some y := by
 cases y with
 | non => cases r; rfl
 | bl b => cases r; rfl
 | int i => obtain ⟨t, rfl⟩ := r; rfl
 | str z => obtain ⟨t, rfl⟩ := r; rfl
 | _ => cases f
def eqF (y : V) (v : Value) : Bool := match absV v with
 | some x => eqV x y
 | none => false
theorem Y0 {ys : List V} {us : List Value} (r : Vals ys us) : ∀ {i : Nat} {u : Value}, us[i]? = some u -> ∃ y, ys[i]? = some y /\ RelV y u := by
 induction r with
 | nil => intro i u e; simp at e
 | @cons y v ys us h t ih =>
  intro i u e
  cases i with
  | zero => rw [List.getElem?_cons_zero] at e; cases e; exact ⟨y, rfl, h⟩
  | succ i => rw [List.getElem?_cons_succ] at e; exact ih e
def F0 : V -> List V -> Hp -> VK -> Prop := fun x xs H Q => ∃ p ys y, x = .ref p /\ xs = [y] /\ H p = some (.lst ys) /\ Bu y = true /\ ys.all Bu = true /\ ∃ j : Nat, j < ys.length /\ eqV (ys.getD j .non) y = true /\ (∀ m, m < j -> eqV (ys.getD m .non) y = false) /\ Q (.int j) H
theorem Ut : MtR X "list.index" F0 := by
 intro pins s σ H x xs v us Q I rx rs h
 obtain ⟨p, ys, y, rfl, rfl, hp, fy, fs, j, hj, e1, e2, q⟩ := h
 cases rx
 obtain ⟨u, rfl, ru⟩ := rs.one
 obtain ⟨hz, its, n, r, e⟩ := I.hok p _ hp
 have hl := r.length
 have at_ : ∀ (m : Nat) (hm : m < its.toArray.size), eqF y its.toArray[m] = eqV (ys.getD m .non) y /\ RelV (ys.getD m .non) its.toArray[m] /\ Bu (ys.getD m .non) = true := fun m hm => by
  have hm' : m < its.length := by simpa using hm
  obtain ⟨y', h1, h2⟩ := Y0 r (i := m) (u := its[m]) (List.getElem?_eq_getElem hm')
  have f' : Bu y' = true := List.all_eq_true.mp fs y' (List.mem_of_getElem? h1)
  have g : ys.getD m .non = y' := by rw [List.getD_eq_getElem?_getD, h1]; rfl
  rw [g]
  have e3 : its.toArray[m] = its[m] := by simp
  rw [e3]
  refine ⟨?_, h2, f'⟩
  unfold eqF
  rw [Wt h2 f']
 have hs : its.toArray.size = ys.length := by rw [List.size_toArray]; omega
 refine call_meets PySem.F.slot_list_index ⟨_, e, rfl⟩ PySem.F.entry_list_index (PySem.F.args_list_index_2 _ _)
  (MeetsSeq.list_index p its.toArray n u (eqF y) (fun z hz => ?_) j (by omega) ?_ (by rw [(at_ j (by omega)).1]; exact e1) (fun m hm hlt => by rw [(at_ m hm).1]; exact e2 m hlt)) ⟨e, ?_⟩
 ·obtain ⟨m, hm, rfl⟩ := Array.mem_iff_getElem.mp hz
  obtain ⟨a1, a2, a3⟩ := at_ m hm
  rw [a1]
  exact fun prog w A E s Q hq => Nz (A := A) (s := s) a2 ru a3 fy prog w E Q hq
 ·have := sizeLine_eq
  have h3 : (sizeLine : Int) < 2 ^ 63 - 1 := by decide
  omega
 ·exact ⟨.int j, H, I.tok _, ⟨_, rfl⟩, q⟩
end
section
variable {prog : Program} {w : World} {A : Around} {E : Value -> Shared -> Prop} {s : Shared}
end
section
variable {X : Cx} {pins : List (Addr × Obj)} {σ : St} {H : Hp} {s : Shared} {Q : VK}
end
open Sem (wp)
section
variable {M : Model} {A : Around} {E : Value -> Shared -> Prop} {env : Env}
variable {nm q : Str} {C N : Addr} {bs bm : List Value} {hdct : Bool} {sn : List Str} {sub : List Value} {ab : Bool} {col : Option Bool} {dd : Option Addr} {k0 k1 k2 k3 k5 : Option Value} {newId : String}
end
section
variable {X : Cx} {e : Expr} {te : TE} {pos : Pos}
def Vq (K : PySem.W.Frag) (R : EK) : VK := fun x H => match x with
 | .ref a => ∃ C dx, H a = some (excO a C dx) /\ ECls K C /\ R a (upd H a (flO a C dx))
 | _ => False
theorem Vc {Ex : St -> EK} (m : B3 X Ex) (hh : X.A.handled = none) (he : PE X e te) : PS X (.Raise (some e) none pos) (fun _ σ H => te σ H (Vq X.K (Ex σ))) := by
 intro pins s σ H D I h
 rw [arm_exec_Raise]
 show wpAny _ _ (do standAt pos; raiseStmt X.env (some (do let v <- eval e X.env; standAt pos; pure v)) none) _ _ s
 refine wpAny_bind (wpAny_standAt ?_)
 unfold raiseStmt
 refine wpAny_bind (wpAny_bind (thn (he pins s σ H _ I h) fun v s1 ⟨x, H1, I1, r1, q1⟩ => wpAny_bind (wpAny_standAt (wpAny_pure ?_))))
 cases x with
 | ref a =>
  cases r1
  obtain ⟨C, dx, ea, c, q⟩ := q1
  obtain ⟨vs, g1, g2, g3⟩ := Tv I1 ea
  obtain ⟨nm, qn, N, bs, bm, hdct, sn, sub, ab, col, dd, k0, k1, k2, k3, k5, hl, ht, hd⟩ := c.obj
  have hC := I1.kIn _ _ hl
  have hb : bm.contains (.type "BaseException") = true := Bn ht (by decide +kernel)
  have I2 : Inv X pins σ (upd H1 a (flO a C dx)) s1 := by
   have := I1.write (x := a) (e := a) (h' := s1.heap) (t' := s1.toks) (o := flO a C dx) (by rw [ea]; exact True.intro) (.inl rfl) (fun b u _ z => z) ⟨_, g1⟩ (Tx g1 g2)
   exact this
  have hx := m pins σ _ s1 a I2 ⟨C, dx, vs, Ac, g1, g2, .inl g3⟩ q
  have hcB : (Value.ref C :: bm).contains (.type "BaseException") = true := by rw [List.contains_cons, hb, Bool.or_true]
  obtain ⟨hp, g, d, tk, os⟩ := s1
  repeat (first | with_reducible refine wpAny_field g1 rfl g3 ?_ | with_reducible refine wpAny_loadPart_at g1 ?_ | with_reducible refine wpAny_loadPart_at hC ?_ | (with_reducible refine wpAny_isSubtype_exc hC ?_; rw [hcB]) | wp_step)
  exact wpAny_raiseNew_none hh hx
 | _ => exact (show False from q1).elim
end
end L2
namespace L2
open PySem PySem.Spec PyProof.Rows
section
variable {X : Cx} {pins : List (Addr × Obj)} {σ : St} {H : Hp} {s : Shared}
end
def rNo : R2 := fun _ _ _ _ => False
def Aj (K : PySem.W.Frag) : R2 := fun x y H Q => match x, y with
 | .int i, .int j => Q (.int (i + j)) H
 | .str a, .str b => a.length + b.length <= sizeLine /\ Q (.str (a ++ b)) H
 | .ref a, .ref b => rCat (.ref a) (.ref b) H Q \/ Zq K (.ref a) (.ref b) H Q \/ Zp K (.ref a) (.ref b) H Q
 | _, _ => False
def Qf : R2 := fun x y H Q => match x, y with
 | .int i, .int j => Q (.int (i - j)) H
 | _, _ => False
def Bw : R2 := fun x y H Q => match x, y with
 | .int i, .int j => CMul i j /\ Q (.int (i * j)) H
 | _, _ => False
def Bl : R2 := fun x y H Q => match x, y with
 | .int i, .int j => CDiv i j /\ Q (.int (i / j)) H
 | _, _ => False
def Au : R2 := fun x y H Q => match x, y with
 | .int i, .int j => 0 < j /\ Q (.int (i % j)) H
 | _, _ => False
def aq4 : R2 := fun x y H Q => match x, y with
 | _, _ => False
def M6 : R2 := fun x y H Q => match x, y with
 | .int i, .int j => CPow i j /\ Q (.int (i * 2 ^ j.toNat)) H
 | _, _ => False
def Vs : R2 := fun x y H Q => match x, y with
 | .int i, .int j => 0 <= j /\ Q (.int (i / 2 ^ j.toNat)) H
 | _, _ => False
def M5 : R2 := fun x y H Q => match x, y with
 | .int i, .int j => Q (.int (Builtin.bitAnd i j)) H
 | _, _ => False
def rOrD : R2 := fun x y H Q => match x, y with
 | .int i, .int j => Q (.int (Builtin.bitOr i j)) H
 | _, _ => False
def aq6 : R2 := fun x y H Q => match x, y with
 | _, _ => False
def rOp (K : PySem.W.Frag) : Operator -> R2
 | .Add => Aj K
 | .Sub => Qf
 | .Mult => Bw
 | .FloorDiv => Bl
 | .Mod => Au
 | .Pow => aq4
 | .LShift => M6
 | .RShift => Vs
 | .BitAnd => M5
 | .BitOr => rOrD
 | .BitXor => aq6
 | _ => rNo
section
variable {X : Cx}
theorem op_D (op : Operator) : OpR X (binaryOp op) (rOp X.K op) := by
 intro pins s σ H x y v u Q I rx ry h
 cases op with
 | Add =>
  cases x <;> cases y <;> first
   | exact (show False from h).elim
   | exact ab8 pins s σ H _ _ v u Q I rx ry ⟨_, _, rfl, rfl, h⟩
   | exact Om pins s σ H _ _ v u Q I rx ry ⟨_, _, rfl, rfl, h⟩
   | exact (op_cat.or (op_catT.or Xp)) pins s σ H _ _ v u Q I rx ry h
 | Sub => cases x <;> cases y <;> first | exact (show False from h).elim | exact ac7 pins s σ H _ _ v u Q I rx ry ⟨_, _, rfl, rfl, h⟩
 | Mult => cases x <;> cases y <;> first | exact (show False from h).elim | exact ac3 pins s σ H _ _ v u Q I rx ry ⟨_, _, rfl, rfl, h⟩
 | FloorDiv => cases x <;> cases y <;> first | exact (show False from h).elim | exact Xq pins s σ H _ _ v u Q I rx ry ⟨_, _, rfl, rfl, h⟩
 | Mod => cases x <;> cases y <;> first | exact (show False from h).elim | exact ac2 pins s σ H _ _ v u Q I rx ry ⟨_, _, rfl, rfl, h⟩
 | Pow => exact (show False from h).elim
 | LShift => cases x <;> cases y <;> first | exact (show False from h).elim | exact ac5 pins s σ H _ _ v u Q I rx ry ⟨_, _, rfl, rfl, h⟩
 | RShift => cases x <;> cases y <;> first | exact (show False from h).elim | exact ac6 pins s σ H _ _ v u Q I rx ry ⟨_, _, rfl, rfl, h⟩
 | BitAnd => cases x <;> cases y <;> first | exact (show False from h).elim | exact ab9 pins s σ H _ _ v u Q I rx ry ⟨_, _, rfl, rfl, h⟩
 | BitOr => cases x <;> cases y <;> first | exact (show False from h).elim | exact ap0 pins s σ H _ _ v u Q I rx ry ⟨_, _, rfl, rfl, h⟩
 | BitXor => exact (show False from h).elim
 | _ => exact (show False from h).elim
end
def rEqD (K : PySem.W.Frag) (neg : Bool) : R2 := fun x y H Q => match x, y with
 | .ref a, .ref b => rEqL K neg (.ref a) (.ref b) H Q \/ False
 | .ref a, y => False
 | x, .ref b => False
 | .int i, .int j => Q (.bl (if neg then !decide (i = j) else decide (i = j))) H
 | .str i, .str j => Q (.bl (if neg then !decide (i = j) else decide (i = j))) H
 | .bl i, .bl j => Q (.bl (if neg then !(i == j) else (i == j))) H
 | x, y => scal x y = true /\ Q (.bl (if neg then !decide (x = y) else decide (x = y))) H
def rLtD : R2 := fun x y H Q => match x, y with
 | .int i, .int j => Q (.bl (decide (i < j))) H
 | .str i, .str j => Q (.bl (decide (i.cps.toList < j.cps.toList))) H
 | _, _ => False
def rLeD : R2 := fun x y H Q => match x, y with
 | .int i, .int j => Q (.bl (decide (i <= j))) H
 | .str i, .str j => Q (.bl (!decide (j.cps.toList < i.cps.toList))) H
 | _, _ => False
def rGtD : R2 := fun x y H Q => match x, y with
 | .int i, .int j => Q (.bl (decide (j < i))) H
 | _, _ => False
def rGeD : R2 := fun x y H Q => match x, y with
 | .int i, .int j => Q (.bl (decide (j <= i))) H
 | _, _ => False
def rInD (K : PySem.W.Frag) (neg : Bool) : R2 := fun x y H Q => match x, y with
 | x, .ref p => rIn K neg x (.ref p) H Q \/ ∃ o, DGet H p x o /\ Q (.bl (if neg then !o.isSome else o.isSome)) H
 | _, _ => False
def rIsD (neg : Bool) : R2 := fun x y H Q => match y with
 | .non => Q (.bl (if neg then !decide (x = .non) else decide (x = .non))) H
 | .bl d => (match x with
  | .bl c => Q (.bl (if neg then !(c == d) else (c == d))) H
  | _ => False)
 | _ => False
def rCmp (K : PySem.W.Frag) : CmpOp -> R2
 | .Eq => rEqD K false
 | .NotEq => rEqD K true
 | .Lt => rLtD
 | .LtE => rLeD
 | .Gt => rGtD
 | .GtE => rGeD
 | .In => rInD K false
 | .NotIn => rInD K true
 | .Is => rIsD false
 | .IsNot => rIsD true
section
variable {X : Cx}
theorem Js (hu : X.A.units + 64 < cLine) (op : CmpOp) : OpR X (compareOp op) (rCmp X.K op) := by
  intro pins s σ H x y v u Q I rx ry h
  cases op with
  | Eq =>
    cases x <;> cases y <;> first
      | (rcases h with h | h
         . exact ac0 (by omega) pins s σ H _ _ v u Q I rx ry h
         . exact h.elim)
      | exact (show False from h).elim
      | exact P6 pins s σ H _ _ v u Q I rx ry h
      | exact P6 pins s σ H _ _ v u Q I rx ry ⟨rfl, by rw [Gs, Bool.beq_eq_decide_eq]; exact h⟩
      | exact P6 pins s σ H _ _ v u Q I rx ry ⟨rfl, by rw [Gu, Bool.beq_eq_decide_eq]; exact h⟩
      | exact P6 pins s σ H _ _ v u Q I rx ry ⟨rfl, by rw [K5]; exact h⟩
  | NotEq =>
    cases x <;> cases y <;> first
      | (rcases h with h | h
         . exact ac4 (by omega) pins s σ H _ _ v u Q I rx ry h
         . exact h.elim)
      | exact (show False from h).elim
      | exact P7 pins s σ H _ _ v u Q I rx ry h
      | exact P7 pins s σ H _ _ v u Q I rx ry ⟨rfl, by rw [Gs, Bool.beq_eq_decide_eq]; exact h⟩
      | exact P7 pins s σ H _ _ v u Q I rx ry ⟨rfl, by rw [Gu, Bool.beq_eq_decide_eq]; exact h⟩
      | exact P7 pins s σ H _ _ v u Q I rx ry ⟨rfl, by rw [K5]; exact h⟩
  | Lt => cases x <;> cases y <;> first | exact (show False from h).elim | exact ao9 pins s σ H _ _ v u Q I rx ry ⟨_, _, rfl, rfl, h⟩ | exact Ry pins s σ H _ _ v u Q I rx ry ⟨_, _, rfl, rfl, h⟩
  | LtE => cases x <;> cases y <;> first | exact (show False from h).elim | exact ao8 pins s σ H _ _ v u Q I rx ry ⟨_, _, rfl, rfl, h⟩ | exact Rx pins s σ H _ _ v u Q I rx ry ⟨_, _, rfl, rfl, h⟩
  | Gt => cases x <;> cases y <;> first | exact (show False from h).elim | exact ao7 pins s σ H _ _ v u Q I rx ry ⟨_, _, rfl, rfl, h⟩
  | GtE => cases x <;> cases y <;> first | exact (show False from h).elim | exact ao6 pins s σ H _ _ v u Q I rx ry ⟨_, _, rfl, rfl, h⟩
  | In => cases x <;> cases y <;> first | exact (show False from h).elim | exact h.elim (Rw pins s σ H _ _ v u Q I rx ry) fun ⟨o, g, q⟩ => by cases ry; exact d_in (by omega) I g rx fun s' I' => ⟨.bl _, H, I', rfl, q⟩
  | NotIn => cases x <;> cases y <;> first | exact (show False from h).elim | exact h.elim (Lj pins s σ H _ _ v u Q I rx ry) fun ⟨o, g, q⟩ => by cases ry; exact W2 (by omega) I g rx fun s' I' => ⟨.bl _, H, I', rfl, q⟩
  | Is => cases y <;> first | exact (show False from h).elim | exact ac1 pins s σ H _ _ v u Q I rx ry ⟨rfl, h⟩ | (cases x <;> first | exact (show False from h).elim | (cases rx; cases ry; exact is_bool ⟨.bl _, H, I, rfl, h⟩))
  | IsNot => cases y <;> first | exact (show False from h).elim | exact Xr pins s σ H _ _ v u Q I rx ry ⟨rfl, h⟩ | (cases x <;> first | exact (show False from h).elim | (cases rx; cases ry; exact isnot_bool ⟨.bl _, H, I, rfl, h⟩))
end
def Ia : V -> Hp -> VK -> Prop := fun x H Q => match x with
 | .int i => Q (.int (-i)) H
 | _ => False
theorem un_D {X : Cx} : UnR X (unaryOp .USub) Ia := by
 intro pins s σ H x v Q I rx h
 cases x <;> first | exact (show False from h).elim | exact aj6 pins s σ H _ v Q I rx ⟨_, rfl, h⟩
def Qe : V -> Hp -> VK -> Prop := fun x H Q => match x with
 | .int i => Q (.int (Builtin.bitNot i)) H
 | _ => False
theorem al6 {X : Cx} : UnR X (unaryOp .Invert) Qe := by
 intro pins s σ H x v Q I rx h
 cases x <;> first | exact (show False from h).elim | exact aj5 pins s σ H _ v Q I rx ⟨_, rfl, h⟩
theorem Qs {X : Cx} : TruR X (truD X.K) := by
 intro pins s σ H x v Q I rx h
 cases x with
 | non => exact Ix pins s σ H _ v Q I rx ⟨_, rfl, h⟩
 | bl b => exact Ix pins s σ H _ v Q I rx ⟨_, rfl, h⟩
 | int i => exact Ix pins s σ H _ v Q I rx ⟨_, rfl, h⟩
 | str y => exact Ix pins s σ H _ v Q I rx ⟨_, ⟨h.1, rfl⟩, h.2⟩
 | ref p => exact Ix pins s σ H _ v Q I rx h
 | _ => exact (show False from h).elim
inductive SqX (K : PySem.W.Frag) (H : Hp) (p : Addr) (i : Int) (xs : List V) : Prop where
 | inl (h : SqL K H p xs)
 | inr (h : SqT K H p xs)
 | dk (h : ∀ v, atI xs i = some v -> DGet H p (.int i) (some v))
def rIxD (K : PySem.W.Frag) : R2 := fun x y H Q => match x, y with
 | .str z, .int i => z.length <= sizeLine /\ ∃ c, atI z.cps.toList i = some c /\ Q (.str ⟨#[c]⟩) H
 | .ref p, .int i => ∃ xs v, SqX K H p i xs /\ atI xs i = some v /\ Q v H
 | .ref p, .str k => ∃ v, DGet H p (.str k) (some v) /\ Q v H
 | .ref p, .ref b => ∃ v, DGet H p (.ref b) (some v) /\ Q v H
 | _, _ => False
theorem ix_D {X : Cx} (hu : X.A.units + 64 < cLine) : IxR X (rIxD X.K) := by
  intro value slice pins s σ H x y v u Q I rx ry h hs
  cases x <;> cases y <;> first
    | exact (show False from h).elim
    | (obtain ⟨h1, c, h2, h3⟩ := h; exact aa0 value slice pins s σ H _ _ v u Q I rx ry ⟨_, _, c, rfl, rfl, h1, h2, h3⟩ hs)
    | (obtain ⟨xs, w, h1 | h1 | h1, h2, h3⟩ := h
       . exact Xf value slice pins s σ H _ _ v u Q I rx ry ⟨_, _, _, _, rfl, rfl, h1, h2, h3⟩ hs
       . exact aa1 value slice pins s σ H _ _ v u Q I rx ry ⟨_, _, _, _, rfl, rfl, h1, h2, h3⟩ hs
       . exact Pz hu value slice pins s σ H _ _ v u Q I rx ry ⟨_, w, rfl, h1 w h2, h3⟩ hs)
    | (obtain ⟨w, h1, h2⟩ := h; exact Pz hu value slice pins s σ H _ _ v u Q I rx ry ⟨_, w, rfl, h1, h2⟩ hs)
def Zr : V -> V -> V -> Hp -> (Hp -> Prop) -> Prop := fun o i v H N => match o, i with
 | .ref p, .int k => (∃ xs j, H p = some (.lst xs) /\ ixN xs.length k = some j /\ N (upd H p (.lst (xs.set j v)))) \/ ∃ H', DPut H p (.int k) v H' /\ N H'
 | .ref p, i => ∃ H', DPut H p i v H' /\ N H'
 | _, _ => False
theorem aw2 {X : Cx} (hu : X.A.units + 64 < cLine) : PSet X Zr := by
 intro pins s σ H o i v ov iv u Q I ro ri rv h
 cases o with
 | ref p =>
  have dp : ∀ {H'}, DPut H p i v H' -> Q H' -> wpAny (model X.prog X.w) X.A (setItem ov iv u) (fun _ s' => ∃ H', Inv X pins σ H' s' /\ Q H') X.xe s := fun {H'} g q => by
   cases ro
   exact Q7 (by omega) I g ri rv fun s' I' => ⟨H', I', q⟩
  cases i with
  | int k =>
   rcases h with ⟨xs, j, h1, h2, h3⟩ | ⟨H', g, q⟩
   ·exact Vy pins s σ H _ _ v ov iv u Q I ro ri rv ⟨p, xs, k, j, rfl, rfl, h1, h2, h3⟩
   ·exact dp g q
  | _ => obtain ⟨H', g, q⟩ := h; exact dp g q
 | _ => exact (show False from h).elim
def C2 (K : PySem.W.Frag) (f : Str) : V -> Hp -> VK -> Prop := fun x H Q => match x with
 | .ref a => (∃ C dx fs v, H a = some (.ins C dx fs) /\ Cls K C /\ NoAttr K C f /\ fs.lookup f = some v /\ Q v H) \/ False
 | _ => False
def Vr (K : PySem.W.Frag) (f : Str) : V -> V -> Hp -> (Hp -> Prop) -> Prop := fun x y H N => match x with
 | .ref a => (∃ C dx fs, H a = some (.ins C dx fs) /\ Cls K C /\ NoAttr K C f /\ fs.length < 1000 /\ N (upd H a (.ins C dx (putF f y fs)))) \/ False
 | _ => False
section
variable {X : Cx} {pins : List (Addr × Obj)} {σ : St} {H : Hp} {s : Shared} {A : Around} {E : Value -> Shared -> Prop}
theorem al3 {f : Str} {x : V} {u : Value} {b : Bool} {Q : VK} (I : Inv X pins σ H s) (rx : RelV x u) (h : C2 X.K f x H Q) : wpAny (model X.prog X.w) A (getAttr u f b) (EP X pins σ Q) E s := by
 cases x with
 | ref a =>
  cases rx
  rcases h with ⟨C, dx, fs, v, ea, c, n, l, q⟩ | h
  ·exact N3 I ea c n l fun u' s2 I2 ru => ⟨v, H, I2, ru, q⟩
  ·exact h.elim
 | _ => exact (show False from h).elim
theorem aw1 {f : Str} {x y : V} {u v : Value} {N : Hp -> Prop} {Q : Unit -> Shared -> Prop} (I : Inv X pins σ H s) (rx : RelV x u) (ry : RelV y v) (h : Vr X.K f x y H N) (hQ : ∀ H' s', Inv X pins σ H' s' -> N H' -> Q () s') :
  wpAny (model X.prog X.w) A (setAttr u f v) Q E s := by
 cases x with
 | ref a =>
  cases rx
  rcases h with ⟨C, dx, fs, ea, c, n, l, q⟩ | h
  ·exact Ou I ea c n l ry fun s3 I3 => hQ _ _ I3 q
  ·exact h.elim
 | _ => exact (show False from h).elim
end
structure FI where
 f : Addr
 fd : FuncData
 ps : List Str
 k : Nat
 sp : Sp
 dfs : List V
 ds : List Value
structure MI where
 C : Addr
 i : FI
inductive GB where
 | fn (i : FI)
 | cls (C : Addr) (i : Option FI)
 | met (m : Str) (l : List MI)
 | val (v : V) (u : Value)
 | exc (C : Addr) (i : Option FI)
def Bg : List (Str × GB) -> Str -> Option (List MI)
 | [], _ => none
 | (_, .met m l) :: r, x => if m = x then some l else Bg r x
 | _ :: r, x => Bg r x
theorem Bo : ∀ {gb : List (Str × GB)} {x : Str} {l : List MI}, Bg gb x = some l -> ∃ k, (k, GB.met x l) ∈ gb
 | (k, .met m l') :: r, x, l, h => by
  unfold Bg at h
  by_cases e : m = x
  ·rw [if_pos e] at h; cases h; subst e; exact ⟨k, by simp⟩
  ·rw [if_neg e] at h; obtain ⟨k, q⟩ := Bo h; exact ⟨k, List.mem_cons_of_mem _ q⟩
 | (_, .fn _) :: r, x, l, h => by unfold Bg at h; obtain ⟨k, q⟩ := Bo h; exact ⟨k, List.mem_cons_of_mem _ q⟩
 | (_, .cls _ _) :: r, x, l, h => by unfold Bg at h; obtain ⟨k, q⟩ := Bo h; exact ⟨k, List.mem_cons_of_mem _ q⟩
 | (_, .val _ _) :: r, x, l, h => by unfold Bg at h; obtain ⟨k, q⟩ := Bo h; exact ⟨k, List.mem_cons_of_mem _ q⟩
 | (_, .exc _ _) :: r, x, l, h => by unfold Bg at h; obtain ⟨k, q⟩ := Bo h; exact ⟨k, List.mem_cons_of_mem _ q⟩
structure Sg where
 K : PySem.W.Frag
 N : List Str
 sc : List (Str × NameKind)
 gb : List (Str × GB)
 bl : List Str
 top : Bool
 calm : Bool
def B1 : List Str -> Str -> Nat -> Option Nat
 | [], _, _ => none
 | y :: r, x, i => if y = x then some i else B1 r x (i + 1)
theorem Kq : ∀ {N : List Str} {x : Str} {i j : Nat}, B1 N x j = some i -> j <= i /\ N[i - j]? = some x
 | [], _, _, _, h => by cases h
 | y :: r, x, i, j, h => by
  unfold B1 at h
  by_cases e : y = x
  ·rw [if_pos e] at h
   cases h
   refine ⟨Nat.le_refl _, ?_⟩
   rw [Nat.sub_self, e]
   rfl
  ·rw [if_neg e] at h
   obtain ⟨h1, h2⟩ := Kq h
   refine ⟨by omega, ?_⟩
   have : i - j = (i - (j + 1)) + 1 := by omega
   rw [this, List.getElem?_cons_succ]
   exact h2
theorem Da {N : List Str} {x : Str} {i : Nat} (h : B1 N x 0 = some i) : N[i]? = some x := (Kq h).2
def C8 (x : Str) : Bool := !(x == ("__debug__" : Str)) && !(x == ("__classdict__" : Str)) && !(x == ("__name__" : Str))
def isGl (G : Sg) (x : Str) : Bool := (G.sc.lookup x == some .globalImplicit) && C8 x
def Pe (x : Str) : Option String :=
 if x = "int" then some "int" else if x = "bool" then some "bool" else if x = "str" then some "str" else if x = "list" then some "list" else if x = "tuple" then some "tuple" else if x = "dict" then some "dict" else if x = "ValueError" then some "ValueError" else none
theorem Wy : bootBuiltins "ValueError" = some (.type "ValueError") := by decide +kernel
theorem Sy {x : Str} {T : String} (h : Pe x = some T) : bootBuiltins x = some (.type T) := by
 unfold Pe at h
 by_cases e1 : x = "int"
 ·rw [if_pos e1] at h; cases h; rw [e1]; exact PyProof.Rows.boot_int
 rw [if_neg e1] at h
 by_cases e2 : x = "bool"
 ·rw [if_pos e2] at h; cases h; rw [e2]; exact PyProof.Rows.boot_bool
 rw [if_neg e2] at h
 by_cases e3 : x = "str"
 ·rw [if_pos e3] at h; cases h; rw [e3]; exact PyProof.Rows.boot_str
 rw [if_neg e3] at h
 by_cases e4 : x = "list"
 ·rw [if_pos e4] at h; cases h; rw [e4]; exact PyProof.Rows.boot_list
 rw [if_neg e4] at h
 by_cases e5 : x = "tuple"
 ·rw [if_pos e5] at h; cases h; rw [e5]; exact PyProof.Rows.boot_tuple
 rw [if_neg e5] at h
 by_cases e6 : x = "dict"
 ·rw [if_pos e6] at h; cases h; rw [e6]; exact PyProof.Rows.boot_dict
 rw [if_neg e6] at h
 by_cases e7 : x = "ValueError"
 ·rw [if_pos e7] at h; cases h; rw [e7]; exact Wy
 rw [if_neg e7] at h
 cases h
def Jj (CX : CXT) (X : Cx) : Prop := ∀ Ex, B3 X Ex -> ∀ (pins : List (Addr × Obj)) (σ : St) (H : Hp) (s : Shared) (e : Value) (s' : Shared), Inv X pins σ H s -> CX X.stack H s (fun v _ H' => ∃ a, v = .ref a /\ Ex σ a H') e s' -> X.xe e s'
structure FIOk (X : Cx) (i : FI) : Prop where
 kp : PySem.W.keepIn X.K (.ref i.f) = true
 ok : ∃ CX, (∀ X' : Cx, X'.prog = X.prog -> X'.w = X.w -> Jj CX X') /\ FnOk X.prog X.w X.K X.mg X.base CX i.k i.f i.fd i.ps i.sp
 room : Room i.k X.A
 binds : ∀ j, j <= i.dfs.length -> Binds X.K i.fd i.ps (i.ds.drop j)
 vals : Vals i.dfs i.ds
def Kv (X : Cx) (C : Addr) : Option FI -> Prop
 | none => PySem.W.findIn X.K (.ref C) "__init__" = some (some (.builtin "ValueError.__init__"))
 | some i => PySem.W.findIn X.K (.ref C) "__init__" = some (some (.ref i.f)) /\ PySem.W.isFn X.K (.ref i.f) = true /\ FIOk X i /\ Room (i.k + 1) X.A
def MkOk (X : Cx) (C : Addr) : Option FI -> Prop
 | none => PySem.W.makesIn X.K C = true /\ PySem.W.findIn X.K (.ref C) "__init__" = some (some (.builtin "object.__init__"))
 | some i => PySem.W.makesIn X.K C = true /\ PySem.W.findIn X.K (.ref C) "__init__" = some (some (.ref i.f)) /\ PySem.W.isFn X.K (.ref i.f) = true /\ FIOk X i /\ Room (i.k + 1) X.A
def FrH (X : Cx) : Prop := ∃ (e0 : Env) (o0 : List Env) (L : Addr), X.stack = e0 :: o0 /\ e0.frame = some L /\ X.env.frame = some L
structure GOk (X : Cx) (G : Sg) : Prop where
 K : X.K = G.K
 kind : X.env.scope.kind = .function
 own : G.top = true -> PassesOwn (model X.prog X.w) X.A X.env X.xe
 N : X.N = G.N
 nd : G.N.Nodup
 sc : ∀ x, X.env.scope.names.lookup x = G.sc.lookup x
 vis : ∀ x ∈ G.N, Vis X.env.scope x
 top : G.top = true -> ∀ x, X.fn x = true
 calm : G.calm = X.calm
 hd : X.calm = true -> X.A.handled = none
 units : X.A.units + 64 < cLine
 cel : ∀ x, (X.env.scope.names.lookup x = some .cell \/ X.env.scope.names.lookup x = some .free) -> ∃ c, X.env.cells.lookup x = some c
 fn : ∀ x i, G.gb.lookup x = some (.fn i) -> X.mg x = some (.ref i.f) /\ FIOk X i
 val : ∀ x v u, G.gb.lookup x = some (.val v u) -> X.mg x = some u /\ RelV v u
 bl : ∀ x, G.bl.contains x = true -> X.mg x = none
 exc : ∀ x C oi, G.gb.lookup x = some (.exc C oi) -> X.mg x = some (.ref C) /\ PySem.W.keepIn X.K (.ref C) = true /\ ECls X.K C /\ Kv X C oi
 cls : ∀ x C oi, G.gb.lookup x = some (.cls C oi) -> X.mg x = some (.ref C) /\ PySem.W.keepIn X.K (.ref C) = true /\ MkOk X C oi
 met : ∀ m l, Bg G.gb m = some l -> ∀ mi ∈ l, Cls X.K mi.C /\ Meth X.K mi.C m mi.i.f /\ FIOk X mi.i
 frm : G.top = true -> X.stack = X.env :: X.outer /\ X.env.frame = some X.env.locals
 fr : FrH X
section
variable {X : Cx} {G : Sg}
theorem GOk.gl (O : GOk X G) {x : Str} (h : isGl G x = true) : Gl X x := by
 unfold isGl at h
 rw [Bool.and_eq_true] at h
 have := eq_of_beq h.1
 unfold Gl
 show X.env.scope.names.lookup x = _
 rw [O.sc x]
 exact this
theorem Ll {x : Str} (h : C8 x = true) : (x == ("__debug__" : Str)) = false /\ (x == ("__classdict__" : Str)) = false /\ x ≠ "__name__" := by
 unfold C8 at h
 simp only [Bool.and_eq_true, Bool.not_eq_true'] at h
 exact ⟨h.1.1, h.1.2, fun e => by rw [e] at h; simp at h⟩
theorem N8 {x : Str} (h : isGl G x = true) : (x == ("__debug__" : Str)) = false /\ (x == ("__classdict__" : Str)) = false /\ x ≠ "__name__" := by
 unfold isGl at h
 rw [Bool.and_eq_true] at h
 exact Ll h.2
def Wp (G : Sg) (x : Str) : DE :=
 match B1 G.N x 0 with
 | some i => if C8 x = true then dVar i else dNo
 | none => if isGl G x = true then (match G.gb.lookup x with
   | some (.val v _) => dC v
   | some (.exc C _) => dC (.ref C)
   | some (.cls C _) => dC (.ref C)
   | some _ => dNo
   | none => if G.bl.contains x = true then (match Pe x with
    | some T => dC (.ty T)
    | none => dNo) else dNo) else dNo
theorem Bb {e : Expr} : QE X e dNo := fun _ _ _ _ _ _ _ _ h => h.elim
theorem af8 {i : Nat} {x : Str} {pos : Pos} (hN : X.N[i]? = some x) (hv : Vis X.env.scope x) (hp : C8 x = true) : QE X (.Name x pos) (dVar i) := by
 intro Ex _ pins s σ H Q I h
 unfold dVar at h
 split at h
 ·rename_i v e
  exact ad5 hN hv (Ll hp).1 (Ll hp).2.1 pins s σ H Q I ⟨v, e, h⟩
 ·exact h.elim
theorem Yh (O : GOk X G) (x : Str) (pos : Pos) : QE X (.Name x pos) (Wp G x) := by
 unfold Wp
 split
 ·rename_i i e
  split
  ·rename_i hp
   have hi := Da e
   exact af8 (by rw [O.N]; exact hi) (O.vis x (List.mem_of_getElem? hi)) hp
  ·exact Bb
 ·split
  ·rename_i hg
   have dd := N8 hg
   split
   ·rename_i v u e
    obtain ⟨h1, h2⟩ := O.val x v u e
    exact fun _ _ => Lk (O.gl hg) h1 h2 dd.1
   ·rename_i C oi e
    exact fun _ _ => Lk (v := .ref C) (O.gl hg) (O.exc x C oi e).1 rfl dd.1
   ·rename_i C oi e
    exact fun _ _ => Lk (v := .ref C) (O.gl hg) (O.cls x C oi e).1 rfl dd.1
   ·exact Bb
   ·split
    ·rename_i hb
     split
     ·rename_i T e
      exact fun _ _ => Xt (O.gl hg) (O.bl x hb) (Sy e) rfl dd.2.2 dd.1
     ·exact Bb
    ·exact Bb
  ·exact Bb
def Wn : Const -> DE
 | .int i => dC (.int i)
 | .bool b => dC (.bl b)
 | .none => dC .non
 | .str x => dC (.str x)
 | _ => dNo
theorem Vh (c : Const) (j : Nat) (pos : Pos) : QE X (.Constant c j pos) (Wn c) := by
 cases c with
 | int i => exact fun _ _ => ac9
 | bool b => exact fun _ _ => ap1
 | none => exact fun _ _ => ad1
 | str x => exact fun _ _ => ad3
 | _ => exact Bb
variable {a b c : Expr} {da db dc : DE} {ta tb : DT} {es : List Expr} {r : DA} {pos : Pos}
theorem ae6 (op : Operator) (ha : QE X a da) (hb : QE X b db) : QE X (.BinOp a op b pos) (dBin (rOp X.K op) da db) := fun Ex m => ap3 (op_D op) (ha Ex m) (hb Ex m)
theorem af3 (ha : QE X a da) : QE X (.UnaryOp .USub a pos) (dUn Ia da) := fun Ex m => Zm un_D (ha Ex m)
theorem ae9 (ha : QE X a da) : QE X (.UnaryOp .Invert a pos) (dUn Qe da) := fun Ex m => Zm al6 (ha Ex m)
theorem ae8 (hu : X.A.units + 64 < cLine) (op : CmpOp) (ha : QE X a da) (hb : QE X b db) (hm : behindInMarks op b = false) : QE X (.Compare a [op] [b] pos) (dBin (rCmp X.K op) da db) := fun Ex m => Xu (Js hu op) (ha Ex m) (hb Ex m) hm
theorem ag8 (hu : X.A.units + 64 < cLine) (op : CmpOp) (ha : QE X a da) (hb : QE X b db) (hm : behindInMarks op b = false) : QT X (.Compare a [op] [b] pos) (dTst (dBin (rCmp X.K op) da db)) := by
 intro Ex m pins s σ H Q I h
 refine wpAny_isTrue_Compare1 (thn (ha Ex m pins s σ H _ I h) fun v s1 ⟨x, H1, I1, r1, q1⟩ => thn (hb Ex m pins s1 σ H1 _ I1 q1) fun u s2 ⟨y, H2, I2, r2, q2⟩ =>
  thn (Js hu op pins s2 σ H2 x y v u _ I2 r1 r2 q2) fun c s3 ⟨z, H3, I3, r3, q3⟩ => ?_) hm
 cases z with
 | bl k => cases r3; exact wpAny_truthy_bool ⟨H3, I3, q3⟩
 | _ => exact (show False from q3).elim
theorem Vg (hu : X.A.units + 64 < cLine) (op op' : CmpOp) (ha : QE X a da) (hb : QE X b db) (hc : QE X c dc) (hm : lastMarks [op, op'] [b, c] = false) :
  QE X (.Compare a [op, op'] [b, c] pos) (Df (rCmp X.K op) (rCmp X.K op') da db dc) := by
 intro Ex m pins s σ H Q I h
 refine Compare_chain (thn (ha Ex m pins s σ H _ I h) fun v s1 ⟨x, H1, I1, r1, q1⟩ => chain_link (thn (hb Ex m pins s1 σ H1 _ I1 q1) fun u s2 ⟨y, H2, I2, r2, q2⟩ =>
  thn (Js hu op pins s2 σ H2 x y v u _ I2 r1 r2 q2) fun d s3 ⟨z, H3, I3, r3, q3⟩ => ?_)) hm
 cases z with
 | bl k =>
  cases r3
  refine wpAny_truthy_bool ?_
  cases k with
  | false => exact ite_ff ⟨.bl false, H3, I3, rfl, q3⟩
  | true => exact ite_tt (chain_last (thn (hc Ex m pins s3 σ H3 _ I3 q3) fun w' s4 ⟨z', H4, I4, r4, q4⟩ => Js hu op' pins s4 σ H4 y z' u w' Q I4 r2 r4 q4))
 | _ => exact (show False from q3).elim
theorem Vp (hu : X.A.units + 64 < cLine) (op op' : CmpOp) (ha : QE X a da) (hb : QE X b db) (hc : QE X c dc) (hm : lastMarks [op, op'] [b, c] = false) :
  QT X (.Compare a [op, op'] [b, c] pos) (dTst (Df (rCmp X.K op) (rCmp X.K op') da db dc)) := by
 intro Ex m pins s σ H Q I h
 refine isTrue_chain (thn (ha Ex m pins s σ H _ I h) fun v s1 ⟨x, H1, I1, r1, q1⟩ => test_link (thn (hb Ex m pins s1 σ H1 _ I1 q1) fun u s2 ⟨y, H2, I2, r2, q2⟩ =>
  thn (Js hu op pins s2 σ H2 x y v u _ I2 r1 r2 q2) fun d s3 ⟨z, H3, I3, r3, q3⟩ => ?_)) hm
 cases z with
 | bl k =>
  cases r3
  refine wpAny_truthy_bool ?_
  cases k with
  | false => exact ite_ff ⟨H3, I3, q3⟩
  | true =>
   refine ite_tt (test_last (thn (hc Ex m pins s3 σ H3 _ I3 q3) fun w' s4 ⟨z', H4, I4, r4, q4⟩ => thn (Js hu op' pins s4 σ H4 y z' u w' _ I4 r2 r4 q4) fun d' s5 ⟨z2, H5, I5, r5, q5⟩ => ?_))
   cases z2 with
   | bl k2 => cases r5; exact wpAny_truthy_bool ⟨H5, I5, q5⟩
   | _ => exact (show False from q5).elim
 | _ => exact (show False from q3).elim
def U7 : Expr -> Bool
 | .UnaryOp .Not _ _ => false
 | .BoolOp _ _ _ => false
 | .IfExp _ _ _ _ => false
 | .Compare _ _ _ _ => false
 | _ => true
theorem R1 {e : Expr} (h : U7 e = true) (whole : Sem Value) : isTrue e X.env whole = (do let v <- whole; standAt e.pos; holding [v] (truthy v)) := by
 cases e with
 | UnaryOp op _ _ => cases op <;> first | rfl | cases h
 | BoolOp _ _ _ => cases h
 | IfExp _ _ _ _ => cases h
 | Compare _ _ _ _ => cases h
 | _ => rfl
theorem ah0 (ha : QE X a da) (h : U7 a = true) : QT X a (dTru X.K da) := by
 intro Ex m pins s σ H Q I hw
 exact isTrue_plain (thn (ha Ex m pins s σ H _ I hw) fun v s1 ⟨x, H1, I1, r1, q1⟩ => Qs pins s1 σ H1 x v Q I1 r1 q1) (R1 h _)
theorem ag9 (ha : QT X a ta) : QT X (.UnaryOp .Not a pos) (dNot ta) := fun Ex m => ae1 (ha Ex m)
theorem Yp (ha : QT X a ta) : QW X (.BoolOp .And [a] pos) ta := fun Ex m => X9 (ha Ex m)
theorem ah2 (ha : QT X a ta) : QW X (.BoolOp .Or [a] pos) ta := fun Ex m => ae3 (ha Ex m)
theorem ah1 (ha : QT X a ta) (hb : QW X (.BoolOp .And (b :: es) pos) tb) : QW X (.BoolOp .And (a :: b :: es) pos) (dAnd ta tb) := fun Ex m => ae2 (ha Ex m) (hb Ex m)
theorem aq3 (ha : QT X a ta) (hb : QW X (.BoolOp .Or (b :: es) pos) tb) : QW X (.BoolOp .Or (a :: b :: es) pos) (dOr ta tb) := fun Ex m => ap7 (ha Ex m) (hb Ex m)
theorem af5 {op : BoolOp} (ha : QE X a da) : QE X (.BoolOp op [a] pos) da := fun Ex m => ad2 (ha Ex m)
theorem ae5 (ha : QE X a da) (hb : QE X (.BoolOp .And (b :: es) pos) db) : QE X (.BoolOp .And (a :: b :: es) pos) (Mh X.K da db) := by
 intro Ex m pins s σ H Q I h
 refine BoolOp_and (thn (ha Ex m pins s σ H _ I h) fun v s1 ⟨x, H1, I1, r1, q1⟩ => thn (Qs pins s1 σ H1 x v _ I1 r1 q1) fun k s2 ⟨H2, I2, q2⟩ => ?_)
 cases k with
 | true => exact hb Ex m pins s2 σ H2 Q I2 q2
 | false => exact ⟨x, H2, I2, r1, q2⟩
theorem aq1 (ha : QE X a da) (hb : QE X (.BoolOp .Or (b :: es) pos) db) : QE X (.BoolOp .Or (a :: b :: es) pos) (dOrV X.K da db) := by
 intro Ex m pins s σ H Q I h
 refine BoolOp_or (thn (ha Ex m pins s σ H _ I h) fun v s1 ⟨x, H1, I1, r1, q1⟩ => thn (Qs pins s1 σ H1 x v _ I1 r1 q1) fun k s2 ⟨H2, I2, q2⟩ => ?_)
 cases k with
 | false => exact hb Ex m pins s2 σ H2 Q I2 q2
 | true => exact ⟨x, H2, I2, r1, q2⟩
theorem af4 (ha : QE X a da) : QE X (.UnaryOp .Not a pos) (Y5 X.K da) := by
 intro Ex m pins s σ H Q I h
 refine UnaryOp_ (thn (ha Ex m pins s σ H _ I h) fun v s1 ⟨x, H1, I1, r1, q1⟩ => not_of (thn (Qs pins s1 σ H1 x v _ I1 r1 q1) fun k s2 ⟨H2, I2, q2⟩ => ?_))
 exact ⟨.bl (!k), H2, I2, rfl, q2⟩
theorem ap8 {t : Expr} (ht : QT X t ta) (ha : QE X a da) (hb : QE X b db) : QE X (.IfExp t a b pos) (dIfE ta da db) := fun Ex m => U2 (ht Ex m) (ha Ex m) (hb Ex m)
def noStar : Expr -> Bool
 | .Starred _ _ => false
 | _ => true
theorem Av {e : Expr} (h : noStar e = true) (es : List Expr) (env : Env) : starEach (e :: es) env = (false, eval e env) :: starEach es env := by
 cases e with
 | Starred _ _ => cases h
 | _ => rfl
theorem A8 {es : List Expr} (h : es.all noStar = true) (env : Env) (pos : Pos) : (backTo pos (starEach es env)).any (·.1) = false := by
 induction es with
 | nil => rfl
 | cons e es ih =>
  rw [List.all_cons, Bool.and_eq_true] at h
  rw [Av h.1]
  show (false || (backTo pos (starEach es env)).any (·.1)) = false
  rw [ih h.2]
  rfl
theorem Gi {es : List Expr} (h : es.all noStar = true) (env : Env) (pos : Pos) : (backTo pos (starEach es env)).all (fun x => !x.1) = true := by
 induction es with
 | nil => rfl
 | cons e es ih =>
  rw [List.all_cons, Bool.and_eq_true] at h
  rw [Av h.1]
  show (true && (backTo pos (starEach es env)).all (fun x => !x.1)) = true
  rw [ih h.2]
  rfl
theorem ae4 : QA X [] dNil := fun _ _ => ac8
theorem Ya (ha : QE X a da) (hr : QA X es r) (hs : noStar a = true) : QA X (a :: es) (Aa da r) := fun Ex m => Xs (ha Ex m) (hr Ex m) (Av hs es X.env)
theorem af7 {k : Nat} (h : QA X es r) : QE X (.Tuple es k pos) (dTup r) := fun Ex m => ad4 (h Ex m)
theorem af0 (h : QA X es r) : QE X (.List es pos) (dLst r) := fun Ex m => ad0 (h Ex m)
def Fd : Expr -> Bool
 | .Slice _ _ _ _ => false
 | _ => true
theorem Oi {e : Expr} (h : Fd e = true) : Pi e := by
 intro o i
 cases e with
 | Slice _ _ _ _ => cases h
 | _ => rfl
theorem ap9 (hu : X.A.units + 64 < cLine) (ha : QE X a da) (hb : QE X b db) (h : Fd b = true) : QE X (.Subscript a b pos) (dBin (rIxD X.K) da db) := fun Ex m => ap2 (ix_D hu) (ha Ex m) (hb Ex m) (Oi h)
theorem Yb {f : Str} (ha : QE X a da) (h : attributeBase a f X.env (eval a X.env) = eval a X.env) : QE X (.Attribute a f pos) (dUn (C2 X.K f) da) := by
 intro Ex m pins s σ H Q I hw
 exact Wv h (thn (ha Ex m pins s σ H _ I hw) fun u s1 ⟨x, H1, I1, rx, q⟩ => al3 I1 rx q)
end
abbrev RF := List V -> Hp -> VK -> Prop
def J5 (x : V) (T : String) : Bool := match x with
 | .int _ => T == "int"
 | .bl _ => T == "bool" || T == "int"
 | .str _ => T == "str"
 | _ => false
def okT (T : String) : Bool := ["int", "bool", "str", "list", "tuple", "dict"].contains T
def rIsi (K : PySem.W.Frag) : RF := fun xs H Q => match xs with
 | [.int i, .ty T] => okT T = true /\ Q (.bl (J5 (.int i) T)) H
 | [.bl i, .ty T] => okT T = true /\ Q (.bl (J5 (.bl i) T)) H
 | [.str i, .ty T] => okT T = true /\ Q (.bl (J5 (.str i) T)) H
 | [.non, .ty T] => okT T = true /\ Q (.bl (J5 .non T)) H
 | [x, .ty T] => ∃ t b, TyX K H x t /\ PySem.W.kitOne K t (.type T) = some b /\ Q (.bl b) H
 | [x, .ref C] => (∃ t b, TyX K H x t /\ PySem.W.kitOne K t (.ref C) = some b /\ Q (.bl b) H) \/ False
 | _ => False
def rLen (K : PySem.W.Frag) : RF := fun xs H Q => match xs with
 | [.str z] => z.length <= sizeLine /\ Q (.int z.length) H
 | [.ref p] => (∃ ys, (SqL K H p ys \/ SqT K H p ys) /\ Q (.int ys.length) H) \/ ∃ kvs, Rd H p (.dK kvs) /\ Q (.int kvs.length) H
 | _ => False
def rAll (K : PySem.W.Frag) : RF := fun xs H Q => match xs with
 | [.ref p] => ∃ bs : List Bool, SqL K H p (bs.map V.bl) /\ Q (.bl (bs.all fun b => b)) H
 | _ => False
def rInt : RF := fun xs H Q => match xs with
 | [.int i] => Q (.int i) H
 | [.bl k] => Q (.int (if k then 1 else 0)) H
 | _ => False
def Dn (K : PySem.W.Frag) : RF := fun xs H Q => match xs with
 | [.ref p] => ∃ ys, (SqL K H p ys \/ SqT K H p ys) /\ ∀ l, H l = none -> Q (.ref l) (upd H l (.lst ys))
 | _ => False
def Lp (K : PySem.W.Frag) : RF := fun xs H Q => match xs with
 | [.ref p] => ∃ ys, (SqL K H p ys /\ ∀ l, H l = none -> Q (.ref l) (upd H l (.tup ys))) \/ (SqT K H p ys /\ Q (.ref p) H)
 | _ => False
def rMax : RF := fun xs H Q => match xs with
 | [.int i, .int j] => Q (.int (if j > i then j else i)) H
 | _ => False
def rMin : RF := fun xs H Q => match xs with
 | [.int i, .int j] => Q (.int (if j < i then j else i)) H
 | _ => False
inductive BF where
 | bf (id : String) | ty (T : String)
def bltR (K : PySem.W.Frag) (calm : Bool) (x : Str) : Option (BF × RF) :=
 if x = "len" then some (.bf "len", rLen K) else
 if x = "isinstance" then some (.bf "isinstance", rIsi K) else
 if x = "all" then (if calm = true then some (.bf "all", rAll K) else none) else
 if x = "int" then some (.ty "int", rInt) else
 if x = "list" then some (.ty "list", Dn K) else
 if x = "tuple" then some (.ty "tuple", Lp K) else
 if x = "max" then (if calm = true then some (.bf "max", rMax) else none) else
 if x = "min" then (if calm = true then some (.bf "min", rMin) else none) else
 none
def BF.val : BF -> Value
 | .bf id => .builtin id
 | .ty T => .type T
section
variable {X : Cx}
theorem Oa {K : PySem.W.Frag} {x : V} {T : String} (hx : Bu x = true) (h : okT T = true) : ∃ t, (∀ H, TyOf K H x t) /\ PySem.W.kitOne K t (.type T) = some (J5 x T) := by
 have hT : T = "int" \/ T = "bool" \/ T = "str" \/ T = "list" \/ T = "tuple" \/ T = "dict" := by
  unfold okT at h
  simpa using h
 cases x with
 | int i => refine ⟨_, fun H => TyOf.int i, ?_⟩; rcases hT with rfl | rfl | rfl | rfl | rfl | rfl <;> rfl
 | bl i => refine ⟨_, fun H => TyOf.bl i, ?_⟩; rcases hT with rfl | rfl | rfl | rfl | rfl | rfl <;> rfl
 | str i => refine ⟨_, fun H => TyOf.str i, ?_⟩; rcases hT with rfl | rfl | rfl | rfl | rfl | rfl <;> rfl
 | non => refine ⟨_, fun H => TyOf.non, ?_⟩; rcases hT with rfl | rfl | rfl | rfl | rfl | rfl <;> rfl
 | _ => cases hx
theorem Tn : Bt X (.builtin "isinstance") (rIsi X.K) := by
 intro pins s σ H xs us Q I r h
 have sc : ∀ x T, xs = [x, .ty T] -> Bu x = true -> okT T = true -> Q (.bl (J5 x T)) H -> wpAny (model X.prog X.w) X.A (call (.builtin "isinstance") us) (EP X pins σ Q) X.xe s := fun x T e hx hT q => by
  subst e
  obtain ⟨t, ht, hk⟩ := Oa (K := X.K) hx hT
  exact Tm pins s σ H _ us Q I r ⟨x, T, t, _, rfl, ht H, hk, q⟩
 unfold rIsi at h
 split at h
 ·exact sc _ _ rfl rfl h.1 h.2
 ·exact sc _ _ rfl rfl h.1 h.2
 ·exact sc _ _ rfl rfl h.1 h.2
 ·exact sc _ _ rfl rfl h.1 h.2
 ·obtain ⟨t, b, ty, e, q⟩ := h
  obtain ⟨u, v, rfl, ru, rv⟩ := r.two
  cases rv
  exact Hk I ru ty e fun tk => ⟨.bl b, H, I.tok tk, rfl, q⟩
 ·obtain ⟨u, v, rfl, ru, rv⟩ := r.two
  rcases h with ⟨t, b, ty, e, q⟩ | h
  ·cases rv
   exact Hk I ru ty e fun tk => ⟨.bl b, H, I.tok tk, rfl, q⟩
  ·exact h.elim
 ·exact h.elim
theorem Qx : Bt X (.builtin "len") (rLen X.K) := by
 intro pins s σ H xs us Q I r h
 unfold rLen at h
 split at h
 ·exact Kz pins s σ H _ us Q I r ⟨_, rfl, h.1, h.2⟩
 ·rcases h with ⟨ys, h1, h2⟩ | ⟨kvs, h1, h2⟩
  ·exact Ky pins s σ H _ us Q I r ⟨_, ys, rfl, h1, h2⟩
  ·obtain ⟨u, rfl, ru⟩ := Fm r
   cases ru
   exact ak7 I h1 fun t s' I' => ⟨.int _, H, I', ⟨t, rfl⟩, h2⟩
 ·exact h.elim
theorem Qv (hc : X.calm = true) : Bt X (.builtin "all") (rAll X.K) := by
 intro pins s σ H xs us Q I r h
 unfold rAll at h
 split at h
 ·obtain ⟨bs, h1, h2⟩ := h
  exact Tl hc pins s σ H _ us Q I r ⟨_, bs, rfl, h1, h2⟩
 ·exact h.elim
theorem Qw : Bt X (.type "int") rInt := by
 intro pins s σ H xs us Q I r h
 unfold rInt at h
 split at h
 ·exact Jp pins s σ H _ us Q I r (.inl ⟨_, rfl, h⟩)
 ·exact Jp pins s σ H _ us Q I r (.inr ⟨_, rfl, h⟩)
 ·exact h.elim
theorem Nt : Bt X (.type "list") (Dn X.K) := by
 intro pins s σ H xs us Q I r h
 unfold Dn at h
 split at h
 ·obtain ⟨ys, h1, h2⟩ := h
  exact K0 pins s σ H _ us Q I r ⟨_, ys, rfl, h1, h2⟩
 ·exact h.elim
theorem Q4 : Bt X (.type "tuple") (Lp X.K) := by
 intro pins s σ H xs us Q I r h
 unfold Lp at h
 split at h
 ·obtain ⟨ys, h1⟩ := h
  exact Jf pins s σ H _ us Q I r ⟨_, ys, rfl, h1⟩
 ·exact h.elim
theorem Qz (hc : X.calm = true) : Bt X (.builtin "max") rMax := by
 intro pins s σ H xs us Q I r h
 unfold rMax at h
 split at h
 ·exact Qy hc pins s σ H _ us Q I r ⟨_, _, rfl, h⟩
 ·exact h.elim
theorem Q3 (hc : X.calm = true) : Bt X (.builtin "min") rMin := by
 intro pins s σ H xs us Q I r h
 unfold rMin at h
 split at h
 ·exact Q0 hc pins s σ H _ us Q I r ⟨_, _, rfl, h⟩
 ·exact h.elim
theorem Wx {x : Str} {f : BF} {r : RF} {c : Bool} (h : bltR X.K c x = some (f, r)) (hc : c = X.calm) : bootBuiltins x = some f.val /\ Bt X f.val r := by
 unfold bltR at h
 by_cases e : x = "len"
 ·rw [if_pos e] at h; cases h; rw [e]; exact ⟨PySem.boot_len, Qx⟩
 rw [if_neg e] at h
 by_cases e : x = "isinstance"
 ·rw [if_pos e] at h; cases h; rw [e]; exact ⟨PyProof.Rows.boot_isinstance, Tn⟩
 rw [if_neg e] at h
 by_cases e : x = "all"
 ·rw [if_pos e] at h
  by_cases ec : c = true
  ·rw [if_pos ec] at h; cases h; rw [e]; exact ⟨PyProof.Rows.boot_all, Qv (hc ▸ ec)⟩
  ·rw [if_neg ec] at h; cases h
 rw [if_neg e] at h
 by_cases e : x = "int"
 ·rw [if_pos e] at h; cases h; rw [e]; exact ⟨PyProof.Rows.boot_int, Qw⟩
 rw [if_neg e] at h
 by_cases e : x = "list"
 ·rw [if_pos e] at h; cases h; rw [e]; exact ⟨PyProof.Rows.boot_list, Nt⟩
 rw [if_neg e] at h
 by_cases e : x = "tuple"
 ·rw [if_pos e] at h; cases h; rw [e]; exact ⟨PyProof.Rows.boot_tuple, Q4⟩
 rw [if_neg e] at h
 by_cases e : x = "max"
 ·rw [if_pos e] at h
  by_cases ec : c = true
  ·rw [if_pos ec] at h; cases h; rw [e]; exact ⟨PyProof.Rows.boot_max, Qz (hc ▸ ec)⟩
  ·rw [if_neg ec] at h; cases h
 rw [if_neg e] at h
 by_cases e : x = "min"
 ·rw [if_pos e] at h
  by_cases ec : c = true
  ·rw [if_pos ec] at h; cases h; rw [e]; exact ⟨PyProof.Rows.boot_min, Q3 (hc ▸ ec)⟩
  ·rw [if_neg ec] at h; cases h
 rw [if_neg e] at h
 cases h
abbrev RM := V -> List V -> Hp -> VK -> Prop
structure BM where
 T : String
 id : String
 r : RM
def rMt (K : PySem.W.Frag) (bs : List BM) : V -> Hp -> (Hp -> (List V -> Hp -> Prop) -> Prop) -> VK -> Prop := fun x H1 ta Q =>
 match bs with
 | [] => False
 | [b] => tyV K b.T x H1 /\ ta H1 fun xs H2 => b.r x xs H2 Q
 | b :: rest => (tyV K b.T x H1 /\ ta H1 fun xs H2 => b.r x xs H2 Q) \/ rMt K rest x H1 ta Q
structure BMOk (X : Cx) (m : Str) (b : BM) : Prop where
 pa : PlainAttrs b.T
 slot : Slot b.T m b.id
 ty : typeOf (.builtin b.id) = pure (.type "method_descriptor")
 mt : MtR X b.id b.r
def Gk (K : PySem.W.Frag) : RM := fun x xs H Q => ∃ z p ys, x = .str z /\ xs = [.ref p] /\ SqL K H p (ys.map V.str) /\ (ys.map (·.length)).sum + ys.length * z.length <= 16777216 /\ Q (.str (Txt.join z ys)) H
def mtR (K : PySem.W.Frag) (m : Str) : List BM :=
 if m = "append" then [⟨"list", "list.append", Cb⟩] else
 if m = "extend" then [⟨"list", "list.extend", Fh⟩] else
 if m = "join" then [⟨"str", "str.join", Gk K⟩] else
 if m = "split" then [⟨"str", "str.split", Cs⟩] else
 if m = "index" then [⟨"list", "list.index", F0⟩] else []
theorem Us {m : Str} {b : BM} (hu : X.A.units + 64 < cLine) (h : b ∈ mtR X.K m) : BMOk X m b := by
 unfold mtR at h
 by_cases e : m = "append"
 ·rw [if_pos e] at h
  have : b = ⟨"list", "list.append", Cb⟩ := by simpa using h
  subst this; subst e
  exact ⟨PySem.F.plainAttrs_list, PySem.F.slot_list_append, PySem.F.type_list_append, Ke⟩
 rw [if_neg e] at h
 by_cases e : m = "extend"
 ·rw [if_pos e] at h
  have : b = ⟨"list", "list.extend", Fh⟩ := by simpa using h
  subst this; subst e
  exact ⟨PySem.F.plainAttrs_list, PySem.F.slot_list_extend, PySem.F.type_list_extend, Rs⟩
 rw [if_neg e] at h
 by_cases e : m = "join"
 ·rw [if_pos e] at h
  have : b = ⟨"str", "str.join", Gk X.K⟩ := by simpa using h
  subst this; subst e
  exact ⟨PySem.F.plainAttrs_str, PySem.F.slot_str_join, PySem.F.type_str_join, Xl⟩
 rw [if_neg e] at h
 by_cases e : m = "split"
 ·rw [if_pos e] at h
  have : b = ⟨"str", "str.split", Cs⟩ := by simpa using h
  subst this; subst e
  exact ⟨PySem.F.plainAttrs_str, PySem.F.slot_str_split, PySem.F.type_str_split, Uu⟩
 rw [if_neg e] at h
 by_cases e : m = "index"
 ·rw [if_pos e] at h
  have : b = ⟨"list", "list.index", F0⟩ := by simpa using h
  subst this; subst e
  exact ⟨PySem.F.plainAttrs_list, PySem.F.slot_list_index, PySem.F.type_list_index, Ut⟩
 rw [if_neg e] at h
 cases h
theorem Lo {K : PySem.W.Frag} : ∀ {bs : List BM} {x : V} {H1 : Hp} {ta : Hp -> (List V -> Hp -> Prop) -> Prop} {Q : VK}, rMt K bs x H1 ta Q -> ∃ b ∈ bs, tyV K b.T x H1 /\ ta H1 fun xs H2 => b.r x xs H2 Q
 | [], _, _, _, _, h => h.elim
 | [b], _, _, _, _, h => ⟨b, by simp, h⟩
 | b :: c :: rest, x, H1, ta, Q, h => by
  rcases h with h | h
  ·exact ⟨b, by simp, h⟩
  ·obtain ⟨d, hd, q⟩ := Lo h
   exact ⟨d, List.mem_cons_of_mem _ hd, q⟩
def C1 : Expr -> Bool
 | .Call (.Name x _) [] [] _ => !(x == ("super" : Str))
 | _ => true
theorem Dl {e : Expr} (h : C1 e = true) (f : Str) (env : Env) (whole : Sem Value) : attributeBase e f env whole = whole := by
 unfold attributeBase
 split
 ·rename_i id p pos
  have : (id == ("super" : Str)) = false := by
   have h' : (!(id == ("super" : Str))) = true := h
   simpa using h'
  have e2 : (id != "super") = true := by
   show (!(id == "super")) = true
   rw [this]
   rfl
  rw [e2]
  simp
 ·rfl
variable {o : Expr} {do' : DE} {es : List Expr} {r : DA} {m : Str} {apos cpos : Pos}
theorem af2 {bs : List BM} (hb : ∀ b ∈ bs, BMOk X m b) (ho : QE X o do') (h1 : C1 o = true) (h4 : (apos.endLine == cpos.line) = true) :
  QE X (.Call (.Attribute o m apos) [] [] cpos) (dMt (rMt X.K bs) do' dNil) := by
 intro Ex mt pins s σ H Q I h
 refine wpAny_Call_method0_late (Dl h1 m X.env _) h4 (thn (ho Ex mt pins s σ H _ I h) fun v s1 ⟨x, H1, I1, r1, q1⟩ => ?_)
 obtain ⟨b, hbm, ty, q⟩ := Lo q1
 obtain ⟨k1, k2⟩ := Wj I1 r1 ty
 have B := hb b hbm
 exact ⟨b.T, b.id, B.pa, B.slot, B.ty, k1, k2, Calls.callWith_builtin rfl (PySem.evalArgs_none (B.mt pins s1 σ H1 x [] v [] Q I1 r1 .nil q))⟩
theorem aq0 {bs : List BM} {e : Expr} (hb : ∀ b ∈ bs, BMOk X m b) (ho : QE X o do') (ha : QA X (e :: es) r) (h1 : C1 o = true) (h2 : (e :: es).all noStar = true) (h3 : (e :: es).length < 30) (h4 : (apos.endLine == cpos.line) = true) :
  QE X (.Call (.Attribute o m apos) (e :: es) [] cpos) (dMt (rMt X.K bs) do' r) := by
 intro Ex mt pins s σ H Q I h
 have hs := List.all_cons ▸ h2
 rw [Bool.and_eq_true] at hs
 have hfew : ((backTo cpos (starEach (e :: es) X.env)).all (fun x => !x.1) && (backToKw cpos (keywordEach [] X.env)).all (fun x => x.1.isSome)
   && decide ((e :: es).length + ([] : List Keyword).length + (if ([] : List Keyword).isEmpty then 0 else 1) < 30)) = true := by
  rw [Gi h2]
  have : decide ((e :: es).length + ([] : List Keyword).length + (if ([] : List Keyword).isEmpty then 0 else 1) < 30) = true := by
   rw [decide_eq_true_iff]
   simpa using h3
  rw [this]
  rfl
 refine wpAny_Call_method_late (Dl h1 m X.env _) hfew h4 rfl (thn (ho Ex mt pins s σ H _ I h) fun v s1 ⟨x, H1, I1, r1, q1⟩ => ?_)
 obtain ⟨b, hbm, ty, q⟩ := Lo q1
 obtain ⟨k1, k2⟩ := Wj I1 r1 ty
 have B := hb b hbm
 refine ⟨b.T, b.id, B.pa, B.slot, B.ty, k1, k2, ?_⟩
 have hA := ha Ex mt cpos pins s1 σ H1 _ I1 q
 rw [Av hs.1] at hA ⊢
 refine Calls.callWith_builtin (by show (false || (backTo cpos (starEach es X.env)).any (·.1)) = false; rw [A8 hs.2] <;> rfl) (Calls.evalArgs_plain ?_)
 exact thn hA fun us s2 ⟨vs, H2, I2, r2, q2⟩ => B.mt pins s2 σ H2 x vs v us Q I2 r1 r2 q2
variable {x : Str} {p pos : Pos} {G : Sg}
theorem ae7 {f : BF} {rf : RF} {e : Expr} (hc : Bt X f.val rf) (hg : Gl X x) (hm : X.mg x = none) (hv : bootBuiltins x = some f.val) (ha : QA X (e :: es) r) (hs : (e :: es).all noStar = true) (hn : x ≠ "__name__") (hdb : (x == ("__debug__" : Str)) = false) :
  QE X (.Call (.Name x p) (e :: es) [] pos) (dFn (fun vs H Q _ => rf vs H Q) r) := by
 intro Ex mt
 have h := List.all_cons ▸ hs
 rw [Bool.and_eq_true] at h
 cases f with
 | bf id => exact U1 hc hg hm hv (ha Ex mt) hn hdb (Av h.1 es X.env) (A8 h.2 X.env pos)
 | ty T => exact Rz hc hg hm hv (ha Ex mt) hn hdb (Av h.1 es X.env) (A8 h.2 X.env pos)
def spE (sp : Sp) (dvs : List V) : List V -> Hp -> VK -> EK -> Prop := fun vs H Q E => sp (vs ++ dvs) H Q (fun v _ H' => ∃ a, v = .ref a /\ E a H')
theorem G1 {i : FI} (F : FIOk X i) {j : Nat} (hj : j <= i.dfs.length) {Ex : St -> EK} (mt : B3 X Ex) {pins : List (Addr × Obj)} {σ : St} {H : Hp} {s : Shared} {Q : VK} {us : List Value} {vs : List V}
  (I : Inv X pins σ H s) (r : Vals vs us) (h : spE i.sp (i.dfs.drop j) vs H Q (Ex σ)) : wpAny (model X.prog X.w) X.A (call (.ref i.f) us) (EP X pins σ Q) X.xe s := by
 obtain ⟨CX, hx, FO⟩ := F.ok
 have r2 : Vals (vs ++ i.dfs.drop j) (us ++ i.ds.drop j) := r.append (F.vals.drop j)
 have hl : (us ++ i.ds.drop j).length = i.ps.length := by rw [<- r2.length]; exact FO.len _ _ _ _ h
 refine wpAny_call (codeAny_mono (FO.run X.A X.stack s H ⟨us, []⟩ (us ++ i.ds.drop j) (vs ++ i.dfs.drop j) Q _ F.room I.env0 (F.binds j hj s us I.kIn hl) r2 h) fun r s' hq => ?_)
 cases r with
 | error e => exact hx X rfl rfl Ex mt pins σ H s e s' I hq
 | ok fl =>
  cases fl with
  | ret u => exact I.after hq
  | next => exact False.elim hq
  | brk => exact False.elim hq
  | cont => exact False.elim hq
theorem Ve {i : FI} (F : FIOk X i) {j : Nat} (hj : j <= i.dfs.length) (hg : Gl X x) (hm : X.mg x = some (.ref i.f)) (hdb : (x == ("__debug__" : Str)) = false) :
  QE X (.Call (.Name x p) [] [] pos) (dFn (spE i.sp (i.dfs.drop j)) dNil) := by
 intro Ex mt pins s σ H Q I h
 refine wpAny_Call_Name_kw (Cy I hg hm ?_ hdb)
 exact PySem.W.callWith_K0 I.kIn F.kp (G1 (us := []) F hj mt I .nil h)
theorem Yc {i : FI} {e : Expr} (F : FIOk X i) {j : Nat} (hj : j <= i.dfs.length) (hg : Gl X x) (hm : X.mg x = some (.ref i.f)) (ha : QA X (e :: es) r) (hs : (e :: es).all noStar = true) (hdb : (x == ("__debug__" : Str)) = false) :
  QE X (.Call (.Name x p) (e :: es) [] pos) (dFn (spE i.sp (i.dfs.drop j)) r) := by
 intro Ex mt pins s σ H Q I h
 have h2 := List.all_cons ▸ hs
 rw [Bool.and_eq_true] at h2
 refine wpAny_Call_Name_kw (Cy I hg hm ?_ hdb)
 refine PySem.W.callWith_K (h₀ := X.base) I.ok.mod.kin F.kp (thn (ha Ex mt pos pins s σ H _ I h) fun us s1 ⟨vs, H1, I1, r, q⟩ => ⟨I1.kIn, ?_⟩) (Av h2.1 es X.env) (A8 h2.2 X.env pos)
 exact G1 F hj mt I1 r q
def mkX (C : Addr) : Option FI -> Nat -> List V -> Hp -> VK -> EK -> Prop
 | none, _ => fun _ H Q _ => ∀ a, H a = none -> Q (.ref a) (upd H a (excO a C none))
 | some i, j => fun _ _ _ _ => False
theorem Qh {C : Addr} {oi : Option FI} {j : Nat} (c : ECls X.K C) (hi : Kv X C oi) (hj : ∀ i, oi = some i -> j <= i.dfs.length) {Ex : St -> EK} (mt : B3 X Ex) {pins : List (Addr × Obj)} {σ : St} {H : Hp} {s : Shared} {Q : VK} {us : List Value} {vs : List V}
  (I : Inv X pins σ H s) (rv : Vals vs us) (hl : vs.length <= 1000) (h : mkX C oi j vs H Q (Ex σ)) : wpAny (model X.prog X.w) X.A (call (.ref C) us) (EP X pins σ Q) X.xe s := by
 cases oi with
 | none => exact Ot c hi I rv hl h
 | some i =>
  exact (show False from h).elim
theorem Qb {C : Addr} {oi : Option FI} {j : Nat} (c : ECls X.K C) (hi : Kv X C oi) (hj : ∀ i, oi = some i -> j <= i.dfs.length) (kp : PySem.W.keepIn X.K (.ref C) = true) (hg : Gl X x) (hm : X.mg x = some (.ref C)) (hdb : (x == ("__debug__" : Str)) = false) :
  QE X (.Call (.Name x p) [] [] pos) (dFn (mkX C oi j) dNil) := by
 intro Ex mt pins s σ H Q I h
 refine wpAny_Call_Name_kw (Cy I hg hm ?_ hdb)
 exact PySem.W.callWith_K0 I.kIn kp (Qh (us := []) c hi hj mt I .nil (by simp) h)
theorem Vj {C : Addr} {oi : Option FI} {j : Nat} {e : Expr} (c : ECls X.K C) (hi : Kv X C oi) (hj : ∀ i, oi = some i -> j <= i.dfs.length) (kp : PySem.W.keepIn X.K (.ref C) = true) (hg : Gl X x) (hm : X.mg x = some (.ref C)) (ha : QA X (e :: es) r) (hs : (e :: es).all noStar = true) (hdb : (x == ("__debug__" : Str)) = false) :
  QE X (.Call (.Name x p) (e :: es) [] pos) (dFn (fun vs H Q E => vs.length <= 1000 /\ mkX C oi j vs H Q E) r) := by
 intro Ex mt pins s σ H Q I h
 have h2 := List.all_cons ▸ hs
 rw [Bool.and_eq_true] at h2
 refine wpAny_Call_Name_kw (Cy I hg hm ?_ hdb)
 refine PySem.W.callWith_K (h₀ := X.base) I.ok.mod.kin kp (thn (ha Ex mt pos pins s σ H _ I h) fun us s1 ⟨vs, H1, I1, r, q⟩ => ⟨I1.kIn, ?_⟩) (Av h2.1 es X.env) (A8 h2.2 X.env pos)
 exact Qh c hi hj mt I1 r q.1 q.2
def mkC (C : Addr) : Option FI -> Nat -> List V -> Hp -> VK -> EK -> Prop
 | none, _ => fun vs H Q _ => vs = [] /\ ∀ a dx, H a = none -> H dx = none -> dx ≠ a -> Q (.ref a) (upd (upd H dx (.own a)) a (.ins C dx []))
 | some i, j => fun vs H Q E => ∀ a dx, H a = none -> H dx = none -> dx ≠ a ->
   i.sp (.ref a :: (vs ++ i.dfs.drop j)) (upd (upd H dx (.own a)) a (.ins C dx [])) (fun v H2 => v = .non /\ Q (.ref a) H2) (fun v _ H' => ∃ b, v = .ref b /\ E b H')
theorem Sc {C : Addr} (h1 : PySem.W.makesIn X.K C = true) (h2 : PySem.W.findIn X.K (.ref C) "__init__" = some (some (.builtin "object.__init__"))) {pins : List (Addr × Obj)} {σ : St} {H : Hp} {s : Shared} {Q : VK}
  (I : Inv X pins σ H s) (h : ∀ a dx, H a = none -> H dx = none -> dx ≠ a -> Q (.ref a) (upd (upd H dx (.own a)) a (.ins C dx []))) : wpAny (model X.prog X.w) X.A (call (.ref C) []) (EP X pins σ Q) X.xe s := by
 have hq := h (s.heap.objs.size + 1) s.heap.objs.size (I.hok.fresh (Nat.le_succ _)) (I.hok.fresh (Nat.le_refl _)) (Nat.ne_of_lt (Nat.lt_succ_self _))
 have I2 := Inv.made (C := C) I
 have e2 : ((s.heap.push PySem.W.emptyDict).push (PySem.W.instObj C s.heap.objs.size)).get? (s.heap.objs.size + 1) = some (PySem.W.instObj C s.heap.objs.size) := by
  have z := Heap.get?_push_size (s.heap.push PySem.W.emptyDict) (o := PySem.W.instObj C s.heap.objs.size) rfl
  rwa [Heap.size_push] at z
 refine wpAny_call (Rn I.kIn h1 h2 (fun self => .of_pure (PySem.W.oi_bind self)) ?_)
 have ty : PySem.W.Looks (model X.prog X.w) ((s.heap.push PySem.W.emptyDict).push (PySem.W.instObj C s.heap.objs.size)) (typeOf (.ref (s.heap.objs.size + 1))) (.ref C) := (PySem.W.Looks.ld e2).andThen .now
 have io : PySem.W.Looks (model X.prog X.w) ((s.heap.push PySem.W.emptyDict).push (PySem.W.instObj C s.heap.objs.size)) (isInstance (.ref (s.heap.objs.size + 1)) (.type "object")) true :=
  ty.andThen ((PySem.W.makes_of (M := model X.prog X.w) I.kIn h1).top.keeps fun b o e => Heap.get?_push_of_some _ (Heap.get?_push_of_some _ e))
 refine codeAny_call_builtin PySem.W.oi_plain PySem.W.entry_oi (PySem.W.check_slot (s := { s with heap := (s.heap.push PySem.W.emptyDict).push (PySem.W.instObj C s.heap.objs.size) }) (i := "object.__init__") (owner := "object") (self := .ref (s.heap.objs.size + 1)) PySem.W.oi_kind PySem.W.oi_split io (PySem.W.oi_args _) ?_)
 rw [PySem.W.oi_run]
 exact wpAny_pure ⟨rfl, ⟨.ref _, _, I2, rfl, hq⟩⟩
theorem Ys {C f : Addr} {CX : CXT} {k : Nat} {fd : FuncData} {ps : List Str} {sp : Sp} {ds : List Value} {dvs : List V} {E : XK} {pins : List (Addr × Obj)} {σ : St} {H : Hp} {s : Shared} {Q : VK} {us : List Value} {vs : List V}
  (M : Mk X.K C f) (F : FnOk X.prog X.w X.K X.mg X.base CX k f fd ps sp) (hr : Room (k + 1) X.A) (hb : Binds X.K fd ps ds) (hd : Vals dvs ds) (hx : ∀ H1 s1 e s', Inv X pins σ H1 s1 -> CX X.stack H1 s1 E e s' -> X.xe e s') (I : Inv X pins σ H s) (r : Vals vs us)
  (h : ∀ x dx, H x = none -> H dx = none -> dx ≠ x -> sp (.ref x :: (vs ++ dvs)) (upd (upd H dx (.own x)) x (.ins C dx [])) (fun v H2 => v = .non /\ Q (.ref x) H2) E) :
  wpAny (model X.prog X.w) X.A (call (.ref C) us) (EP X pins σ Q) X.xe s := by
 have hq := h (s.heap.objs.size + 1) s.heap.objs.size (I.hok.fresh (Nat.le_succ _)) (I.hok.fresh (Nat.le_refl _)) (Nat.ne_of_lt (Nat.lt_succ_self _))
 have I2 := Inv.made (C := C) I
 have r2 : Vals (V.ref (s.heap.objs.size + 1) :: (vs ++ dvs)) (Value.ref (s.heap.objs.size + 1) :: (us ++ ds)) := .cons rfl (r.append hd)
 have hl : (Value.ref (s.heap.objs.size + 1) :: us ++ ds).length = ps.length := by
  have e := r2.length
  rw [F.len _ _ _ _ hq] at e
  exact e.symm
 refine wpAny_call (Ul (f := f) I.kIn M.makes M.init (beq_iff_eq.mp M.fn) (codeAny_mono (F.run _ X.stack _ _ ⟨Value.ref (s.heap.objs.size + 1) :: us, []⟩ (Value.ref (s.heap.objs.size + 1) :: (us ++ ds)) _ _ E (hr.make C us [])
  (I2.env0.make C us []) (hb _ (Value.ref (s.heap.objs.size + 1) :: us) I2.kIn hl) r2 hq) fun r s' hq' => ?_))
 cases r with
 | error e => exact hx _ _ e s' I2 hq'
 | ok fl =>
  cases fl with
  | ret u =>
   obtain ⟨v, H', I3, rv, ev, q3⟩ := I2.after hq'
   subst ev
   exact ⟨rv, ⟨V.ref (s.heap.objs.size + 1), H', I3, rfl, q3⟩⟩
  | next => exact False.elim hq'
  | brk => exact False.elim hq'
  | cont => exact False.elim hq'
theorem Qg {C : Addr} {oi : Option FI} {j : Nat} (hi : MkOk X C oi) (hj : ∀ i, oi = some i -> j <= i.dfs.length) {Ex : St -> EK} (mt : B3 X Ex) {pins : List (Addr × Obj)} {σ : St} {H : Hp} {s : Shared} {Q : VK} {us : List Value} {vs : List V}
  (I : Inv X pins σ H s) (rv : Vals vs us) (kp : PySem.W.keepIn X.K (.ref C) = true) (h : mkC C oi j vs H Q (Ex σ)) : wpAny (model X.prog X.w) X.A (call (.ref C) us) (EP X pins σ Q) X.xe s := by
 cases oi with
 | none =>
  obtain ⟨rfl, h⟩ := h
  cases rv
  exact Sc hi.1 hi.2 I h
 | some i =>
  obtain ⟨h0, h1, h2, F, hr⟩ := hi
  obtain ⟨CX, hx, FO⟩ := F.ok
  exact Ys ⟨h0, h1, h2, kp⟩ FO hr (F.binds j (hj i rfl)) (F.vals.drop j) (fun H1 s1 e s' I1 q => hx X rfl rfl Ex mt pins σ H1 s1 e s' I1 q) I rv h
theorem Qa {C : Addr} {oi : Option FI} {j : Nat} (hi : MkOk X C oi) (hj : ∀ i, oi = some i -> j <= i.dfs.length) (kp : PySem.W.keepIn X.K (.ref C) = true) (hg : Gl X x) (hm : X.mg x = some (.ref C)) (hdb : (x == ("__debug__" : Str)) = false) :
  QE X (.Call (.Name x p) [] [] pos) (dFn (mkC C oi j) dNil) := by
 intro Ex mt pins s σ H Q I h
 refine wpAny_Call_Name_kw (Cy I hg hm ?_ hdb)
 exact PySem.W.callWith_K0 I.kIn kp (Qg (us := []) hi hj mt I .nil kp h)
theorem af1 {C : Addr} {oi : Option FI} {j : Nat} {e : Expr} (hi : MkOk X C oi) (hj : ∀ i, oi = some i -> j <= i.dfs.length) (kp : PySem.W.keepIn X.K (.ref C) = true) (hg : Gl X x) (hm : X.mg x = some (.ref C)) (ha : QA X (e :: es) r) (hs : (e :: es).all noStar = true) (hdb : (x == ("__debug__" : Str)) = false) :
  QE X (.Call (.Name x p) (e :: es) [] pos) (dFn (mkC C oi j) r) := by
 intro Ex mt pins s σ H Q I h
 have h2 := List.all_cons ▸ hs
 rw [Bool.and_eq_true] at h2
 refine wpAny_Call_Name_kw (Cy I hg hm ?_ hdb)
 refine PySem.W.callWith_K (h₀ := X.base) I.ok.mod.kin kp (thn (ha Ex mt pos pins s σ H _ I h) fun us s1 ⟨vs, H1, I1, r, q⟩ => ⟨I1.kIn, ?_⟩) (Av h2.1 es X.env) (A8 h2.2 X.env pos)
 exact Qg hi hj mt I1 r kp q
def dOwn (m : Str) (n : Nat) (l : List MI) (o : DE) (t : DA) : DE := fun σ H Q E => o σ H (fun x H1 => ∃ a dx fs mi, x = .ref a /\ mi ∈ l /\ H1 a = some (.ins mi.C dx fs) /\ fs.lookup m = none /\ (n + 1 <= mi.i.ps.length /\ mi.i.ps.length <= n + 1 + mi.i.dfs.length) /\
 t σ H1 (fun vs H2 => spE mi.i.sp (mi.i.dfs.drop (n + 1 + mi.i.dfs.length - mi.i.ps.length)) (.ref a :: vs) H2 Q E) E) E
theorem Mz {es : List Expr} {P : Value -> Shared -> Prop} {s : Shared} (h1 : C1 o = true) (h2 : es.all noStar = true) (h3 : es.length < 30) (h4 : (apos.endLine == cpos.line) = true)
  (h : wpAny (model X.prog X.w) X.A (eval o X.env) (fun ov s1 => ∀ pl, wpAny (model X.prog X.w) X.A (getMethod ov m pl) (fun fx s2 => wpAny (model X.prog X.w) X.A (callWith cpos fx.1 fx.2 (backTo cpos (starEach es X.env)) (backToKw cpos (keywordEach [] X.env))) P X.xe s2) X.xe s1) X.xe s) :
  wpAny (model X.prog X.w) X.A (eval (.Call (.Attribute o m apos) es [] cpos) X.env) P X.xe s := by
 have few : methodCallForm (es.length + ([] : List Keyword).length) (backTo cpos (starEach es X.env)) (backToKw cpos (keywordEach [] X.env)) = true := by
  unfold methodCallForm
  rw [Gi h2]
  simpa [backToKw, keywordEach] using h3
 rw [arm_eval_Call, Dl h1]
 refine wpAny_bind (thn h fun ov s1 h1 => wpAny_bind (wpAny_standAt ?_))
 unfold methodCall calleeOf
 rw [few, if_pos rfl]
 refine wpAny_bind (wpAny_holding (thn (h1 _) fun fx s2 h2 => ?_))
 have hp : methodCallPos true o X.env apos cpos = pure cpos := by unfold methodCallPos; rw [h4]; rfl
 rw [hp]
 exact wpAny_bind (wpAny_pure h2)
theorem Yi {l : List MI} (hl : ∀ mi ∈ l, Cls X.K mi.C /\ Meth X.K mi.C m mi.i.f /\ FIOk X mi.i) (ho : QE X o do') (h1 : C1 o = true) (h4 : (apos.endLine == cpos.line) = true) :
  QE X (.Call (.Attribute o m apos) [] [] cpos) (dOwn m 0 l do' dNil) := by
 intro Ex mt pins s σ H Q I h
 refine Mz (es := []) h1 rfl (by decide) h4 (thn (ho Ex mt pins s σ H _ I h) fun u s1 ⟨x, H1, I1, rx, a, dx, fs, mi, ex, hm, ea, hf, hn, q⟩ pl => ?_)
 subst ex
 obtain rfl : u = Value.ref a := rx
 obtain ⟨c, k, F⟩ := hl mi hm
 refine Hg I1 ea c k hf ?_
 exact PySem.W.callWith_K0 (first := [.ref a]) I1.kIn k.kp (G1 (us := [.ref a]) (vs := [.ref a]) F (by omega) mt I1 (.cons rfl .nil) q)
theorem af6 {l : List MI} {e : Expr} (hl : ∀ mi ∈ l, Cls X.K mi.C /\ Meth X.K mi.C m mi.i.f /\ FIOk X mi.i) (ho : QE X o do') (ha : QA X (e :: es) r) (h1 : C1 o = true) (h2 : (e :: es).all noStar = true) (h3 : (e :: es).length < 30) (h4 : (apos.endLine == cpos.line) = true) :
  QE X (.Call (.Attribute o m apos) (e :: es) [] cpos) (dOwn m (es.length + 1) l do' r) := by
 intro Ex mt pins s σ H Q I h
 refine Mz h1 h2 h3 h4 (thn (ho Ex mt pins s σ H _ I h) fun u s1 ⟨x, H1, I1, rx, a, dx, fs, mi, ex, hm, ea, hf, hn, q⟩ pl => ?_)
 subst ex
 obtain rfl : u = Value.ref a := rx
 obtain ⟨c, k, F⟩ := hl mi hm
 refine Hg I1 ea c k hf ?_
 have hs := List.all_cons ▸ h2
 rw [Bool.and_eq_true] at hs
 refine PySem.W.callWith_K (first := [.ref a]) (h₀ := X.base) I.ok.mod.kin k.kp (thn (ha Ex mt cpos pins s1 σ H1 _ I1 q) fun us s2 ⟨vs, H2, I2, r2, q2⟩ => ⟨I2.kIn, ?_⟩) (Av hs.1 es X.env) (A8 hs.2 X.env cpos)
 exact G1 (us := .ref a :: us) (vs := .ref a :: vs) F (by omega) mt I2 (.cons rfl r2) q2
def Ep : DE := fun _ H Q _ => ∀ p, H p = none -> Q (.ref p) (upd H p (.dK [])) \/ Q (.ref p) (upd H p (.dT []))
theorem Yf : QE X (.Dict [] [] pos) Ep := fun Ex mt pins s σ H Q I h => by
 have fr := I.hok.fresh (Nat.le_refl s.heap.objs.size)
 rcases h _ fr with q | q
 ·exact wpAny_Dict_empty ⟨.ref _, _, I.laid (a := s.heap.objs.size) (o := .dK []) (t' := s.toks) (fun _ _ q => Heap.get?_push_of_some _ q) (Nat.le_refl _) (Ml s.heap I.big), rfl, q⟩
 ·exact wpAny_Dict_empty ⟨.ref _, _, I.laid (a := s.heap.objs.size) (o := .dT []) (t' := s.toks) (fun _ _ q => Heap.get?_push_of_some _ q) (Nat.le_refl _) (Ts s.heap I.big), rfl, q⟩
def Nw : List (DE × DE) -> St -> Hp -> (List (V × V) -> Hp -> Prop) -> EK -> Prop
 | [], _, H, Q, _ => Q [] H
 | (k, v) :: r, σ, H, Q, E => k σ H (fun x H1 => v σ H1 (fun y H2 => Nw r σ H2 (fun ps H3 => Q ((x, y) :: ps) H3) E) E) E
def Tq (trs : List (DE × DE)) : DE := fun σ H Q E => ∀ p, H p = none -> Nw trs σ (upd H p (.dK [])) (fun ps H2 => H2 p = some (.dK []) /\ ∃ kvs : List (Key × V), ps = kvs.map (fun kv => (kV kv.1, kv.2)) /\ kvs.length <= 15 /\ Q (.ref p) (upd H2 p (.dK (Cr [] kvs)))) E
theorem U9 {w : Expr -> DE} (h : ∀ e, QE X e (w e)) {Ex : St -> EK} (mt : B3 X Ex) (pos : Pos) : ∀ (ks vs : List Expr), ks.length = vs.length -> PPs X pos (ks.map some) vs ((ks.zip vs).map fun p => ((fun σ H Q => w p.1 σ H Q (Ex σ)), fun σ H Q => w p.2 σ H Q (Ex σ)))
 | [], [], _ => Xz
 | k :: ks, v :: vs, hl => U8 (h k Ex mt) (h v Ex mt) (U9 h mt pos ks vs (by simpa using hl))
 | [], _ :: _, hl => by simp at hl
 | _ :: _, [], hl => by simp at hl
theorem Mi {Ex : St -> EK} {w : Expr -> DE} : ∀ (l : List (Expr × Expr)) (σ : St) (H : Hp) (Q : List (V × V) -> Hp -> Prop), Nw (l.map fun p => (w p.1, w p.2)) σ H Q (Ex σ) = Lw (l.map fun p => ((fun σ H Q => w p.1 σ H Q (Ex σ)), fun σ H Q => w p.2 σ H Q (Ex σ))) σ H Q
 | [], _, _, _ => rfl
 | (k, v) :: r, σ, H, Q => by
  show w k σ H _ _ = w k σ H _ _
  congr 1
  funext x H1
  congr 1
  funext y H2
  exact Mi r σ H2 _
theorem Ye {w : Expr -> DE} (h : ∀ e, QE X e (w e)) {ks vs : List Expr} (hl : ks.length = vs.length) (h0 : ks ≠ []) (h15 : ks.length <= 15) : QE X (.Dict (ks.map some) vs pos) (Tq ((ks.zip vs).map fun p => (w p.1, w p.2))) := by
 intro Ex mt pins s σ H Q I q
 refine Xv (U9 h mt pos ks vs hl) (by simp) (by simpa using hl) (by simpa using h0) (by simpa using h15) pins s σ H Q I ?_
 intro p hp
 have q := q p hp
 rw [Mi] at q
 exact q
theorem R6 {a : Expr} {da : DE} {p2 pos2 : Pos} (hc : X.calm = true) (hg : Gl X "len") (hm : X.mg "len" = none) (hg2 : Gl X "set") (hm2 : X.mg "set" = none) (ha : QE X a da) (hs : noStar a = true) :
  QE X (.Call (.Name "len" p) [.Call (.Name "set" p2) [a] [] pos2] [] pos) (dUn (G0 X.K) da) := by
 intro Ex mt pins s σ H Q I h
 refine wpAny_Call_Name_kw (Ev I hg hm PySem.boot_len (PyProof.Rows.callWith_builtin1 (Calls.spliced_cons ?_) rfl rfl) (by decide) (by decide))
 refine wpAny_Call_Name_kw (Ev I hg2 hm2 PyProof.Rows.boot_set (PyProof.Rows.callWith_type1 ?_ (Av hs [] X.env) rfl) (by decide) (by decide))
 rw [Av hs]
 show wpAny _ _ (spliced ((false, eval a X.env) :: backTo pos2 (starEach [] X.env))) _ _ s
 refine Calls.spliced_cons (thn (ha Ex mt pins s σ H _ I h) fun u s1 ⟨x, H1, I1, r1, q1⟩ => Calls.spliced_nil ?_)
 exact thn (Xi hc I1 r1 q1) fun v s2 q => Calls.spliced_nil q
end
def Itst (lo st : Int) (n : Nat) : It := ⟨fun i _ => i < n, fun i H x H' => H' = H /\ x = .int (lo + (i : Int) * st), fun i _ => n <= i⟩
theorem Sx {P : Program} {w : World} {K : PySem.W.Frag} {tg : Expr} (it : Addr) (lo st : Int) (n : Nat) : Turn P w K tg (Itst lo st n) [it] it (fun i h => IsRangeIter h it (lo + (i : Nat) * st) ((n : Int) - (i : Nat)) st) where
 mem := List.mem_singleton.mpr rfl
 obj := fun i h q b hb => by
  obtain rfl := List.mem_singleton.mp hb
  exact ⟨_, q, fun v z => by cases (show Data.fields _ = Data.cell v from z)⟩
 keep := fun i h h' q k => k it (List.mem_singleton.mpr rfl) _ q
 item := by
  intro X hP hw hK hc i pins s σ H E I hf q go
  subst hP hw hK
  obtain ⟨g0, g1, _, g3, g4, g5⟩ := hf it (List.mem_singleton.mpr rfl)
  refine (Walks.range (prog := X.prog) (w := X.w) (I.ok.hd hc) it lo st n).item i s _ _ go q fun v h' tk hv q' kk => ?_
  obtain ⟨t, rfl⟩ := hv
  have I1 : Inv X pins σ H { s with heap := h', toks := tk } := I.turned (fun b o nb e => kk b o (fun z => nb (List.mem_singleton.mp z)) e) g0 g1 g3 g4 g5
  exact ⟨_, rfl, J1 (s := { s with heap := h', toks := tk }) (n := "range_iterator") q' rfl rfl (by decide) ⟨.int (lo + (i : Int) * st), H, I1, ⟨t, rfl⟩, ⟨rfl, rfl⟩, q', fun b hb => (hf b hb).1⟩⟩
 done := by
  intro X hP hw hK hc i pins s σ H E I hf q go
  subst hP hw hK
  obtain ⟨g0, g1, _, g3, g4, g5⟩ := hf it (List.mem_singleton.mpr rfl)
  exact wpAny_pyNext_range_end (I.ok.hd hc) q (by have : n <= i := go; omega) fun h' eb => ⟨rfl, I.turned (t' := s.toks) (fun b o nb e => eb b o nb e) g0 g1 g3 g4 g5⟩
 self := fun _ _ _ _ _ q h => wpAny_pyIter_rangeiter q h
section
variable {X : Cx} {tg : Expr}
theorem Yw {pins : List (Addr × Obj)} {σ : St} {H : Hp} {s : Shared} {R : It -> Hp -> Prop} {E : Value -> Shared -> Prop} {lo hi st : Int} {t u v : Tok} {tk : Nat} (I : Inv X pins σ H s) (sm : Builtin.Range.small lo hi st = true)
  (q : R (Itst lo st (Builtin.Range.rangeSize lo hi st).toNat) H) : wpAny (model X.prog X.w) X.A (pyIter (.ref s.heap.objs.size)) (PIE X pins σ tg R) E { s with heap := s.heap.push { cls := .type "range", data := .fields #[.int lo t, .int hi u, .int st v] }, toks := tk } := by
 refine wpAny_pyIter_range (IsRange.new ..) sm ?_
 have I1 : Inv X pins σ H { s with heap := s.heap.push { cls := .type "range", data := .fields #[.int lo t, .int hi u, .int st v] }, toks := tk } := I.kept fun b o e => Heap.get?_push_of_some _ e
 generalize s.heap.push { cls := .type "range", data := .fields #[.int lo t, .int hi u, .int st v] } = h1 at I1 ⊢
 refine ⟨h1.objs.size, [h1.objs.size], _, _, H, rfl, I1.kept (t' := tk) fun b o e => Heap.get?_push_of_some _ e, Sx _ lo st (Builtin.Range.rangeSize lo hi st).toNat, ?_, fun b hb => ?_, q⟩
 ·have e : lo + ((0 : Nat) : Int) * st = lo := by rw [Int.natCast_zero, Int.zero_mul, Int.add_zero]
  have f : (((Builtin.Range.rangeSize lo hi st).toNat : Nat) : Int) - ((0 : Nat) : Int) = Builtin.Range.rangeSize lo hi st := by
   rw [<- rangeSize_toNat, Int.natCast_zero, Int.sub_zero]
  show IsRangeIter _ _ (lo + ((0 : Nat) : Int) * st) ((((Builtin.Range.rangeSize lo hi st).toNat : Nat) : Int) - ((0 : Nat) : Int)) st
  rw [e, f]
  exact Heap.get?_push_size _ rfl
 ·obtain rfl := List.mem_singleton.mp hb
  exact I1.fpOk (Nat.le_refl _) (I1.hok.fresh (Nat.le_refl _))
end
def QI (X : Cx) (tg e : Expr) (t : DI) : Prop := ∀ Ex, B3 X Ex -> PI X tg e (fun σ H R => t σ H R (Ex σ))
def iNo : DI := fun _ _ _ _ => False
def onD (p : Addr) (H : Hp) (R : Obj -> List (Key × V) -> Hp -> Prop) : Prop := (∃ kvs, H p = some (.dK kvs) /\ ∀ o, R o kvs (upd H p (.frz o (.dK kvs)))) \/ ∃ o kvs, H p = some (.frz o (.dK kvs)) /\ R o kvs H
theorem Uy {X : Cx} {pins : List (Addr × Obj)} {σ : St} {H : Hp} {s : Shared} {p : Addr} {R : Obj -> List (Key × V) -> Hp -> Prop} (I : Inv X pins σ H s) (h : onD p H R) : ∃ o kvs H', Inv X pins σ H' s /\ H' p = some (.frz o (.dK kvs)) /\ R o kvs H' := by
 rcases h with ⟨kvs, e, q⟩ | ⟨o, kvs, e, q⟩
 ·obtain ⟨o, ep, _, _, I'⟩ := I.froze e
  exact ⟨o, kvs, _, I', Ac, q o⟩
 ·exact ⟨o, kvs, H, I, e, q⟩
def iVal (K : PySem.W.Frag) (a : DE) : DI := fun σ H R E => a σ H (fun x H1 => match x with
 | .str z => R (Its z) H1
 | .ref p => ((∃ xs, SqL K H1 p xs) /\ R (Itl K p) H1) \/ ((∃ xs, SqT K H1 p xs) /\ R (Itt K p) H1) \/ onD p H1 fun o kvs H2 => R (Itd p o kvs) H2
 | _ => False) E
def iRng (t : DA) : DI := fun σ H R E => t σ H (fun vs H1 => match vs with
 | [.int j] => (-(2 ^ 62) <= j /\ j < 2 ^ 62) /\ R (Itr 0 j.toNat) H1
 | [.int i, .int j] => (-(2 ^ 62) <= i /\ i < 2 ^ 62 /\ -(2 ^ 62) <= j /\ j < 2 ^ 62) /\ R (Itr i (j - i).toNat) H1
 | [.int i, .int j, .int k] => (Builtin.Range.small i j k = true /\ 1 <= k /\ k <= 1000) /\ R (Itst i k (Builtin.Range.rangeSize i j k).toNat) H1
 | _ => False) E
def iEn (K : PySem.W.Frag) (t : DA) : DI := fun σ H R E => t σ H (fun vs H1 => match vs with
 | [.ref a] => ((∃ xs, SqL K H1 a xs) /\ R (Ite K a) H1) \/ onD a H1 fun o kvs H2 => R (Itde a o kvs) H2
 | _ => False) E
section
variable {X : Cx} {tg e a b : Expr} {da : DE} {r : DA} {p pos : Pos}
theorem Zn : QI X tg e iNo := fun _ _ _ _ _ _ _ _ h => h.elim
theorem af9 (ha : QE X e da) : QI X tg e (iVal X.K da) := by
 intro Ex mt pins s σ H R I h
 refine thn (ha Ex mt pins s σ H _ I h) fun v s1 ⟨x, H1, I1, r1, q1⟩ => ?_
 cases x with
 | str z =>
  obtain ⟨t, rfl⟩ := r1
  refine wpAny_pyIter_strU ?_
  refine ⟨s1.heap.objs.size, [s1.heap.objs.size], _, _, H1, rfl, I1.kept (t' := s1.toks) fun b o e => Heap.get?_push_of_some _ e, Wh s1.heap.objs.size z t (strIterType z) (by unfold strIterType; split <;> simp), ⟨_, Heap.get?_push_size _ rfl, rfl, rfl⟩, fun b hb => ?_, q1⟩
  have e : b = s1.heap.objs.size := by simpa using hb
  subst e
  exact I1.fpOk (Nat.le_refl _) (I1.hok.fresh (Nat.le_refl _))
 | ref a =>
  cases r1
  rcases q1 with ⟨⟨xs, hq⟩, q⟩ | ⟨⟨xs, hq⟩, q⟩ | q
  ·obtain ⟨its, rv, p, hz⟩ := I1.list hq
   refine wpAny_pyIter_list p.isList ?_
   refine ⟨s1.heap.objs.size, [s1.heap.objs.size], _, _, H1, rfl, I1.kept (t' := s1.toks) fun b o e => Heap.get?_push_of_some _ e, Sv a _, ⟨_, Heap.get?_push_size _ rfl, rfl, rfl⟩, fun b hb => ?_, q⟩
   have e : b = s1.heap.objs.size := by simpa using hb
   subst e
   exact I1.fpOk (Nat.le_refl _) (I1.hok.fresh (Nat.le_refl _))
  ·obtain ⟨its, rv, p, hz⟩ := I1.tuple hq
   refine wpAny_pyIter_tuple (show s1.heap.IsTuple a its.toArray from p) ?_
   refine ⟨s1.heap.objs.size, [s1.heap.objs.size], _, _, H1, rfl, I1.kept (t' := s1.toks) fun b o e => Heap.get?_push_of_some _ e, Pb a _, ⟨_, Heap.get?_push_size _ rfl, rfl, rfl⟩, fun b hb => ?_, q⟩
   have e : b = s1.heap.objs.size := by simpa using hb
   subst e
   exact I1.fpOk (Nat.le_refl _) (I1.hok.fresh (Nat.le_refl _))
  ·obtain ⟨o, kvs, H2, I2, e, q⟩ := Uy I1 q
   exact W5 I2 e q
 | _ => exact (show False from q1).elim
variable {es : List Expr}
theorem Vl (hg : Gl X "range") (hm : X.mg "range" = none) (ha : QA X (a :: es) r) (hs : (a :: es).all noStar = true) : QI X tg (.Call (.Name "range" p) (a :: es) [] pos) (iRng r) := by
 intro Ex mt pins s σ H R I h
 have h2 := List.all_cons ▸ hs
 rw [Bool.and_eq_true] at h2
 refine Call_ (Ev I hg hm boot_range (PyProof.Rows.callWith_type1 (thn (ha Ex mt pos pins s σ H _ I h) fun us s1 ⟨vs, H1, I1, r1, q1⟩ => ?_) (Av h2.1 es X.env) (A8 h2.2 X.env pos)))
 dsimp only at q1
 split at q1
 ·obtain ⟨⟨h1, h2⟩, q⟩ := q1
  obtain ⟨u, rfl, t, rfl⟩ := Fm r1
  exact call_range_1 (M7 I1 (by omega) (by omega) h1 h2 (by simpa using q))
 ·obtain ⟨⟨h1, h2, h3, h4⟩, q⟩ := q1
  obtain ⟨u, v, rfl, ⟨t, rfl⟩, ⟨t', rfl⟩⟩ := Wl r1
  exact call_range_2 (M7 I1 h1 h2 h3 h4 q)
 ·obtain ⟨⟨h1, h2, h3⟩, q⟩ := q1
  cases r1 with
  | cons ra rr => cases rr with
   | cons rb rr => cases rr with
    | cons rc rr =>
     cases rr
     obtain ⟨t, rfl⟩ := ra
     obtain ⟨t', rfl⟩ := rb
     obtain ⟨t2, rfl⟩ := rc
     exact call_range_3 (by omega) (Yw I1 h1 q) (.inl (PyProof.noPylong_small (by omega)))
 ·exact q1.elim
theorem Yj {elts : List Expr} {kt : Nat} {pt : Pos} (hg : Gl X "enumerate") (hm : X.mg "enumerate" = none) (ha : QA X (a :: es) r) (hs : (a :: es).all noStar = true) : QI X (.Tuple elts kt pt) (.Call (.Name "enumerate" p) (a :: es) [] pos) (iEn X.K r) := by
 intro Ex mt pins s σ H R I h
 have hh := List.all_cons ▸ hs
 rw [Bool.and_eq_true] at hh
 refine Call_ (Ev I hg hm boot_enumerate (PyProof.Rows.callWith_type1 (thn (ha Ex mt pos pins s σ H _ I h) fun us s1 ⟨vs, H1, I1, r1, q1⟩ => ?_) (Av hh.1 es X.env) (A8 hh.2 X.env pos)))
 dsimp only at q1
 split at q1
 ·rename_i l
  obtain ⟨u, rfl, ru⟩ := Fm r1
  cases ru
  rcases q1 with ⟨⟨xs, q1⟩, q⟩ | q
  case inr =>
   obtain ⟨o, kvs, H2, I2, e, q⟩ := Uy I1 q
   exact Tt I2 e q
  obtain ⟨its1, t1, p1, z1⟩ := I1.list q1
  refine call_enumerate_list p1.isList fun h' he hit hsz hk => ?_
  refine wpAny_pyIter_enum he ?_
  refine ⟨_, _, _, _, H1, rfl, I1.kept (t' := s1.toks) hk, Su (Nat.succ_ne_self _), ⟨⟨_, he⟩, hit⟩, fun b hb => ?_, q⟩
  have hb : b = s1.heap.objs.size + 1 \/ b = s1.heap.objs.size := by simpa using hb
  have le : s1.heap.objs.size <= b := by
   rcases hb with e | e
   ·rw [e]; exact Nat.le_add_right _ 1
   ·rw [e]; exact Nat.le_refl _
  exact I1.fpOk le (I1.hok.fresh le)
 ·exact q1.elim
def gNo : DG := fun _ _ _ _ => False
def gdS : List DG -> List V -> St -> Hp -> (St -> Hp -> Prop) -> Prop
 | [], [], σ, H, Q => Q σ H
 | g :: gs, v :: vs, σ, H, Q => g v σ H fun σ' H' => gdS gs vs σ' H' Q
 | _, _, _, _, _ => False
def gdT (K : PySem.W.Frag) (n : Nat) (gs : List DG) : DG := fun v σ H Q => match v with
 | .ref a => ∃ xs, SqT K H a xs /\ xs.length = n /\ gdS gs xs σ H Q
 | _ => False
theorem M1 : PG X tg gNo := fun _ _ _ _ _ _ _ _ _ h => h.elim
theorem ap5 : PGs X [] (gdS []) := by
 intro pins s σ H vs us Q I r h
 cases vs with
 | nil => exact Xx pins s σ H [] us Q I r ⟨rfl, h⟩
 | cons v vs => exact (show False from h).elim
theorem ap4 {g : DG} {gs : List DG} {ts : List Expr} (h1 : PG X tg g) (h2 : PGs X ts (gdS gs)) (hs : (assignEach (tg :: ts) X.env).map (·.2) = assign tg X.env :: (assignEach ts X.env).map (·.2)) : PGs X (tg :: ts) (gdS (g :: gs)) := by
 intro pins s σ H vs us Q I r h
 cases vs with
 | nil => exact (show False from h).elim
 | cons v vs => exact U3 h1 h2 hs pins s σ H (v :: vs) us Q I r ⟨v, vs, rfl, h⟩
theorem pg_T {ts : List Expr} {k n : Nat} {gs : List DG} (hc : X.calm = true) (h : PGs X ts (gdS gs)) (hn : (assignEach ts X.env).length = n) (hst : (assignEach ts X.env).findIdx? (·.1) = none) : PG X (.Tuple ts k pos) (gdT X.K n gs) := by
 intro pins s σ H v u Q I r hw
 cases v with
 | ref a => exact ad7 hc h hn hst pins s σ H _ u Q I r (let ⟨xs, h1, h2, h3⟩ := hw; ⟨a, xs, rfl, h1, h2, h3⟩)
 | _ => exact (show False from hw).elim
end
def B6 (cs : List (Str × Addr)) : List (Str × NameKind) -> List (Str × Addr) -> List (Str × Addr)
 | [], acc => acc
 | (n, k) :: r, acc => if k == .free then B6 cs r ((n, (cs.lookup n).getD 0) :: acc) else B6 cs r acc
theorem Jg {scope : Scope} {env : Env} (h : ∀ y ∈ scope.names, y.2 = .free -> ∃ c, env.cells.lookup y.1 = some c) : closureFor scope env = pure (B6 env.cells scope.names []) := by
 unfold closureFor
 generalize scope.names = names at h
 suffices ∀ acc, (forIn names acc fun (x : Str × NameKind) cs => do
   if (x.2 == .free) = true then do
    let c <- cellOf env x.1
    pure (ForInStep.yield ((x.1, c) :: cs))
   else pure (ForInStep.yield cs) : Sem (List (Str × Addr))) = pure (B6 env.cells names acc) by
  have := this []
  simp only [bind_pure]
  exact this
 induction names with
 | nil => intro acc; rfl
 | cons y r ih =>
  intro acc
  obtain ⟨n, k⟩ := y
  rw [List.forIn_cons]
  unfold B6
  by_cases e : (k == NameKind.free) = true
  ·obtain ⟨c, hc⟩ := h (n, k) (by simp) (eq_of_beq e)
   have ec : cellOf env n = pure c := by
    unfold cellOf
    rw [show env.cells.lookup n = some c from hc]
   simp only [e, if_true, ec, pure_bind]
   rw [ih (fun y hy => h y (List.mem_cons_of_mem _ hy))]
   rw [show env.cells.lookup n = some c from hc]
   rfl
  ·have e' : (k == NameKind.free) = false := by simpa using e
   simp only [e', Bool.false_eq_true, if_false, pure_bind]
   rw [ih (fun y hy => h y (List.mem_cons_of_mem _ hy))]
theorem Fp {cs : List (Str × Addr)} : ∀ {names : List (Str × NameKind)} {acc : List (Str × Addr)} {p : Str × Addr}, p ∈ B6 cs names acc -> p ∈ acc \/ ((p.1, NameKind.free) ∈ names /\ p.2 = (cs.lookup p.1).getD 0)
 | [], _, _, h => .inl h
 | (n, k) :: r, acc, p, h => by
  unfold B6 at h
  by_cases e : (k == NameKind.free) = true
  ·rw [if_pos e] at h
   rcases Fp h with h | ⟨h1, h2⟩
   ·rcases List.mem_cons.mp h with h | h
    ·subst h
     exact .inr ⟨by rw [eq_of_beq e]; simp, rfl⟩
    ·exact .inl h
   ·exact .inr ⟨List.mem_cons_of_mem _ h1, h2⟩
  ·rw [if_neg e] at h
   rcases Fp h with h | ⟨h1, h2⟩
   ·exact .inl h
   ·exact .inr ⟨List.mem_cons_of_mem _ h1, h2⟩
theorem Fo {cs : List (Str × Addr)} : ∀ {names : List (Str × NameKind)} {acc : List (Str × Addr)} {p : Str × Addr}, p ∈ acc -> p ∈ B6 cs names acc
 | [], _, _, h => h
 | (n, k) :: r, acc, p, h => by
  unfold B6
  split
  ·exact Fo (List.mem_cons_of_mem _ h)
  ·exact Fo h
theorem Jr {cs : List (Str × Addr)} : ∀ {names : List (Str × NameKind)} {acc : List (Str × Addr)} {n : Str}, (n, NameKind.free) ∈ names -> n ∈ (B6 cs names acc).map (·.1)
 | [], _, _, h => by cases h
 | (m, k) :: r, acc, n, h => by
  unfold B6
  rcases List.mem_cons.mp h with e | h
  ·cases e
   rw [if_pos (show (NameKind.free == NameKind.free) = true from rfl)]
   exact List.mem_map.mpr ⟨_, Fo (List.mem_cons_self), rfl⟩
  ·split <;> exact Jr h
def relN (sc : List (Str × NameKind)) (names : List (Str × NameKind)) : List (Str × NameKind) := names.map fun (n, k) => if (k == .free && sc.lookup n == some .cell) then (n, .cell) else (n, k)
def locN (names : List (Str × NameKind)) : List Str := (names.filter fun y => (y.2 == .local) && !(y.1 == (".0" : Str))).map (·.1)
def freN (names : List (Str × NameKind)) : List Str := (names.filter fun y => y.2 == .free).map (·.1)
def cfV (o : Option NameKind) : Bool := o == some .cell || o == some .free
def B7 (G : Sg) (names : List (Str × NameKind)) : Sg := { G with N := locN names ++ freN names, sc := relN G.sc names, top := false }
def Eg (G : Sg) (names : List (Str × NameKind)) : List (Option Nat) := (locN names).map (fun _ => none) ++ (freN names).map (fun x => B1 G.N x 0)
def Dy (G : Sg) (sc : Scope) : Bool :=
 (sc.names.all fun y => !(y.2 == .cell)) && (sc.names.all fun y => !(y.2 == .local) || (sc.names.lookup y.1 == some .local)) && (sc.kind == .function) &&
 decide (locN sc.names ++ freN sc.names).Nodup && ((freN sc.names).all fun x => (B1 G.N x 0).isSome && cfV (G.sc.lookup x) && cfV ((relN G.sc sc.names).lookup x)) &&
 ((locN sc.names).all fun x => (relN G.sc sc.names).lookup x == some .local)
section
variable {X : Cx} {G : Sg} {sc : Scope}
theorem E6 {o : Option NameKind} (h : cfV o = true) : o = some .cell \/ o = some .free := by
 unfold cfV at h
 rw [Bool.or_eq_true] at h
 exact h.elim (fun e => .inl (eq_of_beq e)) fun e => .inr (eq_of_beq e)
theorem Ey (O : GOk X G) : (relabel sc X.env).names = relN G.sc sc.names := by
 unfold relabel relN
 apply List.map_congr_left
 rintro ⟨n, k⟩ _
 have e : X.env.kindOf n = G.sc.lookup n := O.sc n
 dsimp only
 rw [e, O.kind]
 simp
theorem K3 (O : GOk X G) (h : Dy G sc = true) : G6 X (B7 G sc.names).N (Eg G sc.names) sc (B6 X.env.cells sc.names []) := by
 unfold Dy at h
 simp only [Bool.and_eq_true, List.all_eq_true, Bool.not_eq_true', decide_eq_true_eq, Bool.or_eq_true] at h
 obtain ⟨⟨⟨⟨⟨h1, h2⟩, h3⟩, h4⟩, h5⟩, h6⟩ := h
 have fr : ∀ y ∈ sc.names, y.2 = .free -> ∃ c, X.env.cells.lookup y.1 = some c := fun y hy hf => by
  refine O.cel y.1 ?_
  rw [O.sc]
  refine E6 (h5 y.1 ?_).1.2
  exact List.mem_map.mpr ⟨y, List.mem_filter.mpr ⟨hy, by rw [hf]; rfl⟩, rfl⟩
 have nc : ∀ y ∈ sc.names, y.2 ≠ .cell := fun y hy e => by
  have := h1 y hy
  rw [e] at this
  cases this
 refine ⟨Jg fr, nc, eq_of_beq h3, fun y hy hl => ?_, fun x c hx => ?_, fun x hx => ?_, ?_, fun k j x e1 e2 => ?_⟩
 ·rcases h2 y hy with z | z
  ·rw [hl] at z; cases z
  ·exact eq_of_beq z
 ·have hm := PySem.mem_of_lookup hx
  rcases Fp hm with z | ⟨z1, z2⟩
  ·cases z
  ·obtain ⟨c', hc'⟩ := fr _ z1 rfl
   have z2' : c = (X.env.cells.lookup x).getD 0 := z2
   rw [show X.env.cells.lookup x = some c' from hc'] at z2' ⊢
   rw [z2']
   rfl
 ·have hn : (relabel sc X.env).names = relN G.sc sc.names := Ey O
  have key : ∀ kd, (relabel sc X.env).names.lookup x = some kd -> cfV (some kd) = true -> ∃ c, (B6 X.env.cells sc.names []).lookup x = some c := fun kd hkd hc => by
   rw [hn] at hkd
   have hm := PySem.mem_of_lookup hkd
   unfold relN at hm
   obtain ⟨⟨n, k⟩, hy, e⟩ := List.mem_map.mp hm
   dsimp only at e
   have hfree : k = .free /\ n = x := by
    have hkc := nc _ hy
    by_cases e1 : (k == NameKind.free && G.sc.lookup n == some .cell) = true
    ·rw [if_pos e1] at e
     rw [Bool.and_eq_true] at e1
     exact ⟨eq_of_beq e1.1, congrArg Prod.fst e⟩
    ·rw [if_neg e1] at e
     cases e
     rcases E6 hc with z | z
     ·exact absurd (Option.some.inj z) hkc
     ·exact ⟨Option.some.inj z, rfl⟩
   obtain ⟨rfl, rfl⟩ := hfree
   exact Um (Jr hy)
  rcases hx with hx | hx
  ·exact key _ hx rfl
  ·exact key _ hx rfl
 ·unfold Eg B7
  simp
 ·have e1' : (locN sc.names ++ freN sc.names)[k]? = some x := e1
  have e2' : ((locN sc.names).map (fun _ => (none : Option Nat)) ++ (freN sc.names).map (fun x => B1 G.N x 0))[k]? = some (some j) := e2
  by_cases hlt : k < (locN sc.names).length
  ·rw [List.getElem?_append_left (by simpa using hlt), List.getElem?_map] at e2'
   cases q : (locN sc.names)[k]? with
   | none => rw [q] at e2'; cases e2'
   | some z => rw [q] at e2'; cases e2'
  ·rw [List.getElem?_append_right (by simpa using hlt)] at e1' 
   rw [List.getElem?_append_right (by simpa using hlt), List.length_map, List.getElem?_map, e1'] at e2'
   have hs : B1 G.N x 0 = some j := Option.some.inj e2'
   have hx : x ∈ freN sc.names := List.mem_of_getElem? e1'
   obtain ⟨⟨_, c1⟩, c2⟩ := h5 x hx
   refine ⟨by rw [O.N]; exact Da hs, ?_, ?_⟩
   ·rw [O.sc]; exact E6 c1
   ·rw [Ey O]; exact E6 c2
theorem Pq (O : GOk X G) (h : Dy G sc = true) (fp : List Addr) (C : Addr) (s : Shared) (H : Hp) (xe : Value -> Shared -> Prop) :
  GOk (X.comp (B7 G sc.names).N sc (B6 X.env.cells sc.names []) fp C s H xe) (B7 G sc.names) := by
 have S := K3 O h
 unfold Dy at h
 simp only [Bool.and_eq_true, List.all_eq_true, Bool.not_eq_true', decide_eq_true_eq, Bool.or_eq_true] at h
 obtain ⟨⟨⟨⟨⟨h1, h2⟩, h3⟩, h4⟩, h5⟩, h6⟩ := h
 have hn : (relabel sc X.env).names = relN G.sc sc.names := Ey O
 refine ⟨O.K, eq_of_beq h3, (fun z => by cases z), rfl, h4, fun x => ?_, fun x hx => ?_, fun z => (by cases z), O.calm, O.hd, O.units, fun x hx => S.has x hx, fun x i e => ?_, O.val, O.bl, fun x C oi e => ?_, fun x C oi e => ?_, fun m l e mi hm => ?_, fun z => (by cases z), O.fr⟩
 ·show (relabel sc X.env).names.lookup x = _
  rw [hn]
  rfl
 ·show Vis (relabel sc X.env) x
  unfold Vis
  rw [hn]
  rcases List.mem_append.mp hx with q | q
  ·exact .inl (eq_of_beq (h6 x q))
  ·exact .inr (E6 (h5 x q).2)
 ·obtain ⟨m, F⟩ := O.fn x i e
  obtain ⟨CX, p, f⟩ := F.ok
  exact ⟨m, ⟨F.kp, ⟨CX, p, f⟩, F.room, F.binds, F.vals⟩⟩
 ·obtain ⟨m, k, c, i0⟩ := O.exc x C oi e
  refine ⟨m, k, c, ?_⟩
  cases oi with
  | none => exact i0
  | some i => obtain ⟨a1, a2, F, r⟩ := i0; obtain ⟨CX, p, f⟩ := F.ok; exact ⟨a1, a2, ⟨F.kp, ⟨CX, p, f⟩, F.room, F.binds, F.vals⟩, r⟩
 ·obtain ⟨m, k, i0⟩ := O.cls x C oi e
  refine ⟨m, k, ?_⟩
  cases oi with
  | none => exact i0
  | some i =>
   obtain ⟨a, b, c, F, r⟩ := i0
   obtain ⟨CX, p, f⟩ := F.ok
   exact ⟨a, b, c, ⟨F.kp, ⟨CX, p, f⟩, F.room, F.binds, F.vals⟩, r⟩
 ·obtain ⟨a, b, F⟩ := O.met m l e mi hm
  obtain ⟨CX, p, f⟩ := F.ok
  exact ⟨a, b, ⟨F.kp, ⟨CX, p, f⟩, F.room, F.binds, F.vals⟩⟩
end
def Ci : St -> Hp -> (Option Int -> Hp -> Prop) -> EK -> Prop := fun _ H Q _ => Q none H
def Dr (a : DE) : St -> Hp -> (Option Int -> Hp -> Prop) -> EK -> Prop := fun σ H Q E => a σ H (fun x H1 => match x with
 | .int i => Q (some i) H1
 | _ => False) E
abbrev DO := St -> Hp -> (Option Int -> Hp -> Prop) -> EK -> Prop
def rSlD (K : PySem.W.Frag) : V -> Option Int -> Option Int -> Hp -> VK -> Prop := fun x lo hi H Q => match x with
 | .str z => z.length <= sizeLine /\ Q (.str (Txt.slice z lo hi)) H
 | .ref a => (∃ xs, SqL K H a xs /\ ∀ p, H p = none -> Q (.ref p) (upd H p (.lst (cutV xs lo hi)))) \/
   (∃ xs, SqT K H a xs /\ ¬ (HT.sIx xs.length 0 lo = 0 /\ HT.sIx xs.length xs.length hi = xs.length) /\ ∀ p, H p = none -> Q (.ref p) (upd H p (.tup (cutV xs lo hi))))
 | _ => False
def dSl (K : PySem.W.Frag) (a : DE) (l h : DO) : DE := fun σ H Q E => a σ H (fun x H1 => l σ H1 (fun lo H2 => h σ H2 (fun hi H3 => rSlD K x lo hi H3 Q) E) E) E
def QO (X : Cx) (e : Option Expr) (t : DO) : Prop := ∀ Ex, B3 X Ex -> PO X e (fun σ H Q => t σ H Q (Ex σ))
section
variable {X : Cx} {G : Sg} {e : Expr} {de : DE} {lo hi : Option Expr} {dl dh : DO} {pos p2 : Pos}
theorem Qc : QO X none Ci := fun _ _ => Xy
theorem Qd (h : QE X e de) : QO X (some e) (Dr de) := by
 intro Ex m pins s σ H Q I hw
 rw [evalPart_some]
 refine thn (h Ex m pins s σ H _ I hw) fun u s1 ⟨x, H1, I1, r1, q1⟩ => ?_
 cases x with
 | int i => obtain ⟨t, rfl⟩ := r1; exact ⟨some i, H1, I1, .int i t, q1⟩
 | _ => exact (show False from q1).elim
theorem Le (e : Expr) (z : Str) (t : Tok) (r : Value) : letTemporaryGo e (.str z t) r = pure () := by
 cases e <;> rfl
theorem Vk (he : QE X e de) (hl : QO X lo dl) (hh : QO X hi dh) : QE X (.Subscript e (.Slice lo hi none p2) pos) (dSl X.K de dl dh) := by
 intro Ex m pins s σ H Q I h
 refine Subscript_ (thn (he Ex m pins s σ H _ I h) fun v s1 ⟨x, H1, I1, r1, q1⟩ => ?_)
 refine wpAny_Slice (thn (hl Ex m pins s1 σ H1 _ I1 q1) fun vl s2 ⟨l, H2, I2, pl, q2⟩ => thn (hh Ex m pins s2 σ H2 _ I2 q2) fun vu s3 ⟨u, H3, I3, pu, q3⟩ => ?_)
 rw [evalPart_none]
 refine wpAny_pure ?_
 show wpAny (model X.prog X.w) X.A (subscriptTail e (.Slice lo hi none p2) v (.ref s3.heap.objs.size)) (EP X pins σ Q) X.xe { s3 with heap := s3.heap.push { cls := .type "slice", data := .fields #[vl, vu, .none] } }
 have I4 : Inv X pins σ H3 { s3 with heap := s3.heap.push { cls := .type "slice", data := .fields #[vl, vu, .none] } } := I3.kept (t' := s3.toks) fun b ob q => Heap.get?_push_of_some _ q
 have gen : ∀ r, SlR X r -> r x l u H3 Q -> wpAny (model X.prog X.w) X.A (subscriptTail e (.Slice lo hi none p2) v (.ref s3.heap.objs.size)) (EP X pins σ Q) X.xe { s3 with heap := s3.heap.push { cls := .type "slice", data := .fields #[vl, vu, .none] } } := fun r hr q => by
  obtain ⟨T, id, hT, ht, hg⟩ := hr pins _ σ H3 x v vl vu l u s3.heap.objs.size Q I4 r1 (Heap.IsSliceOf.new ..) pl pu q
  exact tail_any (ops := [.ref s3.heap.objs.size, v]) ht hT hg (by with_unfolding_all rfl)
 cases x with
 | str z =>
  obtain ⟨hz, q⟩ := q3
  obtain ⟨t, rfl⟩ := r1
  have hk : KeptH (fun h => Inv X pins σ H3 { s3 with heap := h }) := fun h ob J => J.kept (t' := s3.toks) fun b o eb => Heap.get?_push_of_some _ eb
  have fin : ∀ h' t' k, Inv X pins σ H3 { s3 with heap := h' } -> EP X pins σ Q (.str (Txt.slice z l u) t') { s3 with heap := h', toks := k } := fun h' t' k J => ⟨.str _, H3, J.tok k, ⟨_, rfl⟩, q⟩
  cases pl with
  | none =>
   cases pu with
   | none => exact tail_of_ItemOn (SBH.sliceItem_nn hk I3 fin hz) (by with_unfolding_all rfl) (Le e z t)
   | int j uj => exact tail_of_ItemOn (SBH.sliceItem_ns hk I3 fin hz) (by with_unfolding_all rfl) (Le e z t)
  | int i ui =>
   cases pu with
   | none => exact tail_of_ItemOn (SBH.sliceItem_sn hk I3 fin hz) (by with_unfolding_all rfl) (Le e z t)
   | int j uj => exact tail_of_ItemOn (SBH.sliceItem_ss hk I3 fin hz) (by with_unfolding_all rfl) (Le e z t)
 | ref a =>
  rcases q3 with ⟨xs, h1, h2⟩ | ⟨xs, h1, h2, h3⟩
  ·exact gen _ Yu ⟨a, xs, rfl, h1, h2⟩
  ·exact gen _ aj1 ⟨a, xs, rfl, h1, h2, h3⟩
 | _ => exact (show False from q3).elim
def Ht : Expr -> Bool
 | .Set _ _ _ => false
 | _ => true
theorem Hu {e : Expr} (h : Ht e = true) (env : Env) (x : Value) : foldedSetIterable e env x = pure x := by
 cases e with
 | Set _ _ _ => cases h
 | _ => rfl
theorem Fc : B3 X (fun _ _ _ => False) := fun _ _ _ _ _ _ _ h => h.elim
variable {tg iter elt : Expr} {ifs : List Expr} {sc : Scope} {wi : DI} {g : DG} {tc : DT}
def okSt (G : Sg) (x : Str) : Bool := (G.sc.lookup x == some .local) || (G.top && (G.sc.lookup x == some .cell))
def wG : Nat -> Sg -> Expr -> DG
 | 0, _, _ => gNo
 | n + 1, G, e => match e with
  | .Name x _ => match B1 G.N x 0 with
   | some i => if okSt G x = true then gdN i else gNo
   | none => gNo
  | .Tuple ts _ _ => if G.calm = true /\ ts.all noStar = true then gdT G.K ts.length (ts.map (wG n G)) else gNo
  | _ => gNo
theorem Lg (O : GOk X G) {x : Str} (h : okSt G x = true) : Loc X.env.scope x /\ (X.fn x = true \/ X.env.scope.names.lookup x = some .local) := by
 unfold okSt at h
 rw [Bool.or_eq_true, Bool.and_eq_true] at h
 rcases h with h | ⟨h1, h2⟩
 ·have : X.env.scope.names.lookup x = some .local := by rw [O.sc]; exact eq_of_beq h
  exact ⟨.inl this, .inr this⟩
 ·have : X.env.scope.names.lookup x = some .cell := by rw [O.sc]; exact eq_of_beq h2
  exact ⟨.inr this, .inl (O.top h1 x)⟩
theorem Dp {e : Expr} (h : noStar e = true) (es : List Expr) (env : Env) : assignEach (e :: es) env = (false, assign e env) :: assignEach es env := by
 cases e with
 | Starred _ _ => cases h
 | _ => rfl
theorem G9 {es : List Expr} (h : es.all noStar = true) (env : Env) : (assignEach es env).length = es.length /\ (assignEach es env).findIdx? (·.1) = none := by
 induction es with
 | nil => exact ⟨rfl, rfl⟩
 | cons e es ih =>
  rw [List.all_cons, Bool.and_eq_true] at h
  obtain ⟨h1, h2⟩ := ih h.2
  rw [Dp h.1]
  refine ⟨by rw [List.length_cons, List.length_cons, h1], ?_⟩
  rw [List.findIdx?_cons, h2]
  rfl
theorem Nl : ∀ (n : Nat) (X : Cx) (G : Sg), GOk X G -> ∀ e, PG X e (wG n G e)
 | 0, _, _, _, _ => M1
 | n + 1, X, G, O, e => by
  cases e with
  | Name x p =>
   unfold wG
   dsimp only
   split
   ·rename_i i e
    split
    ·rename_i h
     obtain ⟨h1, h2⟩ := Lg O h
     exact Xw (by rw [O.N]; exact O.nd) (by rw [O.N]; exact Da e) h1 h2
    ·exact M1
   ·exact M1
  | Tuple ts k p =>
   unfold wG
   dsimp only
   split
   ·rename_i h
    obtain ⟨h1, h2⟩ := h
    obtain ⟨h3, h4⟩ := G9 h2 X.env
    rw [<- O.K]
    refine pg_T (O.calm ▸ h1) ?_ h3 h4
    clear h3 h4
    induction ts with
    | nil => exact ap5
    | cons t ts ih =>
     rw [List.all_cons, Bool.and_eq_true] at h2
     refine ap4 (Nl n X G O t) (ih h2.2) ?_
     rw [Dp h2.1]
     rfl
   ·exact M1
  | _ => exact M1
end
end L2
namespace L2
open PySem PySem.Spec
structure Ph (l : List Addr) (e C : Addr) (dx : Option Addr) (h h' : Heap) : Prop where
 exc : ∃ (vs' : Array Value) (T : Addr) (oT : Obj) (ts' : Array Value), h'.get? e = some (At C dx vs') /\ vs'.size = 6 /\ vs'[1]? = some (.ref T) /\ h.objs.size <= T /\ T ≠ e /\ h'.get? T = some oT /\ oT.data = .fields ts' /\ 3 < ts'.size
 keep : ∀ b o, b ≠ e -> b ∉ l -> h.get? b = some o -> h'.get? b = some o
 slot : ∀ b o, b ≠ e -> h.get? b = some o -> ∃ sl, h'.get? b = some { o with slots := sl }
abbrev tbO (fs : Array Value) : Obj := { cls := .type "traceback", dict := none, data := .fields fs }
abbrev Hq (T : Addr) : Obj -> Obj := Obj.mapFields (·.setIfInBounds 1 (.ref T))
abbrev Gv (h : Heap) (e : Addr) (fs : Array Value) : Heap := (h.push (tbO fs)).update e (Hq h.objs.size)
section
variable {h : Heap} {e C : Addr} {dx : Option Addr} {vs fs : Array Value}
theorem apart (q : h.get? e = some (At C dx vs)) : h.objs.size ≠ e := Nat.ne_of_gt (Heap.lt_size q)
theorem Mq (T : Addr) : (Hq T (At C dx vs)).data = .fields (vs.setIfInBounds 1 (.ref T)) := rfl
theorem Nx (q : h.get? e = some (At C dx vs)) : (Gv h e fs).get? e = some (At C dx (vs.setIfInBounds 1 (.ref h.objs.size))) :=
 Heap.get?_update_self (Hq h.objs.size) (Heap.get?_push_of_some (tbO fs) q) (Obj.isFreed_of_fields (Mq h.objs.size))
theorem Ny (q : h.get? e = some (At C dx vs)) : (Gv h e fs).get? h.objs.size = some (tbO fs) :=
 (Heap.get?_update_other (h.push (tbO fs)) (Hq h.objs.size) (apart q).symm).trans (Heap.get?_push_size h rfl)
theorem Ge {b : Addr} {o : Obj} (ne : b ≠ e) (q : h.get? b = some o) : (Gv h e fs).get? b = some o :=
 (Heap.get?_update_other (h.push (tbO fs)) (Hq h.objs.size) ne.symm).trans (Heap.get?_push_of_some (tbO fs) q)
theorem Ob {h0 : Heap} {l : List Addr} (hz : h.objs.size = h0.objs.size) (k1 : ∀ b, b ∉ l -> h.get? b = h0.get? b) (k2 : ∀ b o, h0.get? b = some o -> ∃ sl, h.get? b = some { o with slots := sl }) (q : h.get? e = some (At C dx vs)) (hs : vs.size = 6) (hf : 3 < fs.size) :
  Ph l e C dx h0 (Gv h e fs) where
 exc := ⟨_, h.objs.size, _, _, Nx q, by rw [Array.size_setIfInBounds]; exact hs, Array.getElem?_setIfInBounds_self_of_lt (by omega), by omega, apart q, Ny q, rfl, hf⟩
 keep := fun b o ne nl hb => Ge ne ((k1 b nl).trans hb)
 slot := fun b o ne hb => let ⟨sl, z⟩ := k2 b o hb; ⟨sl, Ge ne z⟩
end
section
variable {M : Model} {A : Around} {E : Value -> Shared -> Prop} {s : Shared} {base : Heap} {env : Env} {outer : List Env} {L e C : Addr} {dx : Option Addr} {vs : Array Value} {Q : Unit -> Shared -> Prop}
theorem Rt {head : Value} {hadNext : Bool} {env0 : Env} (hfr : A.frames = some (env0 :: outer)) (hl : s.heap.FunFrames base (env0 :: outer)) (h0 : env0.frame = some L) (hf : env.frame = some L) (q : s.heap.get? e = some (At C dx vs)) (hs : vs.size = 6) (k : ∀ h', Ph (frs (env0 :: outer)) e C dx s.heap h' -> Q () { s with heap := h' }) :
  wpAny M A ((frameOf env >>= fun a => entryPlaceOf L hadNext >>= fun pl => EntryCells.newEntry head a .none (rawInt L) .none pl >>= fun b => setField (.ref e) 1 b)) Q E s := by
 have off : e ∉ frs (env0 :: outer) := fun z => by
  obtain ⟨_, o, z1, z2⟩ := hl.mem z
  rw [q] at z1
  cases z1
  exact z2 vs rfl
 have fe : frameOf env = frameOf env0 := by unfold frameOf; rw [hf, h0]
 rw [fe]
 refine wpAny_bind (wpAny_frameOf_fun hfr hl h0 fun h1 ⟨a1, a2, a3⟩ => wpAny_bind (wpAny_entryPlaceOf fun pl hpl => ?_))
 unfold EntryCells.newEntry newFields
 refine wpAny_bind (wpAny_newObj_type ?_ (hpl.sizeOk5 _ _ _ _ _))
 have q1 : h1.get? e = some (At C dx vs) := (a2 e off).trans q
 have lt : 3 < ([head, .ref L, .none, rawInt L, .none] ++ (if pl.isEmpty then List.replicate 6 Value.none else pl)).toArray.size := by rw [List.size_toArray, List.length_append]; simp only [List.length_cons, List.length_nil]; omega
 generalize ([head, .ref L, .none, rawInt L, .none] ++ (if pl.isEmpty then List.replicate 6 Value.none else pl)).toArray = fs at lt ⊢
 exact wpAny_setField (Heap.get?_push_of_some (tbO fs) q1) rfl (show 1 < vs.size by omega) (k _ (Ob a1 a2 a3 q1 hs lt))
end
end L2
namespace L2
open PySem PySem.Spec PyProof.Rows
open Sem (wp)
def ak6 (n : Nat) (a : Addr) (H' : Hp) (s' : Shared) : Prop :=
 ∃ (C : Addr) (dx : Option Addr) (vs : Array Value) (T : Addr) (oT : Obj) (ts : Array Value), H' a = some (flO a C dx) /\ s'.heap.get? a = some (At C dx vs) /\ vs.size = 6 /\ vs[1]? = some (.ref T) /\ T ≠ a /\ s'.heap.get? T = some oT /\ oT.data = .fields ts /\ ts[3]? = some .none /\ n <= T /\ H' T = none
def CXE (P : Program) (w : World) : CXT := fun outer H s E e s' =>
 ∃ (a : Addr) (H' : Hp), e = .ref a /\ s'.os = s.os /\ AllBare s'.gens /\ Un (frs outer) [] H H' s.heap s'.heap /\ HOk P w H' s'.heap /\ ak6 s.heap.objs.size a H' s' /\ E e none H'
section
variable {X : Cx} {pins : List (Addr × Obj)} {σ : St} {H : Hp} {s : Shared} {a C : Addr} {dx : Option Addr} {h' : Heap}
theorem Xh (I : Inv X pins σ H s) (ea : H a = some (flO a C dx)) (L : Ph (frs X.stack) a C dx s.heap h') : Un (frs X.stack) [] H H s.heap h' where
 keep := fun b o q n hb _ => L.keep b o (fun z => by rw [z, ea] at n; cases n) hb q
 slot := fun b o q n _ _ => L.slot b o (fun z => by rw [z, ea] at n; cases n) q
 free := fun b o _ n _ => n
 there := fun b o q _ => by
  by_cases hb : b = a
  ·obtain ⟨vs', T, oT, ts', h1, _⟩ := L.exc
   exact ⟨_, by rw [hb]; exact h1⟩
  ·obtain ⟨sl, h1⟩ := L.slot b o hb q
   exact ⟨_, h1⟩
 tups := fun _ _ e => e
 frzs := fun _ _ _ e => e
 tbls := fun b ps e => ⟨#[], by rw [e]; simp⟩
theorem Xg (I : Inv X pins σ H s) (ea : H a = some (flO a C dx)) (L : Ph (frs X.stack) a C dx s.heap h') : HOk X.prog X.w H h' := fun b o e => by
 by_cases hb : b = a
 ·subst hb
  rw [ea] at e
  cases e
  obtain ⟨vs', T, oT, ts', h1, h2, _⟩ := L.exc
  exact Tx h1 h2
 ·refine (I.hok b o e).stay (fun c u hc q => L.keep c u ?_ ?_ q) (fun _ q => q) fun _ _ q => q
  ·rcases hc with rfl | hc
   ·exact hb
   ·rintro rfl
    rw [ea] at hc
    cases hc
  ·intro hm
   have n := I.stkFree c hm
   rcases hc with rfl | hc
   ·rw [n] at e; cases e
   ·rw [n] at hc; cases hc
end
end L2
namespace L2
open PySem PySem.Spec PyProof.Rows
open Sem (wp)
section
variable {X : Cx} {pins : List (Addr × Obj)} {σ : St} {H : Hp} {s : Shared} {a : Addr} {E : Value -> Shared -> Prop} {Q : Unit -> Shared -> Prop}
def FlyT (X : Cx) (pins : List (Addr × Obj)) (H : Hp) (a : Addr) (s : Shared) (z : Value) : Prop :=
 ∃ (C : Addr) (dx : Option Addr) (vs : Array Value) (T : Addr) (oT : Obj) (ts : Array Value), H a = some (flO a C dx) /\ s.heap.get? a = some (At C dx vs) /\ vs.size = 6 /\ vs[1]? = some (.ref T) /\ T ≠ a /\ s.heap.get? T = some oT /\ oT.data = .fields ts /\ ts[3]? = some z /\ FpOk X pins H T
theorem FlyT.at {z : Value} (F : FlyT X pins H a s z) : E2 X pins H a s := by
 obtain ⟨C, dx, vs, T, oT, ts, h1, h2, h3, q1, q2, q3, q4, q5, q6⟩ := F
 exact ⟨C, dx, vs, h1, h2, h3, .inr ⟨T, oT, ts, q1, q2, q3, q4, ⟨z, q5⟩, q6⟩⟩
theorem set3 {C T : Addr} {dx : Option Addr} {vs ts : Array Value} {oT : Obj} {y : Value} (I : Inv X pins σ H s) (h1 : H a = some (flO a C dx)) (h2 : s.heap.get? a = some (At C dx vs)) (h3 : vs.size = 6) (q1 : vs[1]? = some (.ref T)) (q2 : T ≠ a) (q3 : s.heap.get? T = some oT) (q4 : oT.data = .fields ts) (q5 : ts[3]? = some y) (q6 : FpOk X pins H T) (v : Value) :
  Inv X pins σ H { s with heap := s.heap.update T (Obj.mapFields (·.setIfInBounds 3 v)) } /\ FlyT X pins H a { s with heap := s.heap.update T (Obj.mapFields (·.setIfInBounds 3 v)) } v /\ (s.heap.update T (Obj.mapFields (·.setIfInBounds 3 v))).get? a = some (At C dx vs) := by
 have ha : (s.heap.update T (Obj.mapFields (·.setIfInBounds 3 v))).get? a = some (At C dx vs) := (Heap.get?_update_other _ _ q2).trans h2
 obtain ⟨c0, d0, dt0, sl0⟩ := oT
 cases (show dt0 = .fields ts from q4)
 have hT : (s.heap.update T (Obj.mapFields (·.setIfInBounds 3 v))).get? T = some ⟨c0, d0, .fields (ts.setIfInBounds 3 v), sl0⟩ := Heap.get?_update_self _ q3 (Obj.isFreed_of_fields (vs := ts.setIfInBounds 3 v) rfl)
 exact ⟨I.turned (t' := s.toks) (fun b o ne e => (Heap.get?_update_other _ _ (Ne.symm ne)).trans e) q6.1 q6.2.1 q6.2.2.2.1 q6.2.2.2.2.1 q6.2.2.2.2.2, ⟨C, dx, vs, T, _, _, h1, ha, h3, q1, q2, hT, rfl, Array.getElem?_setIfInBounds_self_of_lt (Array.getElem?_eq_some_iff.mp q5).1, q6⟩, ha⟩
theorem Vv {A : Around} {fr : Option Addr} {z : Value} (I : Inv X pins σ H s) (F : FlyT X pins H a s z) (h : ∀ s', Inv X pins σ H s' -> FlyT X pins H a s' (fr.elim .none fun f => rawInt f) -> Q () s') : wpAny (model X.prog X.w) A (setFlight (.ref a) fr) Q E s := by
 obtain ⟨C, dx, vs, T, oT, ts, h1, h2, h3, q1, q2, q3, q4, q5, q6⟩ := F
 obtain ⟨I', F', _⟩ := set3 I h1 h2 h3 q1 q2 q3 q4 q5 q6 (fr.elim .none fun f => rawInt f)
 unfold setFlight
 refine wpAny_bind (wpAny_field h2 rfl q1 ?_)
 rw [if_pos (by simp)]
 exact wpAny_setField q3 q4 (Array.getElem?_eq_some_iff.mp q5).1 (h _ I' F')
theorem Zk {env : Env} (I : Inv X pins σ H s) {e0 : Env} {o0 : List Env} {L : Addr} (hs : X.stack = e0 :: o0) (h0 : e0.frame = some L) (hf : env.frame = some L) (F : E2 X pins H a s) (h : ∀ s' z, Inv X pins σ H s' -> FlyT X pins H a s' z -> Q () s') :
  wpAny (model X.prog X.w) X.A (noteFrame (.ref a) env) Q E s := by
 obtain ⟨C, dx, vs, h1, h2, h3, h4⟩ := F
 have fr : X.A.frames = some (e0 :: o0) := hs ▸ I.ok.frames
 have new : ∀ {s1 : Shared} {head : Value} {hadNext : Bool}, Inv X pins σ H s1 -> s1.heap.get? a = some (At C dx vs) -> wpAny (model X.prog X.w) X.A ((frameOf env >>= fun y => entryPlaceOf L hadNext >>= fun pl => EntryCells.newEntry head y .none (rawInt L) .none pl >>= fun b => setField (.ref a) 1 b)) Q E s1 := fun {s1 head hadNext} I1 q => by
  have fn : s1.heap.FunFrames X.base (e0 :: o0) := hs ▸ I1.stack
  refine Rt (base := X.base) fr fn h0 hf q h3 fun h' L => ?_
  rw [<- hs] at L
  have I' := I1.call (h' := h') (g' := s1.gens) (t' := s1.toks) (d' := s1.drawn) (ch := []) (Xh I1 h1 L) (Xg I1 h1 L) I1.bare (fun b z => absurd z (by simp))
  obtain ⟨vs', T, oT, ts', a1, a2, a3, a4, a5, a6, a7, a8⟩ := L.exc
  exact h _ _ I' ⟨C, dx, vs', T, oT, ts', h1, a1, a2, a3, a5, a6, a7, Array.getElem?_eq_getElem a8, I1.fpOk a4 (I1.hok.fresh a4)⟩
 unfold noteFrame
 simp only [hf]
 rcases h4 with c | ⟨T, oT, ts, c, ne, hT, hd, ⟨z, hz⟩, fp⟩
 ·refine wpAny_bind (wpAny_field h2 rfl c ?_)
  rw [if_neg (by decide)]
  exact new I h2
 ·refine wpAny_bind (wpAny_field h2 rfl c ?_)
  rw [if_pos (by simp)]
  refine wpAny_bind (wpAny_field hT hd hz ?_)
  by_cases e : (z == rawInt L) = true
  ·rw [if_pos e]
   exact wpAny_pure (h s z I ⟨C, dx, vs, T, oT, ts, h1, h2, h3, c, ne, hT, hd, hz, fp⟩)
  ·rw [if_neg e]
   obtain ⟨I', _, ha⟩ := set3 I h1 h2 h3 c ne hT hd hz fp .none
   exact wpAny_bind (wpAny_setField hT hd (Array.getElem?_eq_some_iff.mp hz).1 (new I' ha))
theorem P5 (I : Inv X pins σ H s) (hs : X.stack = X.env :: X.outer) (hf : X.env.frame = some X.env.locals) (F : E2 X pins H a s) (h : ∀ s', Inv X pins σ H s' -> FlyT X pins H a s' .none -> Q () s') :
  wpAny (model X.prog X.w) X.A (noteFrame (.ref a) X.env) (fun _ s1 => wpAny (model X.prog X.w) X.A (setFlight (.ref a) none) Q E s1) E s :=
 Zk I hs hf hf F fun s1 z I1 F1 => Vv I1 F1 h
theorem Jx {A : Around} (I : Inv X pins σ H s) (F : E2 X pins H a s) (h : ∀ s', Inv X pins σ H s' -> E2 X pins H a s' -> Q () s') : wpAny (model X.prog X.w) A (setFlight (.ref a) none) Q E s := by
 obtain ⟨C, dx, vs, h1, h2, h3, h4⟩ := F
 rcases h4 with h4 | ⟨T, oT, ts, q1, q2, q3, q4, ⟨z, q5⟩, q6⟩
 ·unfold setFlight
  refine wpAny_bind (wpAny_field h2 rfl h4 ?_)
  rw [if_neg (by decide)]
  exact wpAny_pure (h s I ⟨C, dx, vs, h1, h2, h3, .inl h4⟩)
 ·exact Vv I ⟨C, dx, vs, T, oT, ts, h1, h2, h3, q1, q2, q3, q4, q5, q6⟩ fun s' I' F' => h s' I' F'.at
end
section
variable {prog : Program} {w : World} {A : Around} {E : Value -> Shared -> Prop} {s : Shared} {K : PySem.W.Frag} {a C D : Addr} {dx : Option Addr} {vs : Array Value} {b : Bool} {Q : Bool -> Shared -> Prop}
open PySem.W in
theorem Oh (X : K.In s.heap) (c : ECls K C) (d : ECls K D) (ha : s.heap.get? a = some (At C dx vs)) (m : mroIn K C (.ref D) = some b) (h : Q b s) :
  wpAny (model prog w) A (excMatches (.ref a) (.ref D)) Q E s := by
 obtain ⟨nm, qn, N, bs, bm, hdct, sn, sub, ab, col, dd, k0, k1, k2, k3, k5, hl, ht, hd⟩ := c.obj
 obtain ⟨nm', qn', N', bs', bm', hdct', sn', sub', ab', col', dd', k0', k1', k2', k3', k5', hl', ht', hd'⟩ := d.obj
 have hC := X _ _ hl
 have hD := X _ _ hl'
 have hcB : (Value.ref D :: bm').contains (.type "BaseException") = true := by rw [List.contains_cons, Bn ht' (show valTail.contains (.type "BaseException") = true by decide +kernel), Bool.or_true]
 have hcD : (Value.ref C :: bm).contains (.ref D) = b := by
  unfold mroIn at m
  obtain ⟨cd, e, em⟩ : ∃ cd, clsIn K C = some cd /\ cd.mro = .ref C :: bm := ⟨_, by unfold clsIn; rw [hl], rfl⟩
  rw [e, Option.bind_some, em] at m
  exact Option.some.inj m
 have f := tc_notTuple
 obtain ⟨hp, g, dr, tk, os⟩ := s
 unfold excMatches
 repeat (first | with_reducible refine wpAny_loadPart_at ha ?_ | with_reducible refine wpAny_loadPart_at hD ?_ | (with_reducible refine wpAny_isSubtype_exc hD ?_; rw [hcB]) | (with_reducible refine wpAny_isSubtype_exc hC ?_; rw [hcD]) | wp_step)
 cases b <;> (wp_walk; exact h)
end
end L2
namespace L2
open PySem PySem.Spec PyProof.Rows
section
variable {X : Cx} {G : Sg} {elt tg iter : Expr} {ifs : List Expr} {sc : Scope} {wi : DI} {g : DG} {tc : DT} {de : DE} {pos : Pos}
theorem al1 {pins pins' : List (Addr × Obj)} {σ : St} {H2 H' : Hp} {s2 : Shared} {N' : List Str} {cl : List (Str × Addr)} {fp : List Addr} {C T : Addr} {xe : Value -> Shared -> Prop} (I2 : Inv X pins σ H2 s2) (f2 : ∀ b ∈ fp, FpOk X pins H2 b)
  (F : FpOk (X.comp N' sc cl fp C s2 H2 xe) pins' H' T) : FpOk X pins H' T := by
 obtain ⟨r1, r2, r3, r4, r5, r6⟩ := F
 rcases r4 with r4 | r4
 ·exact ⟨r1, (f2 T r4).2⟩
 ·exact I2.fpOk r4 r1
theorem Hr {Ex : St -> EK} (m : B3 X Ex) (fr : FrH X) {pins : List (Addr × Obj)} {σ : St} {H2 : Hp} {s2 : Shared} {N' : List Str} {cl : List (Str × Addr)} {fp : List Addr} {C D : Addr} {us : Option (Value -> Sem Unit)} {Q2 : Value -> Shared -> Prop} (I2 : Inv X pins σ H2 s2) (f2 : ∀ b ∈ fp, FpOk X pins H2 b)
  (hC : s2.heap.objs.size <= C) : B3 (X.comp N' sc cl fp C s2 H2 (A9 X sc cl us Q2 D C)) (fun _ a H' => Ex σ a H') := by
 intro pins' σ' H' s' a I' F' hE
 obtain ⟨e0, o0, L, f1, f3, f4⟩ := fr
 refine Zk (X := X.comp N' sc cl fp C s2 H2 (A9 X sc cl us Q2 D C)) (env := compEnvC sc cl C X.env) I' f1 f3 f4 F' fun s3 z I3 F3 => ?_
 obtain ⟨mm, hn, _⟩ := id I3.loc
 refine ⟨mm, hn, fun h' sb cenv hce => ?_⟩
 have I4 : Inv X pins σ H' s3 := I2.call' (ch := fp) I3.os I3.base I3.hok I3.bare fun b hb => ⟨(f2 b hb).2.2.2.1, (f2 b hb).2.1, (f2 b hb).2.2.2.2.1, (f2 b hb).2.2.2.2.2⟩
 have fo := I2.fpOk hC I3.free
 obtain ⟨g0, g1, g2, g3, g4, g5⟩ := id fo
 have I5 : Inv X pins σ H' { s3 with heap := h' } := I4.turned (t' := s3.toks) (fun b o hb e => (sb.2 b hb).trans e) g0 g1 g3 g4 g5
 obtain ⟨C0, dx, vs, T, oT, ts, h1, h2, h3, q1, q2, q3, q4, q5, q6⟩ := F3
 have na : a ≠ C := fun z => by rw [z, g0] at h1; cases h1
 have nT : T ≠ C := q6.2.1
 have F5 : FlyT X pins H' a { s3 with heap := h' } z := ⟨C0, dx, vs, T, oT, ts, h1, (sb.2 a na).trans h2, h3, q1, q2, (sb.2 T nT).trans q3, q4, q5, al1 I2 f2 q6⟩
 unfold PySem.passOn
 refine wpAny_bind (wpAny_field (s := { s3 with heap := h' }) ((sb.2 a na).trans h2) rfl q1 ?_)
 rw [if_neg (by simp)]
 refine wpAny_bind (Vv I5 F5 fun s6 I6 F6 => ?_)
 exact wpAny_throw (m pins σ H' s6 a I6 F6.at hE)
def QIfs (X : Cx) (ifs : List Expr) (t : DT) : Prop := ∀ Ex, B3 X Ex -> PIfs X ifs (fun σ H Q => t σ H Q (Ex σ))
theorem M3 : QIfs X [] dYes := fun _ _ => U5
theorem M4 {c : Expr} {t : DT} (h : QT X c t) : QIfs X [c] t := fun Ex m => U6 (h Ex m)
theorem P9 (O : GOk X G) (hc : X.calm = true) (hk : Dy G sc = true) (hs : Ht iter = true) (hi : QI X tg iter wi) (hg : ∀ X', GOk X' (B7 G sc.names) -> PG X' tg g) (ht : ∀ X', GOk X' (B7 G sc.names) -> QIfs X' ifs tc) (he : ∀ X', GOk X' (B7 G sc.names) -> QE X' elt de) :
  QE X (.ListComp elt [⟨tg, iter, ifs, 0⟩] sc pos) (Bm (Eg G sc.names) wi g tc de) := by
 intro Ex m pins s σ H Q I h
 exact Tp hc (K3 O hk) (hi Ex m) (fun Q2 fp C D s2 H2 I2 f2 hC =>
  have M := Hr (N' := (B7 G sc.names).N) (cl := B6 X.env.cells sc.names []) (us := none) (Q2 := Q2) (D := D) m O.fr I2 f2 hC
  have K := Pq O hk fp C s2 H2 (A9 X sc (B6 X.env.cells sc.names []) none Q2 D C)
  ⟨hg _ K, ht _ K _ M, he _ K _ M⟩) I h (fun x => Hu hs X.env x)
end
def Pl (K : PySem.W.Frag) (op : BoolOp) : List DE -> DE
 | [] => dNo
 | [a] => a
 | a :: r => match op with
  | .And => Mh K a (Pl K op r)
  | .Or => dOrV K a (Pl K op r)
def Pk (op : BoolOp) : List DT -> DT
 | [] => fun _ _ _ _ => False
 | [a] => a
 | a :: r => match op with
  | .And => dAnd a (Pk op r)
  | .Or => dOr a (Pk op r)
def Cl : List DE -> DA
 | [] => dNil
 | a :: r => Aa a (Cl r)
def tNo : DT := fun _ _ _ _ => False
def wCmp (G : Sg) (ops : List CmpOp) (bs : List Expr) (a : DE) (ds : List DE) : DE := match ops, bs, ds with
 | [op], [b], [d] => if behindInMarks op b = false then dBin (rCmp G.K op) a d else dNo
 | [op, op'], [b, c], [d, d'] => if lastMarks [op, op'] [b, c] = false then Df (rCmp G.K op) (rCmp G.K op') a d d' else dNo
 | _, _, _ => dNo
def Wm (G : Sg) (x : Str) (es : List Expr) (ds : List DE) : DE :=
 if isGl G x = true /\ (B1 G.N x 0) = none /\ es.all noStar = true then (match G.gb.lookup x with
  | some (.fn i) => if es.length <= i.ps.length /\ i.ps.length <= es.length + i.dfs.length then dFn (spE i.sp (i.dfs.drop (es.length + i.dfs.length - i.ps.length))) (Cl ds) else dNo
  | some (.exc C oi) => (match oi with
   | none => if es.isEmpty = true then dFn (mkX C none 0) (Cl ds) else dFn (fun vs H Q E => vs.length <= 1000 /\ mkX C none 0 vs H Q E) (Cl ds)
   | some i => if es.length + 1 <= i.ps.length /\ i.ps.length <= es.length + 1 + i.dfs.length then (if es.isEmpty = true then dFn (mkX C (some i) (es.length + 1 + i.dfs.length - i.ps.length)) (Cl ds)
    else dFn (fun vs H Q E => vs.length <= 1000 /\ mkX C (some i) (es.length + 1 + i.dfs.length - i.ps.length) vs H Q E) (Cl ds)) else dNo)
  | some (.cls C oi) => (match oi with
   | none => if es.isEmpty = true then dFn (mkC C none 0) (Cl ds) else dNo
   | some i => if es.length + 1 <= i.ps.length /\ i.ps.length <= es.length + 1 + i.dfs.length then dFn (mkC C (some i) (es.length + 1 + i.dfs.length - i.ps.length)) (Cl ds) else dNo)
  | some _ => dNo
  | none => if G.bl.contains x = true then (match bltR G.K G.calm x with
   | some (_, r) => if es.isEmpty = true then dNo else dFn (fun vs H Q _ => r vs H Q) (Cl ds)
   | none => dNo) else dNo) else dNo
def Wo (G : Sg) (o : Expr) (m : Str) (es : List Expr) (ap cp : Pos) (d : DE) (ds : List DE) : DE :=
 if C1 o = true /\ es.all noStar = true /\ es.length < 30 /\ (ap.endLine == cp.line) = true then (match Bg G.gb m with
  | none => dMt (rMt G.K (mtR G.K m)) d (Cl ds)
  | some l => dOwn m es.length l d (Cl ds)) else dNo
inductive Fz where
 | lenSet (a : Expr)
def fzD (K : PySem.W.Frag) (w : Expr -> DE) : Fz -> DE
 | .lenSet a => dUn (G0 K) (w a)
def isBl (G : Sg) (x : Str) : Bool := isGl G x && (G.gb.lookup x).isNone && G.bl.contains x
def N2 (G : Sg) (x : Str) (es : List Expr) : Option Fz := match es with
 | [.Call (.Name y _) [a] [] _] => if x = "len" /\ y = "set" /\ isBl G x = true /\ isBl G y = true /\ noStar a = true /\ G.calm = true then some (.lenSet a) else none
 | _ => none
mutual
def wE : Nat -> Sg -> Expr -> DE
 | 0, _, _ => dNo
 | n + 1, G, e => match e with
  | .Constant c _ _ => Wn c
  | .Name x _ => Wp G x
  | .BinOp a op b _ => dBin (rOp G.K op) (wE n G a) (wE n G b)
  | .UnaryOp .USub a _ => dUn Ia (wE n G a)
  | .UnaryOp .Not a _ => Y5 G.K (wE n G a)
  | .UnaryOp .Invert a _ => dUn Qe (wE n G a)
  | .BoolOp op es _ => Pl G.K op (es.map (wE n G))
  | .Compare a ops bs _ => wCmp G ops bs (wE n G a) (bs.map (wE n G))
  | .IfExp t a b _ => dIfE (wT n G t) (wE n G a) (wE n G b)
  | .List es _ => if es.all noStar = true then dLst (Cl (es.map (wE n G))) else dNo
  | .Tuple es _ _ => if es.all noStar = true then dTup (Cl (es.map (wE n G))) else dNo
  | .Subscript a (.Slice lo hi none _) _ => dSl G.K (wE n G a) (match lo with | none => Ci | some l => Dr (wE n G l)) (match hi with | none => Ci | some h => Dr (wE n G h))
  | .Subscript a b _ => if Fd b = true then dBin (rIxD G.K) (wE n G a) (wE n G b) else dNo
  | .Attribute o f _ => if C1 o = true then dUn (C2 G.K f) (wE n G o) else dNo
  | .Call (.Name x _) es [] _ => match N2 G x es with
   | some z => fzD G.K (wE n G) z
   | none => Wm G x es (es.map (wE n G))
  | .Dict ks vs _ => if ks.isEmpty = true /\ vs.isEmpty = true then Ep else if (ks.all (·.isSome)) = true /\ ks.length = vs.length /\ ks.length <= 15 /\ ks.isEmpty = false then Tq (((ks.filterMap id).zip vs).map fun p => (wE n G p.1, wE n G p.2)) else dNo
  | .Call (.Attribute o m ap) es [] cp => Wo G o m es ap cp (wE n G o) (es.map (wE n G))
  | .ListComp elt [⟨tg, iter, ifs, 0⟩] sc _ => if G.calm = true /\ Dy G sc = true /\ Ht iter = true then
    Bm (Eg G sc.names) (wI n G tg iter) (wG n (B7 G sc.names) tg) (match ifs with | [] => dYes | [c] => wT n (B7 G sc.names) c | _ => tNo) (wE n (B7 G sc.names) elt) else dNo
  | _ => dNo
def wT : Nat -> Sg -> Expr -> DT
 | 0, _, _ => tNo
 | n + 1, G, e => match e with
  | .UnaryOp .Not a _ => dNot (wT n G a)
  | .BoolOp op es _ => Pk op (es.map (wT n G))
  | .Compare a ops bs _ => dTst (wCmp G ops bs (wE n G a) (bs.map (wE n G)))
  | .IfExp _ _ _ _ => tNo
  | e => dTru G.K (wE n G e)
def wI : Nat -> Sg -> Expr -> Expr -> DI
 | 0, _, _, _ => iNo
 | n + 1, G, tg, e => match e with
  | .Call (.Name x _) (a :: es) [] _ =>
   if x = "range" /\ isGl G x = true /\ G.gb.lookup x = none /\ G.bl.contains x = true /\ (a :: es).all noStar = true then iRng (Cl ((a :: es).map (wE n G)))
   else if x = "enumerate" /\ isGl G x = true /\ G.gb.lookup x = none /\ G.bl.contains x = true /\ (a :: es).all noStar = true then (match tg with
    | .Tuple _ _ _ => iEn G.K (Cl ((a :: es).map (wE n G)))
    | _ => iNo)
   else iVal G.K (wE n G e)
  | e => iVal G.K (wE n G e)
end
theorem Zo {X : Cx} {e : Expr} : QT X e tNo := fun _ _ _ _ _ _ _ _ h => h.elim
theorem Bx {X : Cx} {w : Expr -> DE} (h : ∀ e, QE X e (w e)) : ∀ {es : List Expr}, es.all noStar = true -> QA X es (Cl (es.map w))
 | [], _ => ae4
 | e :: es, hs => by
  rw [List.all_cons, Bool.and_eq_true] at hs
  exact Ya (h e) (Bx h hs.2) hs.1
theorem Lm {X : Cx} {w : Expr -> DE} {op : BoolOp} {pos : Pos} (h : ∀ e, QE X e (w e)) : ∀ {es : List Expr}, QE X (.BoolOp op es pos) (Pl X.K op (es.map w))
 | [] => Bb
 | [e] => af5 (h e)
 | e :: e' :: es => by
  cases op with
  | And => exact ae5 (h e) (Lm h)
  | Or => exact aq1 (h e) (Lm h)
theorem Ln {X : Cx} {w : Expr -> DT} {op : BoolOp} {pos : Pos} (h : ∀ e, QT X e (w e)) : ∀ {es : List Expr}, QW X (.BoolOp op es pos) (Pk op (es.map w))
 | [] => fun _ _ _ _ _ _ _ _ _ h => h.elim
 | [e] => by
  cases op with
  | And => exact Yp (h e)
  | Or => exact ah2 (h e)
 | e :: e' :: es => by
  cases op with
  | And => exact ah1 (h e) (Ln h)
  | Or => exact aq3 (h e) (Ln h)
section
variable {X : Cx} {G : Sg}
theorem Yd (O : GOk X G) {w : Expr -> DE} (h : ∀ e, QE X e (w e)) (a : Expr) (ops : List CmpOp) (bs : List Expr) (pos : Pos) : QE X (.Compare a ops bs pos) (wCmp G ops bs (w a) (bs.map w)) := by
 unfold wCmp
 rw [<- O.K]
 split
 ·rename_i op b d e
  have : d = w b := by simpa using e.symm
  subst this
  split
  ·exact ae8 O.units op (h a) (h b) ‹_›
  ·exact Bb
 ·rename_i op op' b c d d' e
  have : w b = d /\ w c = d' := by simpa using e
  obtain ⟨rfl, rfl⟩ := this
  split
  ·exact Vg O.units op op' (h a) (h b) (h c) ‹_›
  ·exact Bb
 ·exact Bb
theorem Yo (O : GOk X G) {w : Expr -> DE} (h : ∀ e, QE X e (w e)) (a : Expr) (ops : List CmpOp) (bs : List Expr) (pos : Pos) : QT X (.Compare a ops bs pos) (dTst (wCmp G ops bs (w a) (bs.map w))) := by
 unfold wCmp
 rw [<- O.K]
 split
 ·rename_i op b d e
  have : d = w b := by simpa using e.symm
  subst this
  split
  ·exact ag8 O.units op (h a) (h b) ‹_›
  ·exact fun _ _ _ _ _ _ _ _ h => h.elim
 ·rename_i op op' b c d d' e
  have : w b = d /\ w c = d' := by simpa using e
  obtain ⟨rfl, rfl⟩ := this
  split
  ·exact Vp O.units op op' (h a) (h b) (h c) ‹_›
  ·exact fun _ _ _ _ _ _ _ _ h => h.elim
 ·exact fun _ _ _ _ _ _ _ _ h => h.elim
theorem Vf (O : GOk X G) {w : Expr -> DE} (h : ∀ e, QE X e (w e)) (x : Str) (es : List Expr) (p pos : Pos) : QE X (.Call (.Name x p) es [] pos) (Wm G x es (es.map w)) := by
 unfold Wm
 split
 ·rename_i hh
  obtain ⟨hg, _, hs⟩ := hh
  have dd := N8 hg
  split
  ·rename_i i e
   obtain ⟨hm, F⟩ := O.fn x i e
   split
   ·rename_i hl
    cases es with
    | nil => exact Ve F (by have := hl.1; omega) (O.gl hg) hm dd.1
    | cons e es => exact Yc F (by have := hl.1; omega) (O.gl hg) hm (Bx h hs) hs dd.1
   ·exact Bb
  ·rename_i C oi e
   obtain ⟨hm, kp, c, hi⟩ := O.exc x C oi e
   split
   ·cases es with
    | nil => exact Qb (j := 0) c hi (fun i z => nomatch z) kp (O.gl hg) hm dd.1
    | cons e es => exact Vj (j := 0) c hi (fun i z => nomatch z) kp (O.gl hg) hm (Bx h hs) hs dd.1
   ·rename_i i
    split
    ·rename_i hl
     cases es with
     | nil => exact Qb (j := ([] : List Expr).length + 1 + i.dfs.length - i.ps.length) c hi (fun i z => by cases z; have := hl.1; omega) kp (O.gl hg) hm dd.1
     | cons e es => exact Vj (j := (e :: es).length + 1 + i.dfs.length - i.ps.length) c hi (fun i z => by cases z; have := hl.1; omega) kp (O.gl hg) hm (Bx h hs) hs dd.1
    ·exact Bb
  ·rename_i C oi e
   obtain ⟨hm, kp, hi⟩ := O.cls x C oi e
   split
   ·cases es with
    | nil => exact Qa (j := 0) hi (fun i z => nomatch z) kp (O.gl hg) hm dd.1
    | cons e es => exact Bb
   ·rename_i i
    split
    ·rename_i hl
     cases es with
     | nil => exact Qa hi (fun i z => by cases z; have := hl.1; omega) kp (O.gl hg) hm dd.1
     | cons e es => exact af1 hi (fun i z => by cases z; have := hl.1; omega) kp (O.gl hg) hm (Bx h hs) hs dd.1
    ·exact Bb
  ·exact Bb
  ·rename_i e
   split
   ·rename_i hb
    split
    ·rename_i f r er
     split
     ·exact Bb
     ·rename_i hne
      cases es with
      | nil => exact absurd rfl hne
      | cons e es =>
       rw [<- O.K] at er
       obtain ⟨b1, b2⟩ := Wx er O.calm
       exact ae7 b2 (O.gl hg) (O.bl x hb) b1 (Bx h hs) hs dd.2.2 dd.1
    ·exact Bb
   ·exact Bb
 ·exact Bb
theorem Vi (O : GOk X G) {w : Expr -> DE} (h : ∀ e, QE X e (w e)) (o : Expr) (m : Str) (es : List Expr) (ap cp : Pos) : QE X (.Call (.Attribute o m ap) es [] cp) (Wo G o m es ap cp (w o) (es.map w)) := by
 unfold Wo
 rw [<- O.K]
 split
 ·rename_i hh
  obtain ⟨h1, h2, h3, h4⟩ := hh
  split
  ·cases es with
   | nil => exact af2 (fun b hb => Us O.units hb) (h o) h1 h4
   | cons e es => exact aq0 (fun b hb => Us O.units hb) (h o) (Bx h h2) h1 h2 h3 h4
  ·rename_i l e
   cases es with
   | nil => exact Yi (O.met m l e) (h o) h1 h4
   | cons e es => exact af6 (O.met m l ‹_›) (h o) (Bx h h2) h1 h2 h3 h4
 ·exact Bb
end
theorem Gy {X : Cx} {G : Sg} (O : GOk X G) {x : Str} (h : isBl G x = true) : Gl X x /\ X.mg x = none := by
 unfold isBl at h
 rw [Bool.and_eq_true, Bool.and_eq_true] at h
 exact ⟨O.gl h.1.1, O.bl _ h.2⟩
theorem Yg {X : Cx} {G : Sg} (O : GOk X G) {w : Expr -> DE} (h : ∀ e, QE X e (w e)) {x : Str} {es : List Expr} {p pos : Pos} {z : Fz} (e : N2 G x es = some z) :
  QE X (.Call (.Name x p) es [] pos) (fzD G.K w z) := by
 unfold N2 at e
 split at e
 ·split at e
  ·rename_i hh
   obtain ⟨rfl, rfl, h1, h2, h3, h4⟩ := hh
   cases e
   rw [<- O.K]
   exact R6 (O.calm ▸ h4) (Gy O h1).1 (Gy O h1).2 (Gy O h2).1 (Gy O h2).2 (h _) h3
  ·cases e
 ·cases e
theorem Md {α : Type} : ∀ {ks : List (Option α)}, ks.all (·.isSome) = true -> (ks.filterMap id).map some = ks
 | [], _ => rfl
 | none :: _, h => by simp at h
 | some k :: ks, h => by
  rw [List.all_cons, Bool.and_eq_true] at h
  show some k :: (ks.filterMap id).map some = _
  rw [Md h.2]
theorem w_ok : ∀ (n : Nat) (X : Cx) (G : Sg), GOk X G -> (∀ e, QE X e (wE n G e)) /\ (∀ e, QT X e (wT n G e)) /\ (∀ tg e, QI X tg e (wI n G tg e)) := by
 intro n
 induction n with
 | zero =>
  intro X G O
  refine ⟨fun e => ?_, fun e => ?_, fun tg e => ?_⟩
  ·unfold wE; exact Bb
  ·unfold wT; exact Zo
  ·unfold wI; exact Zn
 | succ n ih =>
  intro X G O
  obtain ⟨hE, hT, hI⟩ := ih X G O
  have hv : ∀ tg e, QI X tg e (iVal G.K (wE n G e)) := fun tg e => by rw [<- O.K]; exact af9 (hE e)
  refine ⟨fun e => ?_, fun e => ?_, fun tg e => ?_⟩
  ·unfold wE
   split
   ·exact Vh _ _ _
   ·exact Yh O _ _
   ·rw [<- O.K]; exact ae6 _ (hE _) (hE _)
   ·exact af3 (hE _)
   ·rw [<- O.K]; exact af4 (hE _)
   ·exact ae9 (hE _)
   ·rw [<- O.K]; exact Lm hE
   ·exact Yd O hE _ _ _ _
   ·exact ap8 (hT _) (hE _) (hE _)
   ·split
    ·exact af0 (Bx hE ‹_›)
    ·exact Bb
   ·split
    ·exact af7 (Bx hE ‹_›)
    ·exact Bb
   ·rw [<- O.K]
    refine Vk (hE _) ?_ ?_
    ·split
     ·exact Qc
     ·exact Qd (hE _)
    ·split
     ·exact Qc
     ·exact Qd (hE _)
   ·split
    ·rw [<- O.K]; exact ap9 O.units (hE _) (hE _) ‹_›
    ·exact Bb
   ·split
    ·rw [<- O.K]; exact Yb (hE _) (Dl ‹_› _ X.env _)
    ·exact Bb
   ·split
    ·exact Yg O hE ‹_›
    ·exact Vf O hE _ _ _ _
   ·rename_i ks vs p0
    split
    ·rename_i hh
     have e1 : ks = [] := by simpa using hh.1
     have e2 : vs = [] := by simpa using hh.2
     subst e1 e2
     exact Yf
    ·split
     ·rename_i hh
      obtain ⟨h1, h2, h3, h4⟩ := hh
      have e := Md h1
      have hl : (ks.filterMap id).length = ks.length := by rw [<- List.length_map (f := some), e]
      have q := Ye (X := X) (pos := p0) hE (ks := ks.filterMap id) (vs := vs) (by rw [hl]; exact h2) (fun z => by rw [z] at e; rw [<- e] at h4; simp at h4) (by rw [hl]; exact h3)
      rw [e] at q
      exact q
     ·exact Bb
   ·exact Vi O hE _ _ _ _ _
   ·split
    ·rename_i hh
     obtain ⟨h1, h2, h3⟩ := hh
     refine P9 O (O.calm ▸ h1) h2 h3 (hI _ _) (fun X' O' => Nl n X' _ O' _) (fun X' O' => ?_) (fun X' O' => (ih X' _ O').1 _)
     split
     ·exact M3
     ·exact M4 ((ih X' _ O').2.1 _)
     ·exact fun _ _ _ _ _ _ _ _ h => h.elim
    ·exact Bb
   ·exact Bb
  ·unfold wT
   split
   ·exact ag9 (hT _)
   ·exact fun Ex m => PW.pt (Ln hT Ex m)
   ·exact Yo O hE _ _ _ _
   ·exact Zo
   ·rename_i h1 h2 h3 h4
    rw [<- O.K]
    refine ah0 (hE _) ?_
    cases e with
    | UnaryOp op a p => cases op <;> first | rfl | exact absurd rfl (h1 _ _)
    | BoolOp op es p => exact absurd rfl (h2 _ _ _)
    | Compare a b c p => exact absurd rfl (h3 _ _ _ _)
    | IfExp a b c p => exact absurd rfl (h4 _ _ _ _)
    | _ => rfl
  ·unfold wI
   split
   ·split
    ·rename_i hh
     obtain ⟨rfl, h1, _, h2, h3⟩ := hh
     exact Vl (O.gl h1) (O.bl _ h2) (Bx hE h3) h3
    ·split
     ·rename_i hh
      obtain ⟨rfl, h1, _, h2, h3⟩ := hh
      split
      ·rw [<- O.K]; exact Yj (O.gl h1) (O.bl _ h2) (Bx hE h3) h3
      ·exact Zn
     ·exact hv _ _
   ·exact hv _ _
def Cx.tr (X : Cx) (pn : List (Addr × Obj)) (xe : Value -> Shared -> Prop) : Cx := { X with pn := pn, xe := xe }
def Cx.hd (X : Cx) (a : Addr) : Cx := { X with A := X.A.mark (some (.ref a)), calm := false, xe := fun _ _ => False }
section
variable {X : Cx} {pins pins' : List (Addr × Obj)} {σ : St} {H : Hp} {s : Shared} {a C : Addr} {dx : Option Addr} {xe : Value -> Shared -> Prop}
theorem al9 {pn : List (Addr × Obj)} (o : X.Ok) : (X.tr pn xe).Ok := ⟨o.mod, o.kind, o.glob, o.blt, o.above, o.inj, o.has, o.cab, o.hd, o.frames, o.stk, o.exf, o.bs, o.bsz, o.noex, o.exfs, o.funs, o.frf⟩
theorem Xo {pn : List (Addr × Obj)} (o : (X.tr pn xe).Ok) : X.Ok := ⟨o.mod, o.kind, o.glob, o.blt, o.above, o.inj, o.has, o.cab, o.hd, o.frames, o.stk, o.exf, o.bs, o.bsz, o.noex, o.exfs, o.funs, o.frf⟩
theorem Z9 (I : Inv X pins σ H s) : Inv (X.tr (X.pn ++ pins) xe) [] σ H s :=
 ⟨al9 I.ok, I.os, I.bare, I.base, I.loc, I.cell, I.free, I.freeC, fun p hp => I.pin p (by rw [List.append_nil] at hp; exact hp), I.hok, I.len⟩
theorem D5 (I : Inv (X.tr (X.pn ++ pins) xe) pins' σ H s) : Inv X pins σ H s :=
 ⟨Xo I.ok, I.os, I.bare, I.base, I.loc, I.cell, I.free, I.freeC, fun p hp => I.pin p (List.mem_append_left _ hp), I.hok, I.len⟩
theorem Ty (F : E2 (X.tr (X.pn ++ pins) xe) pins' H a s) : E2 X pins H a s := by
 obtain ⟨C, dx, vs, h1, h2, h3, h4⟩ := F
 refine ⟨C, dx, vs, h1, h2, h3, h4.imp id fun ⟨T, oT, ts, q1, q2, q3, q4, q5, q6⟩ => ⟨T, oT, ts, q1, q2, q3, q4, q5, ?_⟩⟩
 obtain ⟨r1, r2, r3, r4, r5, r6⟩ := q6
 exact ⟨r1, r2, r3, r4, r5, fun p hp => r6 p (List.mem_append_left _ hp)⟩
theorem Yv {D : Ends} {f : Flow} (h : SP (X.tr (X.pn ++ pins) xe) pins' D f s) : SP X pins D f s := by
 cases f with
 | next => obtain ⟨σ', H', I, q⟩ := h; exact ⟨σ', H', D5 I, q⟩
 | brk => obtain ⟨σ', H', I, q⟩ := h; exact ⟨σ', H', D5 I, q⟩
 | cont => obtain ⟨σ', H', I, q⟩ := h; exact ⟨σ', H', D5 I, q⟩
 | ret u => obtain ⟨v, σ', H', I, r, q⟩ := h; exact ⟨v, σ', H', D5 I, r, q⟩
theorem N4 (I : Inv X pins σ H s) : Inv (X.hd a) pins σ H s :=
 ⟨⟨I.ok.mod, I.ok.kind, I.ok.glob, I.ok.blt, I.ok.above, I.ok.inj, I.ok.has, I.ok.cab, (fun z => by cases z), I.ok.frames, I.ok.stk, I.ok.exf, I.ok.bs, I.ok.bsz, I.ok.noex, I.ok.exfs, I.ok.funs, I.ok.frf⟩, I.os, I.bare, I.base, I.loc, I.cell, I.free, I.freeC, I.pin, I.hok, I.len⟩
theorem Fa (o : X.Ok) (I : Inv (X.hd a) pins σ H s) : Inv X pins σ H s := ⟨o, I.os, I.bare, I.base, I.loc, I.cell, I.free, I.freeC, I.pin, I.hok, I.len⟩
theorem Qi {D : Ends} {f : Flow} (o : X.Ok) (h : SP (X.hd a) pins D f s) : SP X pins D f s := by
 cases f with
 | next => obtain ⟨σ', H', I, q⟩ := h; exact ⟨σ', H', Fa o I, q⟩
 | brk => obtain ⟨σ', H', I, q⟩ := h; exact ⟨σ', H', Fa o I, q⟩
 | cont => obtain ⟨σ', H', I, q⟩ := h; exact ⟨σ', H', Fa o I, q⟩
 | ret u => obtain ⟨v, σ', H', I, r, q⟩ := h; exact ⟨v, σ', H', Fa o I, r, q⟩
end
def asD (a : Addr) (u : DS) : Option Nat -> DS
 | none => fun D σ H => u { D with ex := fun _ _ _ => False } σ H
 | some i => fun D σ H => u ⟨fun σ' H' => D.nx (σ'.set i none) H', D.rt, fun σ' H' => D.bk (σ'.set i none) H', fun σ' H' => D.ct (σ'.set i none) H', fun _ _ _ => False⟩ (σ.set i (some (.ref a))) H
def Hd (K : PySem.W.Frag) (C a : Addr) : List (Addr × Option Nat × DS) -> Outs -> St -> Hp -> Prop
 | [], _, _, _ => False
 | (T, oi, u) :: r, D, σ, H => ∃ b, PySem.W.mroIn K C (.ref T) = some b /\ (if b = true then asD a u oi D σ H else Hd K C a r D σ H)
def dTry (K : PySem.W.Frag) (tb : DS) (us : List (Addr × Option Nat × DS)) : DS := fun D σ H => tb { D with ex := fun σ' a H' => ∃ C dx, H' a = some (flO a C dx) /\ ECls K C /\ Hd K C a us D σ' H' } σ H
inductive AsOk (X : Cx) : Option Str -> Option Nat -> Prop where
 | no : AsOk X none none
 | as {n : Str} {i : Nat} (hN : X.N.Nodup) (hi : X.N[i]? = some n) (hl : X.env.scope.names.lookup n = some .local) : AsOk X (some n) (some i)
inductive HsOk (X : Cx) : List ExceptHandler -> List (Addr × Option Nat × DS) -> Prop where
 | nil : HsOk X [] []
 | cons {x : Str} {p pos : Pos} {nm : Option Str} {oi : Option Nat} {b : Stmt} {suite : List Stmt} {rest : List ExceptHandler} {T : Addr} {u : DS} {us : List (Addr × Option Nat × DS)} (hg : Gl X x) (hm : X.mg x = some (.ref T)) (hd : (x == ("__debug__" : Str)) = false) (ec : ECls X.K T) (ha : AsOk X nm oi) (hs : ∀ a, QSs (X.hd a) (b :: suite) u) (r : HsOk X rest us) :
   HsOk X (.ExceptHandler (some (.Name x p)) nm (b :: suite) pos :: rest) ((T, oi, u) :: us)
section
variable {X : Cx} {pins : List (Addr × Obj)}
theorem El {M : Model} {A : Around} {E : Value -> Shared -> Prop} {σ : St} {H : Hp} {s : Shared} {i : Nat} {x : Str} {pos : Pos} {Q : Unit -> Shared -> Prop} (I : Inv X pins σ H s) (hN : X.N.Nodup) (hi : X.N[i]? = some x) (hk : X.env.scope.names.lookup x = some .local)
  (h : ∀ s', Inv X pins (σ.set i none) H s' -> Q () s') : wpAny M A (do bindName X.env x .none; unbindBehindTheSuite X.env x pos) Q E s := by
 obtain ⟨m, hn, hl⟩ := id I.loc
 refine wpAny_nameGoes_keeps hk hn (by rw [I.ok.kind]; rfl) fun h' v hn' sb => h _ ?_
 have old : ∀ {b o}, X.s₀.heap.get? b = some o -> h'.get? b = s.heap.get? b := fun {b o} e => sb.2 b (Nat.ne_of_lt (Nat.lt_of_lt_of_le (Heap.lt_size e) I.ok.above))
 exact {
  ok := I.ok
  os := I.os
  bare := I.bare
  base := { I.base with
   keep := fun b o e n hb hx => by show h'.get? b = _; rw [old e]; exact I.base.keep b o e n hb hx
   slot := fun b o e n hb hx => by show ∃ sl, h'.get? b = _; rw [old e]; exact I.base.slot b o e n hb hx
   there := fun b o e hx => by show ∃ o', h'.get? b = _; rw [old e]; exact I.base.there b o e hx }
  loc := ⟨_, hn', fun j y w e1 e2 e3 => by
   have hj : j ≠ i := fun z => by
    have lt : i < σ.length := by rw [I.len]; exact (List.getElem?_eq_some_iff.mp hi).1
    rw [z, List.getElem?_set_self lt] at e2
    cases e2
   rw [List.getElem?_set_ne (Ne.symm hj)] at e2
   obtain ⟨u, r, q⟩ := hl j y w e1 e2 e3
   have ny : y ≠ x := fun z => hj (Hv hN e1 (z ▸ hi))
   refine ⟨u, r, q.imp (fun ⟨k, e⟩ => ⟨k, (if_neg ny).trans e⟩) fun ⟨k, c, e, z⟩ => ⟨k, c, e, z.sameBut sb (I.cne y c e)⟩⟩⟩
  cell := fun y c e => let ⟨w, z⟩ := I.cell y c e; ⟨w, z.sameBut sb (I.cne y c e)⟩
  free := I.free
  freeC := I.freeC
  pin := fun p hp => let ⟨e, n, ne, nf, d⟩ := I.pin p hp; ⟨(sb.2 p.1 ne).trans e, n, ne, nf, d⟩
  hok := fun b ob e => (I.hok b ob e).stay (fun c w hc q => (sb.2 c (by
   rintro rfl
   have f := I.free
   rcases hc with rfl | hc
   ·rw [f] at e; cases e
   ·rw [f] at hc; cases hc)).trans q) (fun _ q => q) fun _ _ q => q
  len := by rw [List.length_set]; exact I.len }
theorem Rg {Ex : St -> EK} {D : Ends} {hl : List ExceptHandler} {us : List (Addr × Option Nat × DS)} (K : HsOk X hl us) : ∀ {σ : St} {H : Hp} {s : Shared} {a C : Addr} {dx : Option Addr}, Inv X pins σ H s -> E2 X pins H a s -> H a = some (flO a C dx) -> ECls X.K C -> Hd X.K C a us (outs Ex D) σ H ->
  wpAny (model X.prog X.w) X.A (handleBy (.ref a) X.env hl) (SP X pins D) X.xe s := by
 induction K with
 | nil => intro σ H s a C dx I F e ec h; exact h.elim
 | @cons x p pos nm oi b suite rest T u us hg hm hd ecT ha hs r ih =>
  intro σ H s a C dx I F e ec h
  obtain ⟨m, hm2, h⟩ := h
  have hx : ∃ vs : Array Value, s.heap.get? a = some (At C dx vs) := by
   obtain ⟨vs, z, _⟩ := (I.hok a _ e).1
   exact ⟨vs, z⟩
  obtain ⟨vs, hx⟩ := hx
  refine wpAny_handleBy_cons (codeAny_handlers_test (Cy (X := X.hd a) (N4 I) hg hm ?_ hd)) (by intro q; cases q)
  refine Oh (A := (X.hd a).A) I.kIn ec ecT hx hm2 ?_
  cases m with
  | false => exact ih I F e ec h
  | true =>
   cases ha with
   | no =>
    refine codeAny_handlers_suite (Jx (A := (X.hd a).A) I F fun s1 I1 F1 => ?_)
    exact wpAny_mono (hs a (fun _ _ _ => False) Fc pins s1 σ H D (N4 I1) h) (fun f s2 q => Qi I.ok q) fun _ _ z => z.elim
   | @as n i hN hi hlo =>
    refine codeAny_handlers_suite_as (Jx (A := (X.hd a).A) I F fun s1 I1 F1 => ?_)
    refine Fk (i := i) (v := .ref a) I1 hN hi (.inl hlo) rfl (fun s2 I2 => ?_) (.inr hlo)
    refine wpAny_mono (hs a (fun _ _ _ => False) Fc pins s2 (σ.set i (some (.ref a))) H ⟨fun σ' H' => D.nx (σ'.set i none) H', D.rt, fun σ' H' => D.bk (σ'.set i none) H', fun σ' H' => D.ct (σ'.set i none) H'⟩ (N4 I2) h) (fun f s3 q => ?_) fun _ _ z => z.elim
    have q := Qi I.ok q
    cases f with
    | next => obtain ⟨σ', H', I', q⟩ := q; exact El I' hN hi hlo fun s4 I4 => ⟨_, H', I4, q⟩
    | brk => obtain ⟨σ', H', I', q⟩ := q; exact El I' hN hi hlo fun s4 I4 => ⟨_, H', I4, q⟩
    | cont => obtain ⟨σ', H', I', q⟩ := q; exact El I' hN hi hlo fun s4 I4 => ⟨_, H', I4, q⟩
    | ret w => obtain ⟨v, σ', H', I', r, q⟩ := q; exact El I' hN hi hlo fun s4 I4 => ⟨v, _, H', I4, r, q⟩
theorem ag7 {Y : Cx} {body : List Stmt} {h0 : ExceptHandler} {hs : List ExceptHandler} {pos : Pos} {tb : DS} {us : List (Addr × Option Nat × DS)} (hst : Y.stack = Y.env :: Y.outer) (hfr : Y.env.frame = some Y.env.locals)
  (hb : ∀ pn xe, PassesOwn (model Y.prog Y.w) Y.A Y.env xe -> QSs (Y.tr pn xe) body tb) (hh : HsOk Y (h0 :: hs) us) : QS Y (.Try body (h0 :: hs) [] [] pos) (dTry Y.K tb us) := by
 intro Ex m pins s σ H D I hw
 refine wpAny_Try_except ?_
 refine wpAny_mono (hb (Y.pn ++ pins) (fun e s1 => wpAny (model Y.prog Y.w) Y.A (noteFrame e Y.env) (fun _ s2 => wpAny (model Y.prog Y.w) Y.A (setFlight e none) (fun _ s3 => wpAny (model Y.prog Y.w) Y.A (handleBy e Y.env (h0 :: hs)) (SP Y pins D) Y.xe s3) Y.xe s2) Y.xe s1) PassesOwn.looking
  (fun σ' a H' => ∃ C dx, H' a = some (flO a C dx) /\ ECls Y.K C /\ Hd Y.K C a us (outs Ex D) σ' H') ?_ [] s σ H D (Z9 I) hw) (fun f s1 q => ?_) fun _ _ z => z
 ·intro pins' σ' H' s' a I' F' ⟨C, dx, e, ec, h⟩
  exact P5 (D5 I') hst hfr (Ty F') fun s2 I2 F2 => Rg hh I2 F2.at e ec h
 ·have q := Yv q
  cases f with
  | next => exact wpAny_execs_nil q
  | _ => exact q
end
def Fu : Expr -> Bool
 | .ListComp _ _ _ _ => false
 | .SetComp _ _ _ _ => false
 | .DictComp _ _ _ _ _ => false
 | _ => true
theorem Fv {e : Expr} (h : Fu e = true) (t : Option Expr) (l : Nat) (env : Env) : swapsWith e t l env = pure false := by
 cases e with
 | ListComp _ _ _ _ => cases h
 | SetComp _ _ _ _ => cases h
 | DictComp _ _ _ _ _ => cases h
 | _ => rfl
section
variable {X : Cx} {G : Sg} {st : Stmt} {rest : List Stmt} {t u : DS} {e : Expr} {de : DE} {pos p' : Pos}
theorem Bk : QS X st By := fun _ _ _ _ _ _ _ _ h => h.elim
theorem Yn : QSs X [] Ad := fun _ _ => X8
theorem Vo (h1 : QS X st t) (h2 : QSs X rest u) : QSs X (st :: rest) (dSeq t u) := fun Ex m => Vd (h1 Ex m) (h2 Ex m)
theorem Yl : QS X (.Pass pos) Ad := fun _ _ => X6
theorem ag1 : QS X (.Break pos) dBrk := fun _ _ => Vb
theorem ag2 : QS X (.Continue pos) dCnt := fun _ _ => M2
theorem ag5 (h : QE X e de) : QS X (.Return (some e) pos) (dRet de) := fun Ex m => ad9 (h Ex m)
theorem Ym : QS X (.Return none pos) Y6 := fun _ _ => X7
theorem Yk (h : QE X e de) (hn : Fu e = true) : QS X (.Expr e pos) (Dq de) := fun Ex m => X0 (h Ex m) (Fv hn _ _ _)
theorem aq2 {c : Expr} {a b : List Stmt} {tc : DT} (hc : QT X c tc) (ha : QSs X a t) (hb : QSs X b u) : QS X (.If c a b pos) (dIf tc t u) := fun Ex m => ap6 (hc Ex m) (ha Ex m) (hb Ex m)
theorem Vn {i : Nat} {x : Str} (O : GOk X G) (hi : B1 G.N x 0 = some i) (hx : okSt G x = true) (h : QE X e de) (hn : swapsWith e (some (.Name x p')) pos.line X.env = pure false) : QS X (.Assign [.Name x p'] e pos) (dSet i de) := by
 obtain ⟨h1, h2⟩ := Lg O hx
 exact fun Ex m => ae0 (by rw [O.N]; exact O.nd) (by rw [O.N]; exact Da hi) h1 (h Ex m) hn h2
variable {tg iter elt : Expr} {ifs : List Expr} {sc : Scope} {wi : DI} {g : DG} {tc : DT}
theorem Oq {i : Nat} {x : Str} {cp : Pos} (O : GOk X G) (hi : B1 G.N x 0 = some i) (hx : okSt G x = true) (hc : X.calm = true) (hk : Dy G sc = true) (hs : Ht iter = true) (hq : QI X tg iter wi) (hg : ∀ X', GOk X' (B7 G sc.names) -> PG X' tg g)
  (ht : ∀ X', GOk X' (B7 G sc.names) -> QIfs X' ifs tc) (he : ∀ X', GOk X' (B7 G sc.names) -> QE X' elt de) :
  QS X (.Assign [.Name x p'] (.ListComp elt [⟨tg, iter, ifs, 0⟩] sc cp) pos) (dSet i (Bm (Eg G sc.names) wi g tc de)) := by
 obtain ⟨h1, h2⟩ := Lg O hx
 have sw : swapsWith (.ListComp elt [⟨tg, iter, ifs, 0⟩] sc cp) (some (.Name x p')) pos.line X.env = pure (X.env.blockKind == .function && X.env.kindOf x == some .local && p'.line == (Expr.ListComp elt [⟨tg, iter, ifs, 0⟩] sc cp).pos.line
   && !(sc.names.any fun (n, k) => n == x && (k == .local || k == .cell))) := rfl
 cases hb : (X.env.blockKind == .function && X.env.kindOf x == some .local && p'.line == (Expr.ListComp elt [⟨tg, iter, ifs, 0⟩] sc cp).pos.line
   && !(sc.names.any fun (n, k) => n == x && (k == .local || k == .cell))) with
 | false =>
  rw [hb] at sw
  exact Vn O hi hx (P9 O hc hk hs hq hg ht he) sw
 | true =>
  rw [hb] at sw
  simp only [Bool.and_eq_true] at hb
  have hl : X.env.scope.names.lookup x = some .local := eq_of_beq hb.1.1.2
  intro Ex m pins s σ H D I h
  exact To hc (by rw [O.N]; exact O.nd) (by rw [O.N]; exact Da hi) hl (K3 O hk) (hq Ex m) (fun us Q2 fp C D s2 H2 I2 f2 hC =>
   have M := Hr (N' := (B7 G sc.names).N) (cl := B6 X.env.cells sc.names []) (us := us) (Q2 := Q2) (D := D) m O.fr I2 f2 hC
   have K := Pq O hk fp C s2 H2 (A9 X sc (B6 X.env.cells sc.names []) us Q2 D C)
   ⟨hg _ K, ht _ K _ M, he _ K _ M⟩) I h sw (fun x => Hu hs X.env x)
theorem ag4 {body : List Stmt} (O : GOk X G) (ht : G.top = true) (hc : X.calm = true) (hi : QI X tg iter wi) (hg : PG X tg g) (hb : QSs X body t) (hs : Ht iter = true) : QS X (.For tg iter body [] pos) (dFor wi g t) := by
 intro Ex m pins s σ H D I h
 refine wpAny_mono (ad8 (O.own ht) hc (hi Ex m) hg (hb Ex m) (fun x => Hu hs X.env x) pins s σ H { D with nx := fun σ' H' => Thaw H H' (D.nx σ') } I h) (fun f s' q => ?_) fun _ _ z => z
 cases f with
 | next =>
  obtain ⟨σ', H', I', q⟩ := q
  obtain ⟨H2, I2, q2⟩ := Thaw.inv I I' q
  exact ⟨σ', H2, I2, q2⟩
 | _ => exact q
def Br (K : PySem.W.Frag) (e : DE) : DS := fun D σ H => e σ H (Vq K (D.ex σ)) (D.ex σ)
theorem Vm (O : GOk X G) (hc : X.A.handled = none) (h : QE X e de) : QS X (.Raise (some e) none pos) (Br X.K de) := fun Ex m => Vc m hc (h Ex m)
def Mv : Expr -> Bool
 | .Tuple _ _ _ => false
 | _ => true
theorem Mw {e : Expr} (h : Mv e = true) (tg : Expr) (env : Env) : swappedStores [tg] e env = pure none := by
 cases e with
 | Tuple _ _ _ => cases h
 | _ => cases tg <;> rfl
theorem ag0 {ts : List Expr} {kt : Nat} {pt : Pos} {g : DG} (h : QE X e de) (hg : PG X (.Tuple ts kt pt) g) (hn : Fu e = true) (ht : Mv e = true) : QS X (.Assign [.Tuple ts kt pt] e pos) (dAsg de g) :=
 fun Ex m => Va (h Ex m) hg (show swapsWithSole [.Tuple ts kt pt] e pos.line X.env = pure false from Fv hn (some (.Tuple ts kt pt)) pos.line X.env) (Mw ht _ _)
def Cq (K : PySem.W.Frag) (o i : DE) : DG := fun v σ H Q => o σ H (fun x H1 => i σ H1 (fun y H2 => Zr x y v H2 (Q σ)) fun _ _ => False) fun _ _ => False
theorem ag6 {o i : Expr} {do' di : DE} (hu : X.A.units + 64 < cLine) (ho : QE X o do') (hi : QE X i di) (h : QE X e de) (ht : Mv e = true) (hsl : Fd i = true) : QS X (.Assign [.Subscript o i p'] e pos) (dAsg de (Cq X.K do' di)) := by
 intro Ex m
 have hg : PG X (.Subscript o i p') (Cq X.K do' di) := ad6 (ho _ Fc) (hi _ Fc) (aw2 hu) (by
  intro v
  cases i with
  | Slice _ _ _ _ => cases hsl
  | _ => rfl)
 exact Va (h Ex m) hg (show swapsWithSole [.Subscript o i p'] e pos.line X.env = pure false from by show swapsWith e (some (.Subscript o i p')) pos.line X.env = pure false; cases e <;> rfl) (Mw ht _ _)
def dFld (K : PySem.W.Frag) (f : Str) (o e : DE) : DS := fun D σ H => e σ H (fun y H1 => o σ H1 (fun x H2 => Vr K f x y H2 (D.nx σ)) (D.ex σ)) (D.ex σ)
theorem ag3 {o : Expr} {f : Str} {do' : DE} (ho : QE X o do') (h : QE X e de) : QS X (.Assign [.Attribute o f p'] e pos) (dFld X.K f do' de) := by
 intro Ex m pins s σ H D I hw
 refine plainObj_wpAny_Assign_Attribute (thn (h Ex m pins s σ H _ I hw) fun u s1 ⟨y, H1, I1, ry, q⟩ => thn (ho Ex m pins s1 σ H1 _ I1 q) fun ov s2 ⟨x, H2, I2, rx, q2⟩ => ?_) (by cases e <;> rfl)
 exact aw1 I2 rx ry q2 fun H' s' I' hN => ⟨σ, H', I', hN⟩
end
def valB : GB -> GB
 | .val v u => .val v u
 | .exc C _ => .val (.ref C) (.ref C)
 | .cls C _ => .val (.ref C) (.ref C)
 | _ => .met "" []
def Ck (gb : List (Str × GB)) : List (Str × GB) := gb.map fun p => (p.1, valB p.2)
theorem De (x : Str) : ∀ gb : List (Str × GB), (Ck gb).lookup x = (gb.lookup x).map valB
 | [] => rfl
 | (y, g) :: r => by
  show List.lookup x ((y, valB g) :: Ck r) = _
  rw [List.lookup_cons, List.lookup_cons]
  cases x == y with
  | true => rfl
  | false => exact De x r
theorem Je {m : Str} {l : List MI} : ∀ {gb : List (Str × GB)}, Bg (Ck gb) m = some l -> l = []
 | [], h => by cases h
 | (y, g) :: r, h => by
  have go : Bg (Ck r) m = some l -> l = [] := Je
  cases g with
  | val v u => exact go h
  | exc C i => exact go h
  | cls C i => exact go h
  | fn i =>
   have h : (if ("" : Str) = m then some [] else Bg (Ck r) m) = some l := h
   split at h
   ·cases h; rfl
   ·exact go h
  | met m' l' =>
   have h : (if ("" : Str) = m then some [] else Bg (Ck r) m) = some l := h
   split at h
   ·cases h; rfl
   ·exact go h
def hdG (G : Sg) : Sg := { G with gb := Ck G.gb, calm := false }
def Mo (gb : List (Str × GB)) (x : Str) : Option Addr := match gb.lookup x with
 | some (.exc T _) => some T
 | _ => none
def okH (G : Sg) : ExceptHandler -> Bool
 | .ExceptHandler (some (.Name x _)) nm (_ :: _) _ => isGl G x && (Mo G.gb x).isSome && (match nm with
  | none => true
  | some n => (B1 G.N n 0).isSome && (G.sc.lookup n == some .local))
 | _ => false
def Uv (G : Sg) : ExceptHandler -> Option Nat
 | .ExceptHandler _ (some n) _ _ => B1 G.N n 0
 | _ => none
def clsH (G : Sg) : ExceptHandler -> Addr
 | .ExceptHandler (some (.Name x _)) _ _ _ => (Mo G.gb x).getD 0
 | _ => 0
def Y4 : ExceptHandler -> List Stmt
 | .ExceptHandler _ _ b _ => b
theorem Z7 {X : Cx} {G : Sg} (O : GOk X G) (a : Addr) : GOk (X.hd a) (hdG G) where
 K := O.K
 kind := O.kind
 own := fun _ => PassesOwn.never
 N := O.N
 nd := O.nd
 sc := O.sc
 vis := O.vis
 top := O.top
 calm := rfl
 hd := fun z => by cases z
 units := O.units
 cel := O.cel
 fn := fun x i e => by
  have e : (Ck G.gb).lookup x = some (.fn i) := e
  rw [De] at e
  obtain ⟨g, _, z⟩ := Option.map_eq_some_iff.mp e
  cases g <;> cases z
 val := fun x v u e => by
  have e : (Ck G.gb).lookup x = some (.val v u) := e
  rw [De] at e
  obtain ⟨g, hg, z⟩ := Option.map_eq_some_iff.mp e
  cases g with
  | val v' u' => cases z; exact O.val x v u hg
  | exc C i => cases z; exact ⟨(O.exc x C i hg).1, rfl⟩
  | cls C i => cases z; exact ⟨(O.cls x C i hg).1, rfl⟩
  | fn i => cases z
  | met m l => cases z
 bl := O.bl
 exc := fun x C oi e => by
  have e : (Ck G.gb).lookup x = some (.exc C oi) := e
  rw [De] at e
  obtain ⟨g, _, z⟩ := Option.map_eq_some_iff.mp e
  cases g <;> cases z
 cls := fun x C oi e => by
  have e : (Ck G.gb).lookup x = some (.cls C oi) := e
  rw [De] at e
  obtain ⟨g, _, z⟩ := Option.map_eq_some_iff.mp e
  cases g <;> cases z
 met := fun m l e mi hm => by
  rw [Je (show Bg (Ck G.gb) m = some l from e)] at hm
  cases hm
 frm := O.frm
 fr := O.fr
theorem Qr {X : Cx} {pn : List (Addr × Obj)} {xe : Value -> Shared -> Prop} {i : FI} (F : FIOk X i) : FIOk (X.tr pn xe) i := ⟨F.kp, F.ok, F.room, F.binds, F.vals⟩
theorem aj4 {X : Cx} {G : Sg} (O : GOk X G) {pn : List (Addr × Obj)} {xe : Value -> Shared -> Prop} (ho : PassesOwn (model X.prog X.w) X.A X.env xe) : GOk (X.tr pn xe) G where
 K := O.K
 kind := O.kind
 own := fun _ => ho
 N := O.N
 nd := O.nd
 sc := O.sc
 vis := O.vis
 top := O.top
 calm := O.calm
 hd := O.hd
 units := O.units
 cel := O.cel
 fn := fun x i e => ⟨(O.fn x i e).1, Qr (O.fn x i e).2⟩
 val := O.val
 bl := O.bl
 exc := fun x C oi e => by
  obtain ⟨a, b, c, d⟩ := O.exc x C oi e
  refine ⟨a, b, c, ?_⟩
  cases oi with
  | none => exact d
  | some i => exact ⟨d.1, d.2.1, Qr d.2.2.1, d.2.2.2⟩
 cls := fun x C oi e => by
  obtain ⟨a, b, d⟩ := O.cls x C oi e
  refine ⟨a, b, ?_⟩
  cases oi with
  | none => exact d
  | some i => exact ⟨d.1, d.2.1, d.2.2.1, Qr d.2.2.2.1, d.2.2.2.2⟩
 met := fun m l e mi hm => ⟨(O.met m l e mi hm).1, (O.met m l e mi hm).2.1, Qr (O.met m l e mi hm).2.2⟩
 frm := O.frm
 fr := O.fr
theorem Ux {G : Sg} {h : ExceptHandler} (hh : okH G h = true) : ∃ x p nm b suite pos, h = .ExceptHandler (some (.Name x p)) nm (b :: suite) pos /\ isGl G x = true /\ (Mo G.gb x).isSome = true /\ ∀ n, nm = some n -> (B1 G.N n 0).isSome = true /\ G.sc.lookup n = some .local := by
 unfold okH at hh
 split at hh
 ·rw [Bool.and_eq_true, Bool.and_eq_true] at hh
  refine ⟨_, _, _, _, _, _, rfl, hh.1.1, hh.1.2, fun n e => ?_⟩
  have h2 := hh.2
  rw [e] at h2
  have h2 : ((B1 G.N n 0).isSome && (G.sc.lookup n == some .local)) = true := h2
  rw [Bool.and_eq_true] at h2
  exact ⟨h2.1, eq_of_beq h2.2⟩
 ·cases hh
theorem Zb {X : Cx} {G : Sg} (O : GOk X G) {w : List Stmt -> DS} (h : ∀ a ss, QSs (X.hd a) ss (w ss)) : ∀ {hl : List ExceptHandler}, hl.all (okH G) = true -> HsOk X hl (hl.map fun h => (clsH G h, Uv G h, w (Y4 h)))
 | [], _ => .nil
 | e0 :: r, hh => by
  rw [List.all_cons, Bool.and_eq_true] at hh
  obtain ⟨h1, h2⟩ := hh
  obtain ⟨x, p, nm, b, suite, pos, rfl, hg, hs, hnm⟩ := Ux h1
  obtain ⟨T, hT⟩ := Option.isSome_iff_exists.mp hs
  have hl : ∃ oi, G.gb.lookup x = some (.exc T oi) := by
   unfold Mo at hT
   split at hT
   ·rename_i T' oi e; cases hT; exact ⟨oi, e⟩
   ·cases hT
  obtain ⟨oi, hl⟩ := hl
  obtain ⟨m, kp, ec, _⟩ := O.exc x T oi hl
  have e : clsH G (.ExceptHandler (some (.Name x p)) nm (b :: suite) pos) = T := by show (Mo G.gb x).getD 0 = T; rw [hT]; rfl
  rw [List.map_cons, e]
  have ao : AsOk X nm (Uv G (.ExceptHandler (some (.Name x p)) nm (b :: suite) pos)) := by
   cases nm with
   | none => exact .no
   | some n =>
    obtain ⟨z1, z2⟩ := hnm n rfl
    obtain ⟨i, hi⟩ := Option.isSome_iff_exists.mp z1
    show AsOk X (some n) (B1 G.N n 0)
    rw [hi]
    exact .as (by rw [O.N]; exact O.nd) (by rw [O.N]; exact Da hi) (by rw [O.sc]; exact z2)
  exact .cons (O.gl hg) m (N8 hg).1 ec ao (fun a => h a _) (Zb O h h2)
mutual
def wS : Nat -> Sg -> Stmt -> DS
 | 0, _, _ => By
 | n + 1, G, st => match st with
  | .Pass _ => Ad
  | .Break _ => dBrk
  | .Continue _ => dCnt
  | .Return (some e) _ => dRet (wE n G e)
  | .Return none _ => Y6
  | .Expr e _ => if Fu e = true then Dq (wE n G e) else By
  | .If c a b _ => dIf (wT n G c) (wSs n G a) (wSs n G b)
  | .Assign [.Name x _] (.ListComp elt [⟨tg, iter, ifs, 0⟩] sc _) _ => match B1 G.N x 0 with
   | some i => if okSt G x = true /\ G.calm = true /\ Dy G sc = true /\ Ht iter = true then
     dSet i (Bm (Eg G sc.names) (wI n G tg iter) (wG n (B7 G sc.names) tg) (match ifs with | [] => dYes | [c] => wT n (B7 G sc.names) c | _ => tNo) (wE n (B7 G sc.names) elt)) else By
   | none => By
  | .Assign [.Name x _] e _ => match B1 G.N x 0 with
   | some i => if okSt G x = true /\ Fu e = true then dSet i (wE n G e) else By
   | none => By
  | .Assign [.Tuple ts kt pt] e _ => if Fu e = true /\ Mv e = true then dAsg (wE n G e) (wG n G (.Tuple ts kt pt)) else By
  | .Assign [.Attribute o f _] e _ => dFld G.K f (wE n G o) (wE n G e)
  | .Assign [.Subscript o i _] e _ => if Mv e = true /\ Fd i = true then dAsg (wE n G e) (Cq G.K (wE n G o) (wE n G i)) else By
  | .Raise (some e) none _ => if G.calm = true then Br G.K (wE n G e) else By
  | .For tg iter body [] _ => if G.calm = true /\ Ht iter = true /\ G.top = true then dFor (wI n G tg iter) (wG n G tg) (wSs n G body) else By
  | .Try body (h :: hs) [] [] _ => if G.top = true /\ (h :: hs).all (okH G) = true then dTry G.K (wSs n G body) ((h :: hs).map fun h => (clsH G h, Uv G h, wSs n (hdG G) (Y4 h))) else By
  | _ => By
def wSs : Nat -> Sg -> List Stmt -> DS
 | 0, _, _ => By
 | _ + 1, _, [] => Ad
 | n + 1, G, s :: r => dSeq (wS n G s) (wSs n G r)
end
theorem Z0 : ∀ (n : Nat) (X : Cx) (G : Sg), GOk X G -> (∀ s, QS X s (wS n G s)) /\ (∀ ss, QSs X ss (wSs n G ss)) := by
 intro n
 induction n with
 | zero =>
  intro X G O
  refine ⟨fun s => ?_, fun s => ?_⟩
  ·unfold wS; exact Bk
  ·unfold wSs; exact fun _ _ _ _ _ _ _ _ h => h.elim
 | succ n ih =>
  intro X G O
  obtain ⟨hS, hSs⟩ := ih X G O
  obtain ⟨hE, hT, hI⟩ := w_ok n X G O
  refine ⟨fun s => ?_, fun s => ?_⟩
  ·unfold wS
   split
   ·exact Yl
   ·exact ag1
   ·exact ag2
   ·exact ag5 (hE _)
   ·exact Ym
   ·split
    ·exact Yk (hE _) ‹_›
    ·exact Bk
   ·exact aq2 (hT _) (hSs _) (hSs _)
   ·split
    ·rename_i i e
     split
     ·rename_i hh
      obtain ⟨h1, h2, h3, h4⟩ := hh
      refine Oq O e h1 (O.calm ▸ h2) h3 h4 (hI _ _) (fun X' O' => Nl n X' _ O' _) (fun X' O' => ?_) (fun X' O' => (w_ok n X' _ O').1 _)
      split
      ·exact M3
      ·exact M4 ((w_ok n X' _ O').2.1 _)
      ·exact fun _ _ _ _ _ _ _ _ h => h.elim
     ·exact Bk
    ·exact Bk
   ·split
    ·rename_i i e
     split
     ·rename_i hh
      exact Vn O e hh.1 (hE _) (Fv hh.2 _ _ _)
     ·exact Bk
    ·exact Bk
   ·split
    ·rename_i hh
     exact ag0 (hE _) (Nl n X G O _) hh.1 hh.2
    ·exact Bk
   ·rw [<- O.K]; exact ag3 (hE _) (hE _)
   ·split
    ·rename_i hh
     rw [<- O.K]; exact ag6 O.units (hE _) (hE _) (hE _) hh.1 hh.2
    ·exact Bk
   ·split
    ·rename_i hcm
     rw [<- O.K]; exact Vm O (O.hd (O.calm ▸ hcm)) (hE _)
    ·exact Bk
   ·split
    ·rename_i hh
     exact ag4 O hh.2.2 (O.calm ▸ hh.1) (hI _ _) (Nl n X G O _) (hSs _) hh.2.1
    ·exact Bk
   ·split
    ·rename_i hh
     rw [<- O.K]
     exact ag7 (O.frm hh.1).1 (O.frm hh.1).2 (fun pn xe ho => (ih _ _ (aj4 O ho)).2 _) (Zb O (fun a ss => (ih _ _ (Z7 O a)).2 ss) hh.2)
    ·exact Bk
   ·exact Bk
  ·cases s with
   | nil => unfold wSs; exact Yn
   | cons a r => unfold wSs; exact Vo (hS a) (hSs r)
section
variable {P : Program} {w : World} {K : PySem.W.Frag} {mg : Str -> Option Value} {base : Heap}
structure FnIn (P : Program) (w : World) (K : PySem.W.Frag) (mg : Str -> Option Value) (base : Heap) (k : Nat) (x : Str) (i : FI) : Prop where
 at_ : mg x = some (.ref i.f)
 kp : PySem.W.keepIn K (.ref i.f) = true
 ok : ∃ CX, (∀ X' : Cx, X'.prog = P -> X'.w = w -> Jj CX X') /\ FnOk P w K mg base CX i.k i.f i.fd i.ps i.sp
 le : i.k <= k
 binds : ∀ j, j <= i.dfs.length -> Binds K i.fd i.ps (i.ds.drop j)
 vals : Vals i.dfs i.ds
def Z1 (P : Program) (w : World) (K : PySem.W.Frag) (mg : Str -> Option Value) (base : Heap) (k : Nat) (C : Addr) : Option FI -> Prop
 | none => PySem.W.findIn K (.ref C) "__init__" = some (some (.builtin "ValueError.__init__"))
 | some i => PySem.W.findIn K (.ref C) "__init__" = some (some (.ref i.f)) /\ PySem.W.isFn K (.ref i.f) = true /\ PySem.W.keepIn K (.ref i.f) = true /\ (∃ CX, (∀ X' : Cx, X'.prog = P -> X'.w = w -> Jj CX X') /\ FnOk P w K mg base CX i.k i.f i.fd i.ps i.sp) /\
   i.k + 1 <= k /\ (∀ j, j <= i.dfs.length -> Binds K i.fd i.ps (i.ds.drop j)) /\ Vals i.dfs i.ds
structure ExcIn (P : Program) (w : World) (K : PySem.W.Frag) (mg : Str -> Option Value) (base : Heap) (k : Nat) (x : Str) (C : Addr) (oi : Option FI) : Prop where
 at_ : mg x = some (.ref C)
 kp : PySem.W.keepIn K (.ref C) = true
 cls : ECls K C
 init : Z1 P w K mg base k C oi
structure FiIn (P : Program) (w : World) (K : PySem.W.Frag) (mg : Str -> Option Value) (base : Heap) (k : Nat) (i : FI) : Prop where
 kp : PySem.W.keepIn K (.ref i.f) = true
 ok : ∃ CX, (∀ X' : Cx, X'.prog = P -> X'.w = w -> Jj CX X') /\ FnOk P w K mg base CX i.k i.f i.fd i.ps i.sp
 le : i.k <= k
 binds : ∀ j, j <= i.dfs.length -> Binds K i.fd i.ps (i.ds.drop j)
 vals : Vals i.dfs i.ds
theorem FiIn.mono {k k' : Nat} {i : FI} (F : FiIn P w K mg base k i) (h : k <= k') : FiIn P w K mg base k' i := ⟨F.kp, F.ok, Nat.le_trans F.le h, F.binds, F.vals⟩
def MkIn (P : Program) (w : World) (K : PySem.W.Frag) (mg : Str -> Option Value) (base : Heap) (k : Nat) (C : Addr) : Option FI -> Prop
 | none => PySem.W.makesIn K C = true /\ PySem.W.findIn K (.ref C) "__init__" = some (some (.builtin "object.__init__"))
 | some i => PySem.W.makesIn K C = true /\ PySem.W.findIn K (.ref C) "__init__" = some (some (.ref i.f)) /\ PySem.W.isFn K (.ref i.f) = true /\ FiIn P w K mg base k i /\ i.k + 1 <= k
structure ClsIn (P : Program) (w : World) (K : PySem.W.Frag) (mg : Str -> Option Value) (base : Heap) (k : Nat) (x : Str) (C : Addr) (oi : Option FI) : Prop where
 at_ : mg x = some (.ref C)
 kp : PySem.W.keepIn K (.ref C) = true
 made : MkIn P w K mg base k C oi
theorem ClsIn.mono {k k' : Nat} {x : Str} {C : Addr} {oi : Option FI} (F : ClsIn P w K mg base k x C oi) (h : k <= k') : ClsIn P w K mg base k' x C oi := by
 refine ⟨F.at_, F.kp, ?_⟩
 cases oi with
 | none => exact F.made
 | some i => obtain ⟨a, b, c, d, e⟩ := F.made; exact ⟨a, b, c, d.mono h, Nat.le_trans e h⟩
structure MetIn (P : Program) (w : World) (K : PySem.W.Frag) (mg : Str -> Option Value) (base : Heap) (k : Nat) (m : Str) (mi : MI) : Prop where
 cls : Cls K mi.C
 at_ : Meth K mi.C m mi.i.f
 fi : FiIn P w K mg base k mi.i
theorem MetIn.mono {k k' : Nat} {m : Str} {mi : MI} (F : MetIn P w K mg base k m mi) (h : k <= k') : MetIn P w K mg base k' m mi := ⟨F.cls, F.at_, F.fi.mono h⟩
theorem ExcIn.mono {P : Program} {w : World} {K : PySem.W.Frag} {mg : Str -> Option Value} {base : Heap} {k k' : Nat} {x : Str} {C : Addr} {oi : Option FI} (F : ExcIn P w K mg base k x C oi) (h : k <= k') : ExcIn P w K mg base k' x C oi := by
 refine ⟨F.at_, F.kp, F.cls, ?_⟩
 cases oi with
 | none => exact F.init
 | some i => obtain ⟨a, b, c, d, e, f⟩ := F.init; exact ⟨a, b, c, d, Nat.le_trans e h, f⟩
structure Tab (P : Program) (w : World) (K : PySem.W.Frag) (mg : Str -> Option Value) (base : Heap) (k : Nat) (gb : List (Str × GB)) (bl : List Str) : Prop where
 fn : ∀ x i, (x, GB.fn i) ∈ gb -> FnIn P w K mg base k x i
 val : ∀ x v u, (x, GB.val v u) ∈ gb -> mg x = some u /\ RelV v u
 bl : ∀ x ∈ bl, mg x = none
 exc : ∀ x C oi, (x, GB.exc C oi) ∈ gb -> ExcIn P w K mg base k x C oi
 cls : ∀ x C oi, (x, GB.cls C oi) ∈ gb -> ClsIn P w K mg base k x C oi
 met : ∀ x m l, (x, GB.met m l) ∈ gb -> ∀ mi ∈ l, MetIn P w K mg base k m mi
theorem FnIn.mono {k k' : Nat} {x : Str} {i : FI} (F : FnIn P w K mg base k x i) (h : k <= k') : FnIn P w K mg base k' x i := ⟨F.at_, F.kp, F.ok, Nat.le_trans F.le h, F.binds, F.vals⟩
theorem Tab.nil {bl : List Str} (h : ∀ x ∈ bl, mg x = none) : Tab P w K mg base 0 [] bl := ⟨fun _ _ h => (by cases h), fun _ _ _ h => (by cases h), h, fun _ _ _ h => (by cases h), fun _ _ _ h => (by cases h), fun _ _ _ h => (by cases h)⟩
theorem Tab.mono {k k' : Nat} {gb : List (Str × GB)} {bl : List Str} (T : Tab P w K mg base k gb bl) (h : k <= k') : Tab P w K mg base k' gb bl := ⟨fun x i hx => (T.fn x i hx).mono h, T.val, T.bl, fun x C oi hx => (T.exc x C oi hx).mono h, fun x C oi hx => (T.cls x C oi hx).mono h, fun x m l hx mi hm => (T.met x m l hx mi hm).mono h⟩
theorem Tab.cons {k : Nat} {gb : List (Str × GB)} {bl : List Str} {x : Str} {i : FI} (T : Tab P w K mg base k gb bl) (F : FnIn P w K mg base k x i) : Tab P w K mg base k ((x, .fn i) :: gb) bl :=
 ⟨fun y j hy => by
  rcases List.mem_cons.mp hy with e | e
  ·cases e; exact F
  ·exact T.fn y j e, fun y v' u' hy => by
  rcases List.mem_cons.mp hy with e | e
  ·cases e
  ·exact T.val y v' u' e, T.bl, fun y C' oi' hy => by
  rcases List.mem_cons.mp hy with e | e
  ·cases e
  ·exact T.exc y C' oi' e, fun y C' oi' hy => by
  rcases List.mem_cons.mp hy with e | e
  ·cases e
  ·exact T.cls y C' oi' e, fun y m' l' hy => by
  rcases List.mem_cons.mp hy with e | e
  ·cases e
  ·exact T.met y m' l' e⟩
theorem Tab.consX {k : Nat} {gb : List (Str × GB)} {bl : List Str} {x : Str} {C : Addr} {oi : Option FI} (T : Tab P w K mg base k gb bl) (F : ExcIn P w K mg base k x C oi) : Tab P w K mg base k ((x, .exc C oi) :: gb) bl :=
 ⟨fun y j hy => by
  rcases List.mem_cons.mp hy with e | e
  ·cases e
  ·exact T.fn y j e, fun y v' u' hy => by
  rcases List.mem_cons.mp hy with e | e
  ·cases e
  ·exact T.val y v' u' e, T.bl, fun y C' oi' hy => by
  rcases List.mem_cons.mp hy with e | e
  ·cases e; exact F
  ·exact T.exc y C' oi' e, fun y C' oi' hy => by
  rcases List.mem_cons.mp hy with e | e
  ·cases e
  ·exact T.cls y C' oi' e, fun y m' l' hy => by
  rcases List.mem_cons.mp hy with e | e
  ·cases e
  ·exact T.met y m' l' e⟩
theorem Tab.consV {k : Nat} {gb : List (Str × GB)} {bl : List Str} {x : Str} {v : V} {u : Value} (T : Tab P w K mg base k gb bl) (F : mg x = some u) (r : RelV v u) : Tab P w K mg base k ((x, .val v u) :: gb) bl :=
 ⟨fun y j hy => by
  rcases List.mem_cons.mp hy with e | e
  ·cases e
  ·exact T.fn y j e, fun y v' u' hy => by
  rcases List.mem_cons.mp hy with e | e
  ·cases e; exact ⟨F, r⟩
  ·exact T.val y v' u' e, T.bl, fun y C' oi' hy => by
  rcases List.mem_cons.mp hy with e | e
  ·cases e
  ·exact T.exc y C' oi' e, fun y C' oi' hy => by
  rcases List.mem_cons.mp hy with e | e
  ·cases e
  ·exact T.cls y C' oi' e, fun y m' l' hy => by
  rcases List.mem_cons.mp hy with e | e
  ·cases e
  ·exact T.met y m' l' e⟩
theorem Tab.consC {k : Nat} {gb : List (Str × GB)} {bl : List Str} {x : Str} {C : Addr} {oi : Option FI} (T : Tab P w K mg base k gb bl) (F : ClsIn P w K mg base k x C oi) : Tab P w K mg base k ((x, .cls C oi) :: gb) bl :=
 ⟨fun y j hy => by
  rcases List.mem_cons.mp hy with e | e
  ·cases e
  ·exact T.fn y j e, fun y v' u' hy => by
  rcases List.mem_cons.mp hy with e | e
  ·cases e
  ·exact T.val y v' u' e, T.bl, fun y C' oi' hy => by
  rcases List.mem_cons.mp hy with e | e
  ·cases e
  ·exact T.exc y C' oi' e, fun y C' oi' hy => by
  rcases List.mem_cons.mp hy with e | e
  ·cases e; exact F
  ·exact T.cls y C' oi' e, fun y m' l' hy => by
  rcases List.mem_cons.mp hy with e | e
  ·cases e
  ·exact T.met y m' l' e⟩
theorem Tab.consM {k : Nat} {gb : List (Str × GB)} {bl : List Str} {x : Str} {m : Str} {l : List MI} (T : Tab P w K mg base k gb bl) (F : ∀ mi ∈ l, MetIn P w K mg base k m mi) : Tab P w K mg base k ((x, .met m l) :: gb) bl :=
 ⟨fun y j hy => by
  rcases List.mem_cons.mp hy with e | e
  ·cases e
  ·exact T.fn y j e, fun y v' u' hy => by
  rcases List.mem_cons.mp hy with e | e
  ·cases e
  ·exact T.val y v' u' e, T.bl, fun y C' oi' hy => by
  rcases List.mem_cons.mp hy with e | e
  ·cases e
  ·exact T.exc y C' oi' e, fun y C' oi' hy => by
  rcases List.mem_cons.mp hy with e | e
  ·cases e
  ·exact T.cls y C' oi' e, fun y m' l' hy => by
  rcases List.mem_cons.mp hy with e | e
  ·cases e; exact F
  ·exact T.met y m' l' e⟩
theorem Hy (X : Cx) : Jj CX0 X := fun _ _ _ _ _ _ _ _ _ h => h.elim
def defG (K : PySem.W.Frag) (N : List Str) (sc : Scope) (gb : List (Str × GB)) (bl : List Str) : Sg := ⟨K, N, sc.names, gb, bl, true, true⟩
def As (N : List Str) (sc : Scope) : Bool := N.all fun x => (sc.names.lookup x == some .local) || (sc.names.lookup x == some .cell)
def Z4 (Q : VK) (E : EK) : Outs := ⟨fun _ H' => Q .non H', Q, fun _ _ => False, fun _ _ => False, fun _ => E⟩
structure FunD (K : PySem.W.Frag) (x qual : Str) (st : Stmt) (f : Addr) (fd : FuncData) (dV : Value) : Prop where
 ex : ∃ (oc : Value) (od : Option Addr) (kV doc pm : Value) (an : Option Addr) (cdv ct : Value) (osl : Array (Option Value)),
  fd = PySem.W.fnOf x qual (Bf st) (Ag st) (Ab st) dV kV doc pm an cdv ct /\ K.lookup f = some ⟨oc, od, .func fd, osl⟩ /\ PySem.W.codeIn K cdv qual = true
 kp : PySem.W.keepIn K (.ref f) = true
theorem Fun.toD {x qual : Str} {st : Stmt} {f : Addr} {fd : FuncData} (F : Fun K x qual st f fd) : FunD K x qual st f fd .none := ⟨F.ex, F.kp⟩
theorem Xd {x qual : Str} {st : Stmt} {f : Addr} {oc : Value} {od an : Option Addr} {osl : Array (Option Value)} {dV kV doc pm cdv ct : Value} (l : K.lookup f = some ⟨oc, od, .func (PySem.W.fnOf x qual (Bf st) (Ag st) (Ab st) dV kV doc pm an cdv ct), osl⟩)
  (c : PySem.W.codeIn K cdv qual = true) (k : PySem.W.keepIn K (.ref f) = true) : FunD K x qual st f (PySem.W.fnOf x qual (Bf st) (Ag st) (Ab st) dV kV doc pm an cdv ct) dV := ⟨⟨oc, od, kV, doc, pm, an, cdv, ct, osl, rfl, l, c⟩, k⟩
theorem FunD.ok {x qual : Str} {st : Stmt} {f : Addr} {fd : FuncData} {dV : Value} {N ps : List Str} {k : Nat} {sp : Sp} (F : FunD K x qual st f fd dV) (S : Ai N ps (Ab st)) (len : ∀ vs H Q E, sp vs H Q E -> vs.length = ps.length)
  (hbody : ∀ (cdv : Value) (A : Around) (outer : List Env) (s : Shared) (H : Hp) (vs : List V) (Q : VK) (E : XK), Room k (A.deeper (envOfC qual (Ab st) s.heap.objs.size f cdv)) -> sp vs H Q E ->
   ∃ t, PSs (cxOf CX0 P w K mg base N qual (Ab st) f cdv A outer s H E).nox (Ag st) t /\ t { nx := fun _ H' => Q .non H', rt := Q } (Et N vs) H) : FnOk P w K mg base CX0 (k + 1) f fd ps sp := by
 obtain ⟨oc, od, kV, doc, pm, an, cdv, ct, osl, rfl, lk, hcd⟩ := F.ex
 refine Za lk hcd S len fun A outer s H vs Q E hr hsp => ?_
 obtain ⟨t, h, q⟩ := hbody cdv A outer s H vs Q E hr hsp
 exact ⟨t, h.nox, q⟩
theorem Nq {fd : FuncData} {ps : List Str} {T : Addr} {o : Obj} {items : Array Value} {n : Nat} {ds : List Value} (hd : fd.defaults = .ref T) (ho : K.lookup T = some o) (hs : o.data = .seq items n)
  (h : ∀ us : List Value, (us ++ ds).length = ps.length -> ∃ k : Option (Array Value) -> Sem (List (Str × Value)), bindArgs fd ⟨us, []⟩ = seqItems? fd.defaults >>= k /\ k (some items) = pure (ps.zip (us ++ ds))) : Binds K fd ps ds := fun s us X hl => by
 obtain ⟨k, h1, h2⟩ := h us hl
 exact PySem.W.binds_K X hd ho hs h1 h2
theorem FunD.okW0 {x qual : Str} {st : Stmt} {f : Addr} {fd : FuncData} {N ps : List Str} {k n : Nat} {sp : Sp} {gb : List (Str × GB)} {bl : List Str} {t : DS} {dV : Value} (F : FunD K x qual st f fd dV) (S : Ai N ps (Ab st)) (hv : As N (Ab st) = true)
  (T : Tab P w K mg base k gb bl) (rd : wSs n (defG K N (Ab st) gb bl) (Ag st) = t) (len : ∀ vs H Q E, sp vs H Q E -> vs.length = ps.length)
  (hbody : ∀ (vs : List V) (H : Hp) (Q : VK) (E : XK), sp vs H Q E -> t (Z4 Q fun _ _ => False) (Et N vs) H) : FnOk P w K mg base CX0 (k + 1) f fd ps sp := by
 refine F.ok S len fun cdv A outer s H vs Q E hr h => ?_
 have O : GOk (cxOf CX0 P w K mg base N qual (Ab st) f cdv A outer s H E).nox (defG K N (Ab st) gb bl) := by
  refine ⟨rfl, S.kind, (fun _ => PassesOwn.never), rfl, S.nd, fun x => rfl, fun x hx => ?_, fun _ _ => rfl, rfl, (fun _ => hr.hd), hr.units, fun x hx => ?_, fun x i e => ?_, fun x v u e => ?_, fun x hx => ?_, fun x C oi e => ?_, fun x C oi e => ?_, fun m l e mi hm => ?_, (fun _ => ⟨rfl, rfl⟩), ⟨_, _, _, rfl, rfl, rfl⟩⟩
  ·have := List.all_eq_true.mp hv x hx
   rw [Bool.or_eq_true] at this
   exact this.elim (fun z => .inl (eq_of_beq z)) fun z => .inr (.inl (eq_of_beq z))
  ·rcases hx with hx | hx
   ·exact E5 hx
   ·exact absurd rfl (S.nofree _ (PySem.mem_of_lookup hx))
  ·have FI := T.fn x i (PySem.mem_of_lookup e)
   exact ⟨FI.at_, FI.kp, FI.ok, hr.mono FI.le, FI.binds, FI.vals⟩
  ·exact T.val x v u (PySem.mem_of_lookup e)
  ·exact T.bl x (by have hx' : bl.contains x = true := hx; simpa using hx')
  ·have EI := T.exc x C oi (PySem.mem_of_lookup e)
   refine ⟨EI.at_, EI.kp, EI.cls, ?_⟩
   cases oi with
   | none => exact EI.init
   | some i => obtain ⟨a, b, c, d, e, f, g⟩ := EI.init; exact ⟨a, b, ⟨c, d, hr.mono (by omega), f, g⟩, hr.mono e⟩
  ·have CI := T.cls x C oi (PySem.mem_of_lookup e)
   refine ⟨CI.at_, CI.kp, ?_⟩
   cases oi with
   | none => exact CI.made
   | some i => obtain ⟨a, b, c, d, e⟩ := CI.made; exact ⟨a, b, c, ⟨d.kp, d.ok, hr.mono d.le, d.binds, d.vals⟩, hr.mono e⟩
  ·obtain ⟨x, hx⟩ := Bo e
   have MI := T.met x m l hx mi hm
   exact ⟨MI.cls, MI.at_, ⟨MI.fi.kp, MI.fi.ok, hr.mono MI.fi.le, MI.fi.binds, MI.fi.vals⟩⟩
 refine ⟨_, (Z0 n _ _ O).2 (Ag st) (fun _ _ _ => False) (fun _ _ _ _ _ _ _ h => h.elim), ?_⟩
 rw [rd]
 exact hbody vs H Q E h
end
theorem Same.upd {H : Hp} {a : Addr} {o : HO} (h : H a = none) : Same H (upd H a o) := fun b u e => by rw [Af (Ae e h)]; exact e
theorem Same.set {H H' : Hp} {a : Addr} {o : HO} (s : Same H H') (h : H a = none) : Same H (L2.upd H' a o) := fun b u e => by rw [Af (Ae e h)]; exact s b u e
theorem Same.seqT {K : PySem.W.Frag} {H H' : Hp} {a : Addr} {xs : List V} (e : Same H H') (h : SqT K H a xs) : SqT K H' a xs := by
 rcases h with (h | ⟨o, h⟩) | h
 ·exact .inl (.inl (e _ _ h))
 ·exact .inl (.inr ⟨o, e _ _ h⟩)
 ·exact .inr h
structure C4 (J : It) (its : List V) (ok : Hp -> Prop) : Prop where
 go : ∀ i H, ok H -> i < its.length -> J.go i H
 stop : ∀ H, ok H -> J.stop its.length H
 yld : ∀ i H x H', ok H -> i < its.length -> J.yld i H x H' -> H' = H /\ its[i]? = some x
structure Gq (J : It) (its : List (V × V)) (ok : Hp -> Prop) : Prop where
 go : ∀ i H, ok H -> i < its.length -> J.go i H
 stop : ∀ H, ok H -> J.stop its.length H
 yld : ∀ i H v H', ok H -> i < its.length -> J.yld i H v H' -> ∃ T x y, H T = none /\ v = .ref T /\ its[i]? = some (x, y) /\ H' = upd H T (.tup [x, y])
def D9 (z : Str) : List V := z.cps.toList.map fun c => V.str ⟨#[c]⟩
theorem ak5 (z : Str) : C4 (Its z) (D9 z) (fun _ => True) := by
 have e : (D9 z).length = z.cps.size := by unfold D9; simp
 refine ⟨fun i H _ h => ?_, fun H _ => ?_, fun i H x H' _ _ h => ?_⟩
 ·show i < z.cps.size; omega
 ·show (D9 z).length = z.cps.size; exact e
 ·obtain ⟨h1, c, h2, h3⟩ := h
  refine ⟨h1, ?_⟩
  unfold D9
  rw [List.getElem?_map, Array.getElem?_toList, h2, h3]
  rfl
theorem A0 {K : PySem.W.Frag} {a : Addr} (xs : List V) : C4 (Itl K a) xs (fun H => SqL K H a xs) := by
 refine ⟨fun i H q h => ⟨xs, xs[i], q, by simp [h]⟩, fun H q => ⟨xs, q, Nat.le_refl _⟩, fun i H x H' q _ h => ?_⟩
 obtain ⟨h1, h2⟩ := h
 exact ⟨h1, h2 xs q⟩
theorem Ws {K : PySem.W.Frag} {a : Addr} (xs : List V) : C4 (Itt K a) xs (fun H => SqT K H a xs) := by
 refine ⟨fun i H q h => ⟨xs, xs[i], q, by simp [h]⟩, fun H q => ⟨xs, q, Nat.le_refl _⟩, fun i H x H' q _ h => ?_⟩
 obtain ⟨h1, h2⟩ := h
 exact ⟨h1, h2 xs q⟩
def rngV (lo : Int) (n : Nat) : List V := (List.range n).map fun (i : Nat) => V.int (lo + (i : Int))
theorem Be (lo : Int) (n : Nat) : (rngV lo n).length = n := by unfold rngV; simp
theorem Ie {lo : Int} {n i : Nat} (h : i < n) : (rngV lo n)[i]? = some (.int (lo + (i : Int))) := by unfold rngV; simp [h]
theorem Ch (lo : Int) (n : Nat) : C4 (Itr lo n) (rngV lo n) (fun _ => True) := by
 refine ⟨fun i H _ h => ?_, fun H _ => ?_, fun i H x H' _ hi h => ?_⟩
 ·rw [Be] at h; exact h
 ·show n <= (rngV lo n).length; rw [Be]; exact Nat.le_refl _
 ·obtain ⟨h1, h2⟩ := h
  rw [Be] at hi
  exact ⟨h1, by rw [Ie hi, h2]⟩
def rngS (lo st : Int) (n : Nat) : List V := (List.range n).map fun (i : Nat) => V.int (lo + (i : Int) * st)
theorem Id (lo st : Int) (n : Nat) : (rngS lo st n).length = n := by unfold rngS; simp
theorem Y2 (lo st : Int) (n : Nat) : C4 (Itst lo st n) (rngS lo st n) (fun _ => True) := by
 refine ⟨fun i H _ h => ?_, fun H _ => ?_, fun i H x H' _ hi h => ?_⟩
 ·rw [Id] at h; exact h
 ·show n <= (rngS lo st n).length; rw [Id]; exact Nat.le_refl _
 ·obtain ⟨h1, h2⟩ := h
  rw [Id] at hi
  exact ⟨h1, by rw [h2]; unfold rngS; simp [hi]⟩
def Ds : Nat -> List V -> List (V × V)
 | _, [] => []
 | k, x :: r => (.int k, x) :: Ds (k + 1) r
theorem Bz : ∀ (k : Nat) (xs : List V), (Ds k xs).length = xs.length
 | _, [] => rfl
 | k, _ :: r => by rw [Ds, List.length_cons, List.length_cons, Bz (k + 1) r]
theorem Cm : ∀ {k i : Nat} {xs : List V} {x : V}, xs[i]? = some x -> (Ds k xs)[i]? = some (.int ((k + i : Nat) : Int), x)
 | _, _, [], _, h => by simp at h
 | k, 0, y :: r, x, h => by
  simp only [List.getElem?_cons_zero, Option.some.injEq] at h
  subst h
  rfl
 | k, i + 1, y :: r, x, h => by
  rw [List.getElem?_cons_succ] at h
  rw [Ds, List.getElem?_cons_succ, Cm h]
  congr 4
  omega
theorem Qt {K : PySem.W.Frag} {a : Addr} (xs : List V) : Gq (Ite K a) (Ds 0 xs) (fun H => SqL K H a xs) := by
 have e := Bz 0 xs
 refine ⟨fun i H q h => ⟨xs, xs[i]'(by omega), q, by simp⟩, fun H q => ⟨xs, q, by omega⟩, fun i H v H' q _ h => ?_⟩
 obtain ⟨T, x, hT, h1, h2, h4⟩ := h
 refine ⟨T, .int i, x, hT, h1, ?_, h4⟩
 have := Cm (k := 0) (h2 xs q)
 rw [Nat.zero_add] at this
 exact this
section
variable {J : It} {its : List V} {ok : Hp -> Prop} {g : DG} {tb : DS} {D : Outs} {σ : St} {H : Hp}
theorem Bh (Y : C4 J its ok) (Pv : Nat -> St -> Hp -> Prop) (h0 : Pv 0 σ H) (hok : ∀ i σ H, i <= its.length -> Pv i σ H -> ok H)
  (hs : ∀ i x σ H, its[i]? = some x -> Pv i σ H -> g x σ H fun σ2 H2 => tb { D with nx := Pv (i + 1), ct := Pv (i + 1), bk := D.nx } σ2 H2) (hd : ∀ σ H, Pv its.length σ H -> D.nx σ H) : ForW J g tb D σ H := by
 refine ⟨fun i m σ H => m = its.length - i /\ i <= its.length /\ Pv i σ H, ⟨its.length, by simp, Nat.zero_le _, h0⟩, ?_⟩
 rintro i m σ H ⟨rfl, hi, p⟩
 by_cases hlt : i < its.length
 ·refine .inr ⟨Y.go i H (hok i σ H hi p) hlt, Pv (i + 1), fun σ' H' p' => ⟨its.length - (i + 1), by omega, rfl, hlt, p'⟩, fun x H' y => ?_⟩
  obtain ⟨e, y2⟩ := Y.yld i H x H' (hok i σ H hi p) hlt y
  subst e
  exact hs i x σ _ y2 p
 ·have e : i = its.length := by omega
  subst e
  exact .inl ⟨Y.stop H (hok _ σ H hi p), hd σ H p⟩
theorem Pw {its : List (V × V)} (Y : Gq J its ok) (Pv : Nat -> St -> Hp -> Prop) (h0 : Pv 0 σ H) (hok : ∀ i σ H, i <= its.length -> Pv i σ H -> ok H)
  (hs : ∀ i x y T σ H, its[i]? = some (x, y) -> H T = none -> Pv i σ H -> g (.ref T) σ (upd H T (.tup [x, y])) fun σ2 H2 => tb { D with nx := Pv (i + 1), ct := Pv (i + 1), bk := D.nx } σ2 H2) (hd : ∀ σ H, Pv its.length σ H -> D.nx σ H) : ForW J g tb D σ H := by
 refine ⟨fun i m σ H => m = its.length - i /\ i <= its.length /\ Pv i σ H, ⟨its.length, by simp, Nat.zero_le _, h0⟩, ?_⟩
 rintro i m σ H ⟨rfl, hi, p⟩
 by_cases hlt : i < its.length
 ·refine .inr ⟨Y.go i H (hok i σ H hi p) hlt, Pv (i + 1), fun σ' H' p' => ⟨its.length - (i + 1), by omega, rfl, hlt, p'⟩, fun x H' y => ?_⟩
  obtain ⟨T, u, v, hT, e1, e2, e3⟩ := Y.yld i H x H' (hok i σ H hi p) hlt y
  subst e1 e3
  exact hs i u v T σ _ e2 hT p
 ·have e : i = its.length := by omega
  subst e
  exact .inl ⟨Y.stop H (hok _ σ H hi p), hd σ H p⟩
variable {tc : DT} {te : DE} {L : Addr} {R : Hp -> Prop} {E : EK}
theorem B8 (Y : C4 J its ok) (Pv : Nat -> St -> Hp -> Prop) (h0 : Pv 0 σ H) (hok : ∀ i σ H, i <= its.length -> Pv i σ H -> ok H)
  (hs : ∀ i x σ H, its[i]? = some x -> Pv i σ H -> g x σ H fun σ3 H3 => tc σ3 H3 (fun b H4 => if b = true then te σ3 H4 (fun v H5 => ∃ ys, H5 L = some (.lst ys) /\ ys.length < sizeLine /\ Pv (i + 1) σ3 (upd H5 L (.lst (ys ++ [v])))) E else Pv (i + 1) σ3 H4) E)
  (hd : ∀ σ H, Pv its.length σ H -> R H) : CmpW J g tc te L R σ H E := by
 refine ⟨fun i m σ H => m = its.length - i /\ i <= its.length /\ Pv i σ H, ⟨its.length, by simp, Nat.zero_le _, h0⟩, ?_⟩
 rintro i m σ H ⟨rfl, hi, p⟩
 by_cases hlt : i < its.length
 ·refine .inr ⟨Y.go i H (hok i σ H hi p) hlt, Pv (i + 1), fun σ' H' p' => ⟨its.length - (i + 1), by omega, rfl, hlt, p'⟩, fun x H' y => ?_⟩
  obtain ⟨e, y2⟩ := Y.yld i H x H' (hok i σ H hi p) hlt y
  subst e
  exact hs i x σ _ y2 p
 ·have e : i = its.length := by omega
  subst e
  exact .inl ⟨Y.stop H (hok _ σ H hi p), hd σ H p⟩
theorem Wz {its : List (V × V)} (Y : Gq J its ok) (Pv : Nat -> St -> Hp -> Prop) (h0 : Pv 0 σ H) (hok : ∀ i σ H, i <= its.length -> Pv i σ H -> ok H)
  (hs : ∀ i x y T σ H, its[i]? = some (x, y) -> H T = none -> Pv i σ H -> g (.ref T) σ (upd H T (.tup [x, y])) fun σ3 H3 => tc σ3 H3 (fun b H4 => if b = true then te σ3 H4 (fun v H5 => ∃ ys, H5 L = some (.lst ys) /\ ys.length < sizeLine /\ Pv (i + 1) σ3 (upd H5 L (.lst (ys ++ [v])))) E else Pv (i + 1) σ3 H4) E)
  (hd : ∀ σ H, Pv its.length σ H -> R H) : CmpW J g tc te L R σ H E := by
 refine ⟨fun i m σ H => m = its.length - i /\ i <= its.length /\ Pv i σ H, ⟨its.length, by simp, Nat.zero_le _, h0⟩, ?_⟩
 rintro i m σ H ⟨rfl, hi, p⟩
 by_cases hlt : i < its.length
 ·refine .inr ⟨Y.go i H (hok i σ H hi p) hlt, Pv (i + 1), fun σ' H' p' => ⟨its.length - (i + 1), by omega, rfl, hlt, p'⟩, fun x H' y => ?_⟩
  obtain ⟨T, u, v, hT, e1, e2, e3⟩ := Y.yld i H x H' (hok i σ H hi p) hlt y
  subst e1 e3
  exact hs i u v T σ _ e2 hT p
 ·have e : i = its.length := by omega
  subst e
  exact .inl ⟨Y.stop H (hok _ σ H hi p), hd σ H p⟩
theorem Dw {α β : Type} {its : List α} {i : Nat} {x : α} (h : its[i]? = some x) (p : α -> Bool) (f : α -> β) : ((its.take (i + 1)).filter p).map f = ((its.take i).filter p).map f ++ (if p x = true then [f x] else []) := by
 rw [List.take_add_one, h]
 simp only [Option.toList_some, List.filter_append, List.map_append]
 congr 1
 cases e : p x <;> simp [e]
theorem K1 (Y : C4 J its ok) (Sg : St -> Prop) (p : V -> Bool) (f : V -> V) (h0 : H L = none) (hok : ∀ H1, Same H H1 -> ok H1) (hn : its.length < sizeLine) (hσ : Sg σ)
  (hs : ∀ x σ H1, x ∈ its -> Sg σ -> Same H H1 -> ∀ (Fin : V -> St -> Hp -> Prop) (Skip : St -> Hp -> Prop), (∀ v σ3 H5, Sg σ3 -> Same H1 H5 -> p x = true -> v = f x -> Fin v σ3 H5) -> (∀ σ3 H4, Sg σ3 -> Same H1 H4 -> p x = false -> Skip σ3 H4) ->
   g x σ H1 fun σ3 H3 => tc σ3 H3 (fun b H4 => if b = true then te σ3 H4 (fun v H5 => Fin v σ3 H5) E else Skip σ3 H4) E)
  (hd : ∀ H', Same H H' -> H' L = some (.lst ((its.filter p).map f)) -> R H') : CmpW J g tc te L R σ (upd H L (.lst [])) E := by
 refine B8 Y (fun i σ' H' => Sg σ' /\ Same H H' /\ H' L = some (.lst (((its.take i).filter p).map f))) ⟨hσ, Same.upd h0, Ac⟩ (fun i σ' H' _ q => hok H' q.2.1) ?_ ?_
 ·rintro i x σ' H' hx ⟨q1, q2, q3⟩
  have hi : i < its.length := (List.getElem?_eq_some_iff.mp hx).1
  refine hs x σ' H' (List.mem_of_getElem? hx) q1 q2 (fun v σ3 H5 => ∃ ys, H5 L = some (.lst ys) /\ ys.length < sizeLine /\ Sg σ3 /\ Same H (upd H5 L (.lst (ys ++ [v]))) /\ upd H5 L (.lst (ys ++ [v])) L = some (.lst (((its.take (i + 1)).filter p).map f)))
   (fun σ3 H4 => Sg σ3 /\ Same H H4 /\ H4 L = some (.lst (((its.take (i + 1)).filter p).map f))) (fun v σ3 H5 s1 s2 hp hv => ?_) (fun σ3 H4 s1 s2 hp => ?_)
  ·refine ⟨_, s2 _ _ q3, ?_, s1, (q2.trans s2).set h0, ?_⟩
   ·rw [List.length_map]
    have h1 := List.length_filter_le p (its.take i)
    have h2 : (its.take i).length <= i := by rw [List.length_take]; omega
    omega
   ·rw [Ac, Dw hx, if_pos hp, hv]
  ·refine ⟨s1, q2.trans s2, ?_⟩
   rw [s2 _ _ q3, Dw hx, if_neg (by rw [hp]; exact Bool.false_ne_true), List.append_nil]
 ·rintro σ' H' ⟨_, q2, q3⟩
  rw [List.take_length] at q3
  exact hd H' q2 q3
end
section
variable {K : PySem.W.Frag} {H H' : Hp}
theorem Same.seqL {a : Addr} {xs : List V} (e : Same H H') (h : SqL K H a xs) : SqL K H' a xs := by
 rcases h with (h | ⟨o, h⟩) | h
 ·exact .inl (.inl (e _ _ h))
 ·exact .inl (.inr ⟨o, e _ _ h⟩)
 ·exact .inr h
end
end L2
namespace L2
open PySem PySem.Spec PySem.W
structure XC (K : PySem.W.Frag) (C : Addr) (bm : List Value) : Prop where
 lk : ∃ nm q N bs sn sub ab col dd k0 k1 k2 k3 k5, K.lookup C = some (excClassObj nm q C N bs bm true sn sub ab col dd k0 k1 k2 k3 k5 "ValueError.__new__")
 ty : typeIn K (.ref C) = some (.type "type")
 sa : findIn K (.ref C) "__setattr__" = some (some (.builtin "object.__setattr__"))
 ga : findIn K (.ref C) "__getattribute__" = some (some (.builtin "BaseException.__getattribute__"))
 gt : findIn K (.ref C) "__getattr__" = some none
 ca : findIn K (.ref C) "__class__" = some (some (.builtin "object.__class__"))
 hn : specialIn K (.builtin "object.__class__") "__get__" = some (some (.builtin "getset_descriptor.__get__"))
 htk : takesIn K (.builtin "object.__class__") = some true
theorem xc_mk {K : PySem.W.Frag} {C N : Addr} {bm bs : List Value} {nm q : Str} {sn : List Str} {sub : List Value} {ab : Bool} {col : Option Bool} {dd : Option Addr} {k0 k1 k2 k3 k5 : Option Value}
  (lk : K.lookup C = some (excClassObj nm q C N bs bm true sn sub ab col dd k0 k1 k2 k3 k5 "ValueError.__new__")) (ty : typeIn K (.ref C) = some (.type "type")) (sa : findIn K (.ref C) "__setattr__" = some (some (.builtin "object.__setattr__")))
  (ga : findIn K (.ref C) "__getattribute__" = some (some (.builtin "BaseException.__getattribute__"))) (gt : findIn K (.ref C) "__getattr__" = some none) (ca : findIn K (.ref C) "__class__" = some (some (.builtin "object.__class__")))
  (hn : specialIn K (.builtin "object.__class__") "__get__" = some (some (.builtin "getset_descriptor.__get__"))) (htk : takesIn K (.builtin "object.__class__") = some true) : XC K C bm := ⟨⟨_, _, _, _, _, _, _, _, _, _, _, _, _, _, lk⟩, ty, sa, ga, gt, ca, hn, htk⟩
theorem XC.ecls {K : PySem.W.Frag} {C : Addr} {bm : List Value} (x : XC K C bm) (h : Aw bm = true) : ECls K C := by
 obtain ⟨nm, q, N, bs, sn, sub, ab, col, dd, k0, k1, k2, k3, k5, lk⟩ := x.lk
 exact ⟨⟨_, _, _, _, bm, true, _, _, _, _, _, _, _, _, _, _, lk, h, rfl⟩, x.sa, x.ga, x.gt, x.ca, x.hn, x.htk⟩
theorem XC.cls {K : PySem.W.Frag} {C : Addr} {bm : List Value} (x : XC K C bm) : ∃ cd, clsIn K C = some cd /\ cd.mro = .ref C :: bm := by
 obtain ⟨nm, q, N, bs, sn, sub, ab, col, dd, k0, k1, k2, k3, k5, lk⟩ := x.lk
 exact ⟨_, by unfold clsIn; rw [lk], rfl⟩
theorem XC.kit {K : PySem.W.Frag} {C D : Addr} {bm bd : List Value} (x : XC K C bm) (y : XC K D bd) {b : Bool} (h : (Value.ref C :: bm).contains (.ref D) = b) : kitOne K (.ref C) (.ref D) = some b := by
 obtain ⟨cd, h1, h2⟩ := x.cls
 obtain ⟨cd', h3, _⟩ := y.cls
 unfold kitOne
 by_cases e : (Value.ref C == Value.ref D) = true
 ·rw [if_pos e]
  have e' : Value.ref D = Value.ref C := (eq_of_beq e).symm
  rw [<- h, List.contains_cons, e']
  simp
 ·rw [if_neg e]
  unfold kitCls
  dsimp only
  rw [h3, y.ty, if_pos (by rfl)]
  show mroIn K C (.ref D) = _
  unfold mroIn
  rw [h1, Option.bind_some, h2, h]
  rfl
theorem XC.kitV {K : PySem.W.Frag} {C : Addr} {bm : List Value} (x : XC K C bm) (h : Aw bm = true) : kitOne K (.ref C) (.type "ValueError") = some true := by
 unfold kitOne
 rw [if_neg (by intro z; cases z)]
 unfold kitCls
 dsimp only
 rw [if_pos (by decide +kernel)]
 exact (x.ecls h).sub (by decide +kernel)
theorem Ga {K : PySem.W.Frag} {fd : FuncData} {ps : List Str} {T : Addr} {o : Obj} {items : Array Value} {n : Nat} {ds : List Value} (m : Nat) (hd : fd.defaults = .ref T) (ho : K.lookup T = some o) (hs : o.data = .seq items n) (hm : m + ds.length = ps.length)
  (h : ∀ us : List Value, us.length = m -> ∃ k : Option (Array Value) -> Sem (List (Str × Value)), bindArgs fd ⟨us, []⟩ = seqItems? fd.defaults >>= k /\ k (some items) = pure (ps.zip (us ++ ds))) : Binds K fd ps ds :=
 Nq hd ho hs fun us hl => h us (by rw [List.length_append] at hl; omega)
end L2
namespace L2
open PySem PySem.Spec PyProof.Rows
open Sem (wp)
section
variable {X : Cx} {pins : List (Addr × Obj)} {σ : St} {H : Hp} {s : Shared} {a C : Addr} {dx : Option Addr} {h' : Heap}
theorem M0 (X : Cx) : Jj (CXE X.prog X.w) X := by
 intro Ex m pins σ H s e s' I h
 obtain ⟨a, H', rfl, os, bare, u, hok, F, a', e', hE⟩ := h
 cases e'
 have I' := I.call' os u hok bare (fun b z => absurd z (by simp))
 obtain ⟨C, dx, vs, T, oT, ts, h1, h2, h3, h4, h5, h6, h7, h8, h9, h10⟩ := F
 exact m pins σ H' s' a I' ⟨C, dx, vs, h1, h2, h3, .inr ⟨T, oT, ts, h4, h5, h6, h7, ⟨_, h8⟩, I.fpOk h9 h10⟩⟩ hE
end
section
variable {P : Program} {w : World} {K : PySem.W.Frag} {mg : Str -> Option Value} {base : Heap}
theorem Rq {N : List Str} {qual : Str} {scope : Scope} {f : Addr} {cdv : Value} {A : Around} {outer : List Env} {s : Shared} {H : Hp} {E : XK} :
  B3 (cxOf (CXE P w) P w K mg base N qual scope f cdv A outer s H E) (fun _ a H' => E (.ref a) none H') := by
 intro pins σ H1 s1 a I F hE
 refine wpAny_bind (P5 (X := cxOf (CXE P w) P w K mg base N qual scope f cdv A outer s H E) I rfl rfl F fun s' I' F' => ?_)
 obtain ⟨C, dx, vs, T, oT, ts, h1, h2, h3, q1, q2, q3, q4, q5, q6⟩ := F'
 exact ⟨a, H1, rfl, I'.os, I'.bare, I'.base, I'.hok, ⟨C, dx, vs, T, oT, ts, h1, h2, h3, q1, q2, q3, q4, q5, q6.2.2.2.1.elim (fun z => absurd z (by simp [cxOf])) id, q6.1⟩, hE⟩
def Y8 (Q : VK) (E : XK) : Outs := ⟨fun _ H' => Q .non H', Q, fun _ _ => False, fun _ _ => False, fun _ a H' => E (.ref a) none H'⟩
theorem FunD.okWX {x qual : Str} {st : Stmt} {f : Addr} {fd : FuncData} {N ps : List Str} {k n : Nat} {sp : Sp} {gb : List (Str × GB)} {bl : List Str} {t : DS} {dV : Value} (F : FunD K x qual st f fd dV) (S : Ai N ps (Ab st)) (hv : As N (Ab st) = true)
  (T : Tab P w K mg base k gb bl) (rd : wSs n (defG K N (Ab st) gb bl) (Ag st) = t) (len : ∀ vs H Q E, sp vs H Q E -> vs.length = ps.length)
  (hbody : ∀ (vs : List V) (H : Hp) (Q : VK) (E : XK), sp vs H Q E -> t (Y8 Q E) (Et N vs) H) : FnOk P w K mg base (CXE P w) (k + 1) f fd ps sp := by
 obtain ⟨oc, od, kV, doc, pm, an, cdv, ct, osl, rfl, lk, hcd⟩ := F.ex
 refine Za lk hcd S len fun A outer s H vs Q E hr h => ?_
 have O : GOk (cxOf (CXE P w) P w K mg base N qual (Ab st) f cdv A outer s H E) (defG K N (Ab st) gb bl) := by
  refine ⟨rfl, S.kind, (fun _ => PassesOwn.leaving), rfl, S.nd, fun x => rfl, fun x hx => ?_, fun _ _ => rfl, rfl, (fun _ => hr.hd), hr.units, fun x hx => ?_, fun x i e => ?_, fun x v u e => ?_, fun x hx => ?_, fun x C oi e => ?_, fun x C oi e => ?_, fun m l e mi hm => ?_, (fun _ => ⟨rfl, rfl⟩), ⟨_, _, _, rfl, rfl, rfl⟩⟩
  ·have := List.all_eq_true.mp hv x hx
   rw [Bool.or_eq_true] at this
   exact this.elim (fun z => .inl (eq_of_beq z)) fun z => .inr (.inl (eq_of_beq z))
  ·rcases hx with hx | hx
   ·exact E5 hx
   ·exact absurd rfl (S.nofree _ (PySem.mem_of_lookup hx))
  ·have FI := T.fn x i (PySem.mem_of_lookup e)
   exact ⟨FI.at_, FI.kp, FI.ok, hr.mono FI.le, FI.binds, FI.vals⟩
  ·exact T.val x v u (PySem.mem_of_lookup e)
  ·exact T.bl x (by have hx' : bl.contains x = true := hx; simpa using hx')
  ·have EI := T.exc x C oi (PySem.mem_of_lookup e)
   refine ⟨EI.at_, EI.kp, EI.cls, ?_⟩
   cases oi with
   | none => exact EI.init
   | some i => obtain ⟨a, b, c, d, e, f, g⟩ := EI.init; exact ⟨a, b, ⟨c, d, hr.mono (by omega), f, g⟩, hr.mono e⟩
  ·have CI := T.cls x C oi (PySem.mem_of_lookup e)
   refine ⟨CI.at_, CI.kp, ?_⟩
   cases oi with
   | none => exact CI.made
   | some i => obtain ⟨a, b, c, d, e⟩ := CI.made; exact ⟨a, b, c, ⟨d.kp, d.ok, hr.mono d.le, d.binds, d.vals⟩, hr.mono e⟩
  ·obtain ⟨x, hx⟩ := Bo e
   have MI := T.met x m l hx mi hm
   exact ⟨MI.cls, MI.at_, ⟨MI.fi.kp, MI.fi.ok, hr.mono MI.fi.le, MI.fi.binds, MI.fi.vals⟩⟩
 refine ⟨_, (Z0 n _ _ O).2 (Ag st) (fun _ a H' => E (.ref a) none H') Rq, ?_⟩
 rw [rd]
 exact hbody vs H Q E h
end
end L2
namespace Pn
open PySem L2
abbrev Sw := List (Str × List Str)
def Ax (c : Nat) : Bool := decide (97 <= c) && decide (c <= 122)
def okW (z : Str) : Prop := 1 <= z.length /\ z.length <= 8 /\ z.cps.toList.all Ax = true
def okL (l : List Str) : Prop := (∀ z ∈ l, okW z) /\ l.Nodup /\ l.length <= 8
def Ff (l : List Str) : Prop := okL l /\ 2 <= l.length /\ l.length <= 4
def Ba (sw : Sw) : Nat := sw.foldl (fun n x => n * x.2.length) 1
def okSw (sw : Sw) : Prop := 1 <= sw.length /\ sw.length <= 5 /\ (sw.map (·.1)).Nodup /\ (∀ x ∈ sw, okW x.1 /\ Ff x.2) /\ Ba sw <= 256
def Cg (acc : List (List Str)) (x : Str × List Str) : List (List Str) := acc.flatMap fun a => x.2.map fun z => a ++ [z]
def Ah (sw : Sw) : List (List Str) := sw.foldl Cg [[]]
def setM (ns : List Nat) : Int := ns.foldl (fun (c : Int) n => Builtin.bitOr c (2 ^ n)) 0
def Bs (ms : List Int) : Int := ms.foldl (fun c m => Builtin.bitOr c m) 0
def havM (p : Nat) (z : Str) : Nat -> List (List Str) -> List Nat
 | _, [] => []
 | k, r :: rs => if r[p]? = some z then k :: havM p z (k + 1) rs else havM p z (k + 1) rs
def Cz (rows : List (List Str)) (p : Nat) (z : Str) : Int := setM (havM p z 0 rows)
def Az (sw : Sw) (w : Str) : Nat := sw.findIdx fun x => decide (x.1 = w)
def Fl (sw : Sw) (e : Str × List Str) : Int := Bs (e.2.map (Cz (Ah sw) (Az sw e.1)))
def allM (sw : Sw) : Int := 2 ^ (Ah sw).length - 1
def boxM (sw : Sw) (rule : Sw) : Int := rule.foldl (fun c e => Builtin.bitAnd c (Fl sw e)) (allM sw)
def F9 (sw : Sw) (rules : List Sw) : List Int := rules.map (boxM sw)
def Er (sw : Sw) (rules : List Sw) : Int := Builtin.bitAnd (allM sw) (Builtin.bitNot (Bs (F9 sw rules)))
def B4 (sw : Sw) (e : Str × List Str) : Prop := e.2 ≠ [] /\ okL e.2 /\ ∃ x ∈ sw, x.1 = e.1 /\ ∀ z ∈ e.2, z ∈ x.2
def D8 (sw : Sw) (rule : Sw) : Prop := rule ≠ [] /\ rule.length <= 100 /\ (rule.map (·.1)).Nodup /\ ∀ e ∈ rule, B4 sw e
theorem Kt (acc : List (List Str)) (x : Str × List Str) : (Cg acc x).length = acc.length * x.2.length := by
 unfold Cg
 induction acc with
 | nil => simp
 | cons a acc ih => rw [List.flatMap_cons, List.length_append, ih, List.length_map, List.length_cons, Nat.add_mul, Nat.one_mul, Nat.add_comm]
theorem Fi : ∀ (sw : Sw) (acc : List (List Str)), (sw.foldl Cg acc).length = sw.foldl (fun n x => n * x.2.length) acc.length
 | [], _ => rfl
 | x :: sw, acc => by rw [List.foldl_cons, List.foldl_cons, Fi sw, Kt]
theorem Ih (sw : Sw) : (Ah sw).length = Ba sw := Fi sw [[]]
def Hw (k : Nat) (rs : List (List Str)) : Prop := rs.Nodup /\ (∀ r ∈ rs, r.length = k) /\ ∀ r ∈ rs, ∀ z ∈ r, okW z
theorem We {k : Nat} {acc : List (List Str)} {x : Str × List Str} (h : Hw k acc) (hx : Ff x.2) : Hw (k + 1) (Cg acc x) := by
 obtain ⟨h1, h2, h3⟩ := h
 refine ⟨?_, ?_, ?_⟩
 ·unfold Cg
  clear h3
  induction acc with
  | nil => exact List.nodup_nil
  | cons a acc ih =>
   rw [List.flatMap_cons, List.nodup_append]
   rw [List.nodup_cons] at h1
   refine ⟨?_, ih h1.2 (fun r hr => h2 r (List.mem_cons_of_mem _ hr)), ?_⟩
   ·refine List.Pairwise.map _ ?_ hx.1.2.1
    intro y z ne e
    exact ne (by simpa using e)
   ·intro r hr q hq e
    subst e
    obtain ⟨y, hy, rfl⟩ := List.mem_map.mp hr
    obtain ⟨b, hb, hq⟩ := List.mem_flatMap.mp hq
    obtain ⟨z, hz, e⟩ := List.mem_map.mp hq
    have : b = a /\ z = y := by simpa using e
    rw [this.1] at hb
    exact h1.1 hb
 ·intro r hr
  obtain ⟨b, hb, hq⟩ := List.mem_flatMap.mp hr
  obtain ⟨z, hz, rfl⟩ := List.mem_map.mp hq
  rw [List.length_append, h2 b hb]
  rfl
 ·intro r hr y hy
  obtain ⟨b, hb, hq⟩ := List.mem_flatMap.mp hr
  obtain ⟨z, hz, rfl⟩ := List.mem_map.mp hq
  rcases List.mem_append.mp hy with hy | hy
  ·exact h3 b hb y hy
  ·have : y = z := by simpa using hy
   subst this
   exact hx.1.1 _ hz
theorem Gm : ∀ {sw : Sw} {k : Nat} {acc : List (List Str)}, Hw k acc -> (∀ x ∈ sw, Ff x.2) -> Hw (k + sw.length) (sw.foldl Cg acc)
 | [], _, _, h, _ => h
 | x :: sw, k, acc, h, hs => by
  have := Gm (We h (hs x (List.mem_cons_self))) (fun y hy => hs y (List.mem_cons_of_mem _ hy))
  rw [List.foldl_cons, List.length_cons, show k + (sw.length + 1) = k + 1 + sw.length by omega]
  exact this
theorem Lq {sw : Sw} (h : ∀ x ∈ sw, Ff x.2) : Hw sw.length (Ah sw) := by
 have := Gm (sw := sw) (k := 0) (acc := [[]]) ⟨by simp, by simp, by simp⟩ h
 rwa [Nat.zero_add] at this
theorem Bv : ∀ {sw : Sw} {n : Nat}, 1 <= n -> (∀ x ∈ sw, Ff x.2) -> n <= sw.foldl (fun n x => n * x.2.length) n
 | [], n, _, _ => Nat.le_refl _
 | x :: sw, n, h, hs => by
  rw [List.foldl_cons]
  have h2 : 2 <= x.2.length := (hs x List.mem_cons_self).2.1
  have : n <= n * x.2.length := Nat.le_mul_of_pos_right _ (by omega)
  exact Nat.le_trans this (Bv (by omega) (fun y hy => hs y (List.mem_cons_of_mem _ hy)))
theorem okSw.sets {sw : Sw} (h : okSw sw) : ∀ x ∈ sw, Ff x.2 := fun x hx => (h.2.2.2.1 x hx).2
theorem okSw.len {sw : Sw} (h : okSw sw) : (Ah sw).length <= 256 := by rw [Ih]; exact h.2.2.2.2
theorem okSw.pos {sw : Sw} (h : okSw sw) : 1 <= (Ah sw).length := by rw [Ih]; exact Bv (Nat.le_refl 1) h.sets
theorem Kk {sw : Sw} (h : okSw sw) (i : Nat) : Ba (sw.take i) <= Ba sw := by
 conv => rhs; rw [<- List.take_append_drop i sw]
 unfold Ba
 rw [List.foldl_append]
 exact Bv (Bv (Nat.le_refl 1) fun x hx => h.sets x (List.mem_of_mem_take hx)) fun x hx => h.sets x (List.mem_of_mem_drop hx)
theorem B9 {α β : Type} {l : List α} {i : Nat} {x : α} (h : l[i]? = some x) (f : β -> α -> β) (b : β) : (l.take (i + 1)).foldl f b = f ((l.take i).foldl f b) x := by
 rw [List.take_add_one, h, Option.toList_some, List.foldl_append]
 rfl
theorem A7 {α β : Type} {l : List α} {i : Nat} {x : α} (h : l[i]? = some x) (f : α -> β) : (l.take (i + 1)).map f = (l.take i).map f ++ [f x] := by
 rw [List.take_add_one, h, Option.toList_some, List.map_append]
 rfl
abbrev Own (ok : Addr -> Prop) (H : Hp) (a : Addr) (o : HO) : Prop := ok a /\ H a = some o
abbrev Kp (ok : Addr -> Prop) (H : Hp) (ok' : Addr -> Prop) (H' : Hp) : Prop := ∀ a o, Own ok H a o -> Own ok' H' a o
abbrev fresh (H : Hp) : Addr -> Prop := fun a => H a = none
abbrev any : Addr -> Prop := fun _ => True
theorem Kp.same {ok : Addr -> Prop} {H H' : Hp} (S : Same H H') : Kp ok H ok H' := fun a o h => ⟨h.1, S _ _ h.2⟩
theorem Kp.any {ok : Addr -> Prop} {H : Hp} : Kp ok H Pn.any H := fun a o h => ⟨trivial, h.2⟩
theorem Kp.weak {ok ok' : Addr -> Prop} {H : Hp} (h : ∀ a, ok a -> ok' a) : Kp ok H ok' H := fun a o q => ⟨h a q.1, q.2⟩
theorem Kp.trans {ok1 ok2 ok3 : Addr -> Prop} {H1 H2 H3 : Hp} (h : Kp ok1 H1 ok2 H2) (g : Kp ok2 H2 ok3 H3) : Kp ok1 H1 ok3 H3 := fun a o q => g a o (h a o q)
theorem Se {H H' : Hp} (S : Same H H') {a : Addr} (h : H' a = none) : H a = none := by
 cases e : H a with
 | none => rfl
 | some o => rw [S _ _ e] at h; cases h
theorem Kp.fresh {H1 H2 H : Hp} (S : Same H1 H2) : Kp (fresh H2) H (Pn.fresh H1) H := Kp.weak fun a h => Se S h
theorem Kp.off {ok : Addr -> Prop} {H : Hp} {p : Addr} {o : HO} (h : ¬ ok p) : Kp ok H ok (upd H p o) := fun a u q => ⟨q.1, by
 have n : a ≠ p := fun e => h (by rw [<- e]; exact q.1)
 rw [Af n]; exact q.2⟩
abbrev kR (x : (Str × List Str) × Addr) : Key × V := (.inr x.1.1, .ref x.2)
abbrev tupO (r : List Str) : HO := .tup (r.map V.str)
abbrev lstO (r : List Str) : HO := .lst (r.map V.str)
def SwAt (ok : Addr -> Prop) (H : Hp) (d : Addr) (sw : Sw) : Prop := ∃ ds : List ((Str × List Str) × Addr), ds.map (·.1) = sw /\ Own ok H d (.dK (ds.map kR)) /\ ∀ x ∈ ds, Own ok H x.2 (tupO x.1.2)
def RuleAt (ok : Addr -> Prop) (H : Hp) (d : Addr) (sw : Sw) : Prop := ∃ ds : List ((Str × List Str) × Addr), ds.map (·.1) = sw /\ Own ok H d (.dK (ds.map kR)) /\ ∀ x ∈ ds, Own ok H x.2 (lstO x.1.2)
def TupsAt (ok : Addr -> Prop) (H : Hp) (l : Addr) (rows : List (List Str)) : Prop := ∃ ds : List (List Str × Addr), ds.map (·.1) = rows /\ Own ok H l (.lst (ds.map fun x => .ref x.2)) /\ ∀ x ∈ ds, Own ok H x.2 (tupO x.1)
def SwIn (ok : Addr -> Prop) (H : Hp) (l : Addr) (sw : Sw) : Prop := ∃ ds : List (((Str × List Str) × Addr) × Addr), ds.map (·.1.1) = sw /\ Own ok H l (.lst (ds.map fun x => .ref x.2)) /\ ∀ x ∈ ds, Own ok H x.2 (.tup [.str x.1.1.1, .ref x.1.2]) /\ Own ok H x.1.2 (lstO x.1.1.2)
def numK (k : Nat) : List (List Str) -> List (List Key × V)
 | [] => []
 | r :: rs => (r.map .inr, .int (k : Int)) :: numK (k + 1) rs
def NumAt (ok : Addr -> Prop) (H : Hp) (n : Addr) (rows : List (List Str)) : Prop := Own ok H n (.dT (numK 0 rows))
def setO (rows : List (List Str)) (i : Nat) (l : List Str) : HO := .dK (l.map fun z => (.inr z, .int (Cz rows i z)))
def SetsAt (ok : Addr -> Prop) (H : Hp) (d : Addr) (sw : Sw) : Prop := ∃ ds : List ((Str × List Str) × Addr), ds.map (·.1) = sw /\ Own ok H d (.dK (ds.map kR)) /\ ∀ i x, ds[i]? = some x -> Own ok H x.2 (setO (Ah sw) i x.1.2)
def RulesAt (ok : Addr -> Prop) (H : Hp) (k : Addr) (rules : List Sw) : Prop := ∃ ds : List (Sw × Addr), ds.map (·.1) = rules /\ Own ok H k (.lst (ds.map fun x => .ref x.2)) /\ ∀ x ∈ ds, RuleAt ok H x.2 x.1
section
variable {ok ok' : Addr -> Prop} {H H' : Hp} {d : Addr} {sw : Sw} {rows : List (List Str)} {rules : List Sw}
theorem SwAt.mono (h : SwAt ok H d sw) (k : Kp ok H ok' H') : SwAt ok' H' d sw := by
 obtain ⟨ds, e, o, q⟩ := h; exact ⟨ds, e, k _ _ o, fun x hx => k _ _ (q x hx)⟩
theorem RuleAt.mono (h : RuleAt ok H d sw) (k : Kp ok H ok' H') : RuleAt ok' H' d sw := by
 obtain ⟨ds, e, o, q⟩ := h; exact ⟨ds, e, k _ _ o, fun x hx => k _ _ (q x hx)⟩
theorem TupsAt.mono (h : TupsAt ok H d rows) (k : Kp ok H ok' H') : TupsAt ok' H' d rows := by
 obtain ⟨ds, e, o, q⟩ := h; exact ⟨ds, e, k _ _ o, fun x hx => k _ _ (q x hx)⟩
theorem SwIn.mono (h : SwIn ok H d sw) (k : Kp ok H ok' H') : SwIn ok' H' d sw := by
 obtain ⟨ds, e, o, q⟩ := h; exact ⟨ds, e, k _ _ o, fun x hx => ⟨k _ _ (q x hx).1, k _ _ (q x hx).2⟩⟩
theorem SetsAt.mono (h : SetsAt ok H d sw) (k : Kp ok H ok' H') : SetsAt ok' H' d sw := by
 obtain ⟨ds, e, o, q⟩ := h; exact ⟨ds, e, k _ _ o, fun i x hx => k _ _ (q i x hx)⟩
theorem RulesAt.mono (h : RulesAt ok H d rules) (k : Kp ok H ok' H') : RulesAt ok' H' d rules := by
 obtain ⟨ds, e, o, q⟩ := h; exact ⟨ds, e, k _ _ o, fun x hx => (q x hx).mono k⟩
theorem NumAt.mono (h : NumAt ok H d rows) (k : Kp ok H ok' H') : NumAt ok' H' d rows := k _ _ h
end
def flds (d l n s k b : Addr) (f : Int) : List (Str × V) := [("settings", .ref d), ("tuples", .ref l), ("numbers", .ref n), ("sets", .ref s), ("kept_rules", .ref k), ("bars", .ref b), ("free", .int f)]
structure PanAt (C : Addr) (ok : Addr -> Prop) (H : Hp) (p : Addr) (sw : Sw) (rules : List Sw) (dx d l n s k b : Addr) : Prop where
 ins : Own ok H p (.ins C dx (flds d l n s k b (Er sw rules)))
 sws : SwAt ok H d sw
 tps : TupsAt ok H l (Ah sw)
 nms : NumAt ok H n (Ah sw)
 sts : SetsAt ok H s sw
 rls : RulesAt ok H k rules
 brs : Own ok H b (.lst ((F9 sw rules).map V.int))
def PanelAt (C : Addr) (ok : Addr -> Prop) (H : Hp) (p : Addr) (sw : Sw) (rules : List Sw) : Prop := ∃ dx d l n s k b, PanAt C ok H p sw rules dx d l n s k b
theorem PanelAt.mono {C p : Addr} {ok ok' : Addr -> Prop} {H H' : Hp} {sw : Sw} {rules : List Sw} (h : PanelAt C ok H p sw rules) (k : Kp ok H ok' H') : PanelAt C ok' H' p sw rules := by
 obtain ⟨dx, d, l, n, s, kk, b, h⟩ := h
 exact ⟨dx, d, l, n, s, kk, b, ⟨k _ _ h.ins, h.sws.mono k, h.tps.mono k, h.nms.mono k, h.sts.mono k, h.rls.mono k, k _ _ h.brs⟩⟩
def SelfAt (C : Addr) (ok : Addr -> Prop) (H : Hp) (p l s : Addr) : Prop := ∃ dx fs, Own ok H p (.ins C dx fs) /\ fs.lookup ("tuples" : Str) = some (.ref l) /\ fs.lookup ("sets" : Str) = some (.ref s) /\ ∀ m ∈ (["all_choices", "box", "many", "term", "read_rule", "read_rules"] : List Str), fs.lookup m = none
theorem SelfAt.mono {C p l s : Addr} {ok ok' : Addr -> Prop} {H H' : Hp} (h : SelfAt C ok H p l s) (k : Kp ok H ok' H') : SelfAt C ok' H' p l s := by
 obtain ⟨dx, fs, o, q⟩ := h; exact ⟨dx, fs, k _ _ o, q⟩
structure Z2 (K : PySem.W.Frag) (C X : Addr) : Prop where
 cl : Cls K C
 na : ∀ f ∈ (["settings", "tuples", "numbers", "sets", "kept_rules", "bars", "free"] : List Str), NoAttr K C f
 en : ECls K X
 mn : PySem.W.mroIn K X (.ref X) = some true
theorem G5 {p : Addr} {o : Obj} (kvs : List (Key × V)) : C4 (Itd p o kvs) (kvs.map fun kv => kV kv.1) (fun H => H p = some (.frz o (.dK kvs))) := by
 refine ⟨fun i H q h => ⟨q, by simpa using h⟩, fun H q => ⟨q, by simp⟩, fun i H x H' q hi h => ?_⟩
 obtain ⟨h1, k, v, h2, h3⟩ := h
 refine ⟨h1, ?_⟩
 rw [List.getElem?_map, h2, h3]
 rfl
theorem Wr {p : Addr} {o : Obj} (kvs : List (Key × V)) : Gq (Itde p o kvs) (Ds 0 (kvs.map fun kv => kV kv.1)) (fun H => H p = some (.frz o (.dK kvs))) := by
 have e : (Ds 0 (kvs.map fun kv => kV kv.1)).length = kvs.length := by rw [Bz]; simp
 refine ⟨fun i H q h => ⟨q, by omega⟩, fun H q => ⟨q, by omega⟩, fun i H x H' q hi h => ?_⟩
 obtain ⟨T, k, v, hT, h1, h2, h3⟩ := h
 refine ⟨T, .int i, kV k, hT, h1, ?_, h3⟩
 have := Cm (k := 0) (xs := kvs.map fun kv => kV kv.1) (i := i) (x := kV k) (by rw [List.getElem?_map, h2]; rfl)
 rw [Nat.zero_add] at this
 exact this
theorem Same.thaw {H H' : Hp} {p : Addr} {o : Obj} {kvs : List (Key × V)} (h : H p = some (.dK kvs)) (S : Same (upd H p (.frz o (.dK kvs))) H') : Same H (upd H' p (.dK kvs)) := by
 intro b u e
 by_cases hb : b = p
 ·subst hb; rw [Ac, <- h, e]
 ·rw [Af hb]; exact S _ _ (by rw [Af hb]; exact e)
theorem Em {H : Hp} {d : Addr} {u : HO} (h : H d = some u) : ¬ Pn.fresh H d := fun e => by
 have e : H d = none := e
 rw [h] at e
 cases e
theorem Cc {b : Bool} {A B : Prop} (e : b = false) (h : B) : if b = true then A else B := by subst e; exact iteF h
theorem Fb {b : Bool} {A B : Prop} (e : b = true) (h : A) : if b = true then A else B := by subst e; exact iteT h
theorem Ak {α β : Type} {l : List α} {f : α -> β} {i : Nat} {x : β} (h : (l.map f)[i]? = some x) : ∃ m, l[i]? = some m /\ x = f m := by
 rw [List.getElem?_map] at h
 cases e : l[i]? with
 | none => rw [e] at h; cases h
 | some m => rw [e] at h; exact ⟨m, rfl, by simpa using h.symm⟩
theorem Al {α : Type} {l : List α} {i : Nat} {x : α} (h : l[i]? = some x) : i < l.length := (List.getElem?_eq_some_iff.mp h).1
theorem Ez {n i : Nat} {x : V} (h : (rngV 0 n)[i]? = some x) : i < n /\ x = .int (i : Int) := by
 have hi := Al h
 rw [Be] at hi
 rw [Ie hi] at h
 refine ⟨hi, ?_⟩
 have : V.int (0 + (i : Int)) = x := by simpa using h
 rw [<- this, Int.zero_add]
theorem Ap (a b : Str) : (a ++ b).length = a.length + b.length := PySem.strLen_append a b
theorem C3 (z : Str) : z.cps.toList.length = z.length := by simp [Str.length]
theorem Uz (a c : Nat) : decide ([c] < [a]) = decide (c < a) := by
 rw [Bool.eq_iff_iff, decide_eq_true_iff, decide_eq_true_iff, List.cons_lt_cons_iff]
 simp
theorem leL {s : Str} {a c : Nat} (h : s.cps.toList = [a]) : (!decide ((⟨#[c]⟩ : Str).cps.toList < s.cps.toList)) = decide (a <= c) := by
 rw [h]
 show (!decide ([c] < [a])) = _
 rw [Uz, <- decide_not]
 exact decide_eq_decide.mpr Nat.not_lt
theorem leR {s : Str} {a c : Nat} (h : s.cps.toList = [a]) : (!decide (s.cps.toList < (⟨#[c]⟩ : Str).cps.toList)) = decide (c <= a) := by
 rw [h]
 show (!decide ([a] < [c])) = _
 rw [Uz, <- decide_not]
 exact decide_eq_decide.mpr Nat.not_lt
theorem Q5 {s1 s2 : Str} {a b c : Nat} {Q : VK} {H : Hp} (h1 : s1.cps.toList = [a]) (h2 : s2.cps.toList = [b]) (k : Q (.bl (decide (a <= c) && decide (c <= b))) H) :
  if (!decide ((⟨#[c]⟩ : Str).cps.toList < s1.cps.toList)) = true then Q (.bl (!decide (s2.cps.toList < (⟨#[c]⟩ : Str).cps.toList))) H else Q (.bl false) H := by
 rw [leL h1, leR h2]
 cases e : decide (a <= c) with
 | true => rw [e, Bool.true_and] at k; exact iteT k
 | false => rw [e, Bool.false_and] at k; exact iteF k
theorem Jq {a b c : Int} {Q : VK} {H : Hp} (k : Q (.bl (decide (a <= c) && decide (c <= b))) H) : if decide (a <= c) = true then Q (.bl (decide (c <= b))) H else Q (.bl false) H := by
 cases e : decide (a <= c) with
 | true => rw [e, Bool.true_and] at k; exact iteT k
 | false => rw [e, Bool.false_and] at k; exact iteF k
theorem W3 {s1 s2 : Str} {a b c i : Nat} {Q : VK} {E : EK} {H : Hp} {σ : St} (h1 : s1.cps.toList = [a]) (h2 : s2.cps.toList = [b]) (hv : σ[i]? = some (some (.str ⟨#[c]⟩))) (k : Q (.bl (decide (a <= c) && decide (c <= b))) H) :
  Df rLeD rLeD (dC (.str s1)) (dVar i) (dC (.str s2)) σ H Q E := by
 unfold Df dC dVar
 rw [hv]
 exact Q5 h1 h2 k
theorem Qu {K : PySem.W.Frag} {z : Str} {te : DE} {p : Nat -> Bool} {H : Hp} {Q : VK} {E : EK} (hz : z.length <= 1000) (he : ∀ (c : Nat) (σ : St) (H1 : Hp) (Q1 : VK), σ.length = 1 -> Q1 (.bl (p c)) H1 -> te (σ.set 0 (some (.str ⟨#[c]⟩))) H1 Q1 E) (k : ∀ H', Same H H' -> Q (.bl (z.cps.toList.all p)) H') :
  ∀ D, H D = none -> CmpW (Its z) (gdN 0) dYes te D (fun H' => rAll K [.ref D] H' Q) (capt [none] [some (.str z)]) (upd H D (.lst [])) E := by
 intro D hD
 refine K1 (ak5 z) (fun σ => σ.length = 1) (fun _ => true) (fun v => match v with | .str y => .bl (p (y.cps.getD 0 0)) | _ => .non) hD (fun _ _ => True.intro) ?_ rfl ?_ ?_
 ·unfold D9
  rw [List.length_map]
  exact Nat.lt_of_le_of_lt (show z.cps.toList.length <= 1000 from by have : z.cps.size <= 1000 := hz; simpa using this) (by decide)
 ·intro x σ H1 hx hσ S Fin Skip hF hS
  obtain ⟨c, hc, rfl⟩ := List.mem_map.mp hx
  refine he c σ H1 _ hσ ?_
  exact hF _ _ _ (by rw [List.length_set]; exact hσ) (Same.refl _) rfl rfl
 ·intro H' S hD'
  have e : ((D9 z).filter fun _ => true).map (fun v => match v with | .str y => V.bl (p (y.cps.getD 0 0)) | _ => .non) = (z.cps.toList.map p).map V.bl := by
   unfold D9
   rw [List.filter_eq_self.mpr (fun _ _ => rfl), List.map_map, List.map_map]
   rfl
  refine ⟨z.cps.toList.map p, SqL.of (hD'.trans (by rw [e])), ?_⟩
  have e2 : (z.cps.toList.map p).all (fun b => b) = z.cps.toList.all p := by rw [List.all_map]; rfl
  rw [e2]
  exact k H' S
theorem Mr : ∀ (xs acc : List Str), (acc ++ xs).Nodup -> xs.foldl (fun σ k => if σ.any (fun j => decide (j = k)) then σ else σ ++ [k]) acc = acc ++ xs
 | [], acc, _ => by rw [List.foldl_nil, List.append_nil]
 | x :: xs, acc, h => by
  have hx : (acc.any fun j => decide (j = x)) = false := by
   rw [List.any_eq_false]
   intro j hj e
   have e : j = x := by simpa using e
   subst e
   exact (List.nodup_append.mp h).2.2 j hj j List.mem_cons_self rfl
  rw [List.foldl_cons, hx]
  have h2 : (acc ++ [x] ++ xs).Nodup := by simpa using h
  show List.foldl _ (acc ++ [x]) xs = _
  rw [Mr xs (acc ++ [x]) h2]
  simp
theorem Xk {xs : List Str} (h : xs.Nodup) : metK xs = xs := Mr xs [] (by simpa using h)
theorem B5 {κ : Type} [DecidableEq κ] : ∀ {kvs : List (κ × V)} {i : Nat} {k : κ} {v : V}, (kvs.map (·.1)).Nodup -> kvs[i]? = some (k, v) -> valV kvs k = some v
 | [], _, _, _, _, e => by simp at e
 | p :: r, 0, k, v, _, e => by
  rw [List.getElem?_cons_zero] at e
  cases e
  exact Ed rfl
 | p :: r, i + 1, k, v, h, e => by
  rw [List.getElem?_cons_succ] at e
  rw [List.map_cons, List.nodup_cons] at h
  have ne : ¬ p.1 = k := fun z => h.1 (List.mem_map.mpr ⟨(k, v), List.mem_of_getElem? e, z.symm⟩)
  rw [Dd ne]
  exact B5 h.2 e
theorem B2 {κ : Type} [DecidableEq κ] : ∀ {kvs : List (κ × V)} {k : κ}, ¬ k ∈ kvs.map (·.1) -> valV kvs k = none
 | [], _, _ => rfl
 | p :: r, k, h => by
  rw [List.map_cons, List.mem_cons, not_or] at h
  rw [Dd (fun e => h.1 e.symm)]
  exact B2 h.2
theorem Kf {l : List Str} (h : l.Nodup) : (l.map (Sum.inr : Str -> Key)).Nodup := List.Pairwise.map _ (fun a b ne e => ne (by injection e)) h
theorem K8 (ds : List ((Str × List Str) × Addr)) : (ds.map kR).map (·.1) = ((ds.map (·.1)).map (·.1)).map (Sum.inr : Str -> Key) := by simp [List.map_map]
theorem Ej {ds : List ((Str × List Str) × Addr)} {sw : Sw} (e : ds.map (·.1) = sw) (h : (sw.map (·.1)).Nodup) : ((ds.map kR).map (·.1)).Nodup := by
 rw [K8, e]
 exact Kf h
theorem Ef (x y : Nat) : Builtin.bitOr (x : Int) (y : Int) = ((x ||| y : Nat) : Int) := by
 unfold Builtin.bitOr
 have hx : ¬ (0 : Int) <= Builtin.bitNot (x : Int) := by unfold Builtin.bitNot; omega
 have hy : ¬ (0 : Int) <= Builtin.bitNot (y : Int) := by unfold Builtin.bitNot; omega
 rw [PyProof.Rows.bitAnd_nn hx hy]
 have e : ∀ z : Nat, (Builtin.bitNot (Builtin.bitNot (z : Int))) = (z : Int) := fun z => by unfold Builtin.bitNot; omega
 rw [e, e, e, Int.toNat_natCast, Int.toNat_natCast]
theorem Ha (x y : Nat) : Builtin.bitAnd (x : Int) (y : Int) = ((x &&& y : Nat) : Int) := by
 rw [PyProof.Rows.bitAnd_pp (by omega) (by omega), Int.toNat_natCast, Int.toNat_natCast]
theorem Iy (n : Nat) : (2 : Int) ^ n = ((2 ^ n : Nat) : Int) := by simp
def setN (ns : List Nat) : Nat := ns.foldl (fun c n => c ||| 2 ^ n) 0
theorem Na : ∀ (ns : List Nat) (c : Nat), ns.foldl (fun (c : Int) n => Builtin.bitOr c (2 ^ n)) (c : Int) = ((ns.foldl (fun c n => c ||| 2 ^ n) c : Nat) : Int)
 | [], c => rfl
 | n :: ns, c => by rw [List.foldl_cons, List.foldl_cons, Iy, Ef, Na ns]
theorem Vw (ns : List Nat) : setM ns = (setN ns : Nat) := Na ns 0
theorem Nb : ∀ (ns : List Nat) (c k : Nat), (ns.foldl (fun c n => c ||| 2 ^ n) c).testBit k = (c.testBit k || decide (k ∈ ns))
 | [], c, k => by simp
 | n :: ns, c, k => by
  rw [List.foldl_cons, Nb ns, Nat.testBit_or, Nat.testBit_two_pow, Bool.or_assoc]
  congr 1
  rw [Bool.eq_iff_iff, Bool.or_eq_true, decide_eq_true_iff, decide_eq_true_iff, decide_eq_true_iff, List.mem_cons]
  exact or_congr ⟨Eq.symm, Eq.symm⟩ Iff.rfl
theorem Vx (ns : List Nat) (k : Nat) : (setN ns).testBit k = decide (k ∈ ns) := by
 unfold setN
 rw [Nb, Nat.zero_testBit, Bool.false_or]
def Ec (ms : List Nat) : Nat := ms.foldl (fun c m => c ||| m) 0
theorem Iz : ∀ (ms : List Nat) (c : Nat), (ms.map fun m : Nat => (m : Int)).foldl (fun c m => Builtin.bitOr c m) (c : Int) = ((ms.foldl (fun c m => c ||| m) c : Nat) : Int)
 | [], c => rfl
 | n :: ns, c => by rw [List.map_cons, List.foldl_cons, List.foldl_cons, Ef, Iz ns]
theorem E0 (ms : List Nat) : Bs (ms.map fun m : Nat => (m : Int)) = (Ec ms : Nat) := Iz ms 0
theorem Ja : ∀ (ms : List Nat) (c k : Nat), (ms.foldl (fun c m => c ||| m) c).testBit k = (c.testBit k || ms.any fun m => m.testBit k)
 | [], c, k => by simp
 | n :: ns, c, k => by rw [List.foldl_cons, Ja ns, Nat.testBit_or, List.any_cons, Bool.or_assoc]
theorem Jb (ms : List Nat) (k : Nat) : (Ec ms).testBit k = ms.any fun m => m.testBit k := by
 unfold Ec
 rw [Ja, Nat.zero_testBit, Bool.false_or]
def hasB (rows : List (List Str)) (p : Nat) (z : Str) (k : Nat) : Bool := decide ((rows[k]?.bind fun r => r[p]?) = some z)
theorem Px (p : Nat) (z : Str) : ∀ (rows : List (List Str)) (j n : Nat), n ∈ havM p z j rows ↔ j <= n /\ (rows[n - j]?.bind fun r => r[p]?) = some z
 | [], j, n => by simp [havM]
 | r :: rows, j, n => by
  have ih := Px p z rows (j + 1) n
  have e : ∀ b, (n = j /\ b) \/ (j + 1 <= n /\ (rows[n - (j + 1)]?.bind fun r => r[p]?) = some z) ↔ j <= n /\ ((n = j /\ b) \/ (n ≠ j /\ (rows[n - (j + 1)]?.bind fun r => r[p]?) = some z)) := fun b => by
   constructor
   ·rintro (⟨h1, h2⟩ | ⟨h1, h2⟩)
    ·exact ⟨by omega, .inl ⟨h1, h2⟩⟩
    ·exact ⟨by omega, .inr ⟨by omega, h2⟩⟩
   ·rintro ⟨h0, ⟨h1, h2⟩ | ⟨h1, h2⟩⟩
    ·exact .inl ⟨h1, h2⟩
    ·exact .inr ⟨by omega, h2⟩
  have g : j <= n -> (((r :: rows)[n - j]?.bind fun r => r[p]?) = some z ↔ ((n = j /\ r[p]? = some z) \/ (n ≠ j /\ (rows[n - (j + 1)]?.bind fun r => r[p]?) = some z))) := fun h => by
   by_cases hn : n = j
   ·subst hn
    simp
   ·have e2 : n - j = (n - (j + 1)) + 1 := by omega
    rw [e2, List.getElem?_cons_succ]
    simp [hn]
  rw [havM]
  by_cases hr : r[p]? = some z
  ·rw [if_pos hr, List.mem_cons, ih]
   have := e (r[p]? = some z)
   constructor
   ·intro h
    have h2 := this.mp (h.imp (fun x => ⟨x, hr⟩) id)
    exact ⟨h2.1, (g h2.1).mpr h2.2⟩
   ·rintro ⟨h1, h2⟩
    exact (this.mpr ⟨h1, (g h1).mp h2⟩).imp (fun x => x.1) id
  ·rw [if_neg hr, ih]
   have := e (r[p]? = some z)
   constructor
   ·intro h
    have h2 := this.mp (.inr h)
    exact ⟨h2.1, (g h2.1).mpr h2.2⟩
   ·rintro ⟨h1, h2⟩
    rcases this.mpr ⟨h1, (g h1).mp h2⟩ with h | h
    ·exact absurd h.2 hr
    ·exact h
def P1 (rows : List (List Str)) (p : Nat) (z : Str) : Nat := setN (havM p z 0 rows)
theorem Ro (rows : List (List Str)) (p : Nat) (z : Str) : Cz rows p z = (P1 rows p z : Nat) := Vw _
theorem Rp (rows : List (List Str)) (p : Nat) (z : Str) (k : Nat) : (P1 rows p z).testBit k = hasB rows p z k := by
 unfold P1 hasB
 rw [Vx]
 refine decide_eq_decide.mpr ?_
 rw [Px]
 simp
def Iw (sw : Sw) (e : Str × List Str) : Nat := Ec (e.2.map (P1 (Ah sw) (Az sw e.1)))
theorem Sn (sw : Sw) (e : Str × List Str) : Fl sw e = (Iw sw e : Nat) := by
 unfold Fl Iw
 rw [<- E0, List.map_map]
 congr 1
 exact List.map_congr_left fun z _ => Ro _ _ _
theorem So (sw : Sw) (e : Str × List Str) (k : Nat) : (Iw sw e).testBit k = e.2.any fun z => hasB (Ah sw) (Az sw e.1) z k := by
 unfold Iw
 rw [Jb, List.any_map]
 congr 1
 funext z
 exact Rp _ _ _ _
def allN (sw : Sw) : Nat := 2 ^ (Ah sw).length - 1
theorem G7 (sw : Sw) : allM sw = (allN sw : Nat) := by
 unfold allM allN
 rw [Iy]
 have : 0 < 2 ^ (Ah sw).length := Nat.two_pow_pos _
 omega
theorem Mc (sw : Sw) (k : Nat) : (allN sw).testBit k = decide (k < (Ah sw).length) := by
 unfold allN
 rw [Nat.testBit_two_pow_sub_one]
def boxN (sw : Sw) (rule : Sw) : Nat := rule.foldl (fun c e => c &&& Iw sw e) (allN sw)
theorem Me (sw : Sw) : ∀ (rule : Sw) (c : Nat), rule.foldl (fun c e => Builtin.bitAnd c (Fl sw e)) (c : Int) = ((rule.foldl (fun c e => c &&& Iw sw e) c : Nat) : Int)
 | [], c => rfl
 | e :: rule, c => by rw [List.foldl_cons, List.foldl_cons, Sn, Ha, Me sw rule]
theorem E4 (sw rule : Sw) : boxM sw rule = (boxN sw rule : Nat) := by
 unfold boxM boxN
 rw [G7, Me]
theorem Mf (sw : Sw) : ∀ (rule : Sw) (c k : Nat), (rule.foldl (fun c e => c &&& Iw sw e) c).testBit k = (c.testBit k && rule.all fun e => e.2.any fun z => hasB (Ah sw) (Az sw e.1) z k)
 | [], c, k => by simp
 | e :: rule, c, k => by rw [List.foldl_cons, Mf sw rule, Nat.testBit_and, So, List.all_cons, Bool.and_assoc]
theorem Mg (sw rule : Sw) (k : Nat) : (boxN sw rule).testBit k = (decide (k < (Ah sw).length) && rule.all fun e => e.2.any fun z => hasB (Ah sw) (Az sw e.1) z k) := by
 unfold boxN
 rw [Mf, Mc]
def Gf (sw : Sw) (rules : List Sw) : Nat := allN sw - (allN sw &&& Ec (rules.map (boxN sw)))
theorem Jy (sw : Sw) (rules : List Sw) : Er sw rules = (Gf sw rules : Nat) := by
 unfold Er Gf F9
 have e : rules.map (boxM sw) = (rules.map (boxN sw)).map fun m : Nat => (m : Int) := by
  rw [List.map_map]
  exact List.map_congr_left fun r _ => E4 sw r
 rw [e, E0, G7, PyProof.Rows.bitAnd_pn (by omega) (by unfold Builtin.bitNot; omega), show Builtin.bitNot (Builtin.bitNot ((Ec (rules.map (boxN sw)) : Nat) : Int)) = ((Ec (rules.map (boxN sw)) : Nat) : Int) by unfold Builtin.bitNot; omega, Int.toNat_natCast, Int.toNat_natCast]
 have := Nat.and_le_left (n := allN sw) (m := Ec (rules.map (boxN sw)))
 omega
theorem Yx (a b : Nat) : a - (a &&& b) = a ^^^ (a &&& b) := by
 have h : (a ^^^ (a &&& b)) &&& (a &&& b) = 0 := by
  refine Nat.eq_of_testBit_eq fun k => ?_
  rw [Nat.testBit_and, Nat.testBit_xor, Nat.testBit_and, Nat.zero_testBit]
  cases a.testBit k <;> cases b.testBit k <;> rfl
 have h2 : (a ^^^ (a &&& b)) ||| (a &&& b) = a := by
  refine Nat.eq_of_testBit_eq fun k => ?_
  rw [Nat.testBit_or, Nat.testBit_xor, Nat.testBit_and]
  cases a.testBit k <;> cases b.testBit k <;> rfl
 have h3 : (a ^^^ (a &&& b)) + (a &&& b) = (a ^^^ (a &&& b)) ||| (a &&& b) := by
  have e := PyProof.Rows.bitOr_and ((a ^^^ (a &&& b) : Nat) : Int) ((a &&& b : Nat) : Int)
  rw [Ef, Ha, h] at e
  omega
 omega
theorem Jz (sw : Sw) (rules : List Sw) (k : Nat) : (Gf sw rules).testBit k = (decide (k < (Ah sw).length) && !rules.any fun r => (boxN sw r).testBit k) := by
 unfold Gf
 rw [Yx, Nat.testBit_xor, Nat.testBit_and, Mc, Jb, List.any_map]
 show (_ ^^ (_ && rules.any fun r => (boxN sw r).testBit k)) = _
 cases decide (k < (Ah sw).length) <;> cases rules.any (fun r => (boxN sw r).testBit k) <;> rfl
def A3 (c : Nat) : List (List Nat) -> List Nat
 | [] => []
 | [a] => a
 | a :: r => a ++ c :: A3 c r
theorem Cd (c : Nat) : ∀ ps : List Str, (Str.join ⟨#[c]⟩ ps).cps.toList = A3 c (ps.map fun p => p.cps.toList)
 | [] => rfl
 | [a] => rfl
 | a :: b :: r => by
  show (a ++ (⟨#[c]⟩ : Str) ++ Str.join ⟨#[c]⟩ (b :: r)).cps.toList = _
  have ih := Cd c (b :: r)
  rw [Str.cps_append, Str.cps_append, Array.toList_append, Array.toList_append, ih]
  show a.cps.toList ++ [c] ++ A3 c ((b :: r).map fun p => p.cps.toList) = a.cps.toList ++ c :: A3 c ((b :: r).map fun p => p.cps.toList)
  rw [List.append_assoc]
  rfl
theorem Ps {c : Nat} : ∀ {a b X Y : List Nat}, c ∉ a -> c ∉ b -> a ++ c :: X = b ++ c :: Y -> a = b /\ X = Y
 | [], [], _, _, _, _, h => by simpa using h
 | [], y :: b, _, _, _, hb, h => by
  have : c = y := by simpa using (List.cons.inj h).1
  exact absurd (this ▸ List.mem_cons_self) hb
 | x :: a, [], _, _, ha, _, h => by
  have : x = c := by simpa using (List.cons.inj h).1
  exact absurd (this ▸ List.mem_cons_self) ha
 | x :: a, y :: b, X, Y, ha, hb, h => by
  have h1 : x = y := (List.cons.inj h).1
  have h2 : a ++ c :: X = b ++ c :: Y := (List.cons.inj h).2
  obtain ⟨e1, e2⟩ := Ps (fun z => ha (List.mem_cons_of_mem _ z)) (fun z => hb (List.mem_cons_of_mem _ z)) h2
  exact ⟨by rw [h1, e1], e2⟩
theorem J4 {c : Nat} : ∀ {as bs : List (List Nat)}, as ≠ [] -> bs ≠ [] -> (∀ a ∈ as, c ∉ a) -> (∀ b ∈ bs, c ∉ b) -> A3 c as = A3 c bs -> as = bs
 | [], _, h, _, _, _, _ => absurd rfl h
 | _, [], _, h, _, _, _ => absurd rfl h
 | [a], [b], _, _, _, _, h => by rw [show a = b from h]
 | [a], b :: b' :: r, _, _, ha, _, h => by
  have h : a = b ++ c :: A3 c (b' :: r) := h
  exact absurd (by rw [h]; simp) (ha a List.mem_cons_self)
 | a :: a' :: r, [b], _, _, _, hb, h => by
  have h : a ++ c :: A3 c (a' :: r) = b := h
  exact absurd (by rw [<- h]; simp) (hb b List.mem_cons_self)
 | a :: a' :: r, b :: b' :: q, _, _, ha, hb, h => by
  have h : a ++ c :: A3 c (a' :: r) = b ++ c :: A3 c (b' :: q) := h
  obtain ⟨e1, e2⟩ := Ps (ha a List.mem_cons_self) (hb b List.mem_cons_self) h
  rw [e1, J4 (by simp) (by simp) (fun x hx => ha x (List.mem_cons_of_mem _ hx)) (fun x hx => hb x (List.mem_cons_of_mem _ hx)) e2]
theorem En {a b : Str} (h : a.cps.toList = b.cps.toList) : a = b := by
 cases a; cases b
 congr 1
 exact Array.toList_inj.mp h
theorem Eb (sep : Str) (ps : List Str) : Txt.join sep ps = Str.join sep ps := by
 show Builtin.Str.glued sep ps = _
 rw [StrLaws.glued_eq_join]
theorem Iu {c : Nat} {ps : List Str} (hn : ps ≠ []) (h : ∀ p ∈ ps, c ∉ p.cps.toList) : Txt.split (Txt.join ⟨#[c]⟩ ps) ⟨#[c]⟩ = ps := by
 have e := StrLaws.join_split (Txt.join ⟨#[c]⟩ ps) ⟨#[c]⟩
 rw [Eb] at e ⊢
 have e2 := congrArg (fun z : Str => z.cps.toList) e
 rw [Cd, Cd] at e2
 have f := StrLaws.split_free (Str.join ⟨#[c]⟩ ps) c
 have l1 := PyProof.Rows.split_pos (Str.join ⟨#[c]⟩ ps) ⟨#[c]⟩
 generalize Txt.split (Str.join ⟨#[c]⟩ ps) ⟨#[c]⟩ = qs at e2 f l1 ⊢
 have e3 := J4 (as := qs.map fun p => p.cps.toList) (bs := ps.map fun p => p.cps.toList) (by intro z; rw [List.map_eq_nil_iff] at z; rw [z] at l1; simp at l1) (by simpa using hn) (fun a ha => by obtain ⟨p, hp, rfl⟩ := List.mem_map.mp ha; exact f p hp) (fun a ha => by obtain ⟨p, hp, rfl⟩ := List.mem_map.mp ha; exact h p hp) e2
 exact (List.map_inj_right (fun a b => En)).mp e3
theorem Ei {c : Nat} : ∀ {as : List (List Nat)}, as ≠ [] -> (A3 c as).length + 1 = (as.map fun a => a.length + 1).sum
 | [], h => absurd rfl h
 | [a], _ => by simp [A3]
 | a :: b :: r, _ => by
  show (a ++ c :: A3 c (b :: r)).length + 1 = _
  have ih := Ei (c := c) (as := b :: r) (by simp)
  rw [List.length_append, List.length_cons, List.map_cons, List.sum_cons, <- ih]
  omega
theorem Eh {c d : Nat} : ∀ {as : List (List Nat)}, as ≠ [] -> (A3 c as).count d + (if c = d then 1 else 0) = (as.map fun a => a.count d + (if c = d then 1 else 0)).sum
 | [], h => absurd rfl h
 | [a], _ => by simp [A3]
 | a :: b :: r, _ => by
  show (a ++ c :: A3 c (b :: r)).count d + _ = _
  have ih := Eh (c := c) (d := d) (as := b :: r) (by simp)
  rw [List.count_append, List.count_cons, List.map_cons, List.sum_cons, <- ih]
  by_cases h : c = d
  ·simp only [h, beq_self_eq_true, if_true]; omega
  ·rw [if_neg h, if_neg (by simpa using h)]; omega
theorem K9 {α : Type} {f : α -> Nat} {a : α} : ∀ {l : List α}, a ∈ l -> f a <= (l.map f).sum
 | x :: l, h => by
  rw [List.map_cons, List.sum_cons]
  rcases List.mem_cons.mp h with rfl | h
  ·omega
  ·have := K9 (f := f) h; omega
theorem P0 {α : Type} {f : α -> Nat} : ∀ {l : List α}, (∀ a ∈ l, 1 <= f a) -> l.length <= (l.map f).sum
 | [], _ => Nat.le_refl _
 | x :: l, h => by
  rw [List.map_cons, List.sum_cons, List.length_cons]
  have := P0 (f := f) (l := l) fun a ha => h a (List.mem_cons_of_mem _ ha)
  have := h x List.mem_cons_self
  omega
theorem Qp {α : Type} {f : α -> Nat} : ∀ {l : List α}, (∀ a ∈ l, f a = 1) -> (l.map f).sum = l.length
 | [], _ => rfl
 | x :: l, h => by
  rw [List.map_cons, List.sum_cons, List.length_cons, Qp fun a ha => h a (List.mem_cons_of_mem _ ha), h x List.mem_cons_self]
  omega
section
variable {z : Str} {c : Nat}
theorem Ea : Txt.split z ⟨#[c]⟩ ≠ [] := fun q => by
 have := PyProof.Rows.split_pos z ⟨#[c]⟩
 rw [q] at this
 exact absurd this (by decide)
theorem Cn : A3 c ((Txt.split z ⟨#[c]⟩).map fun p => p.cps.toList) = z.cps.toList := by
 rw [<- Cd, StrLaws.join_split]
theorem Co : (Txt.split z ⟨#[c]⟩).map (fun p => p.cps.toList) ≠ [] := fun q => Ea (List.map_eq_nil_iff.mp q)
theorem Bq {p : Str} (h : p ∈ Txt.split z ⟨#[c]⟩) : p.length <= z.length := by
 have e := Ei (c := c) (Co (z := z) (c := c))
 rw [Cn, List.map_map, C3] at e
 have := K9 (f := (fun a : List Nat => a.length + 1) ∘ fun p : Str => p.cps.toList) h
 rw [<- e] at this
 have l : ((fun a : List Nat => a.length + 1) ∘ fun p : Str => p.cps.toList) p = p.length + 1 := by show p.cps.toList.length + 1 = _; rw [C3]
 omega
theorem Cu : (Txt.split z ⟨#[c]⟩).length <= z.length + 1 := by
 have e := Ei (c := c) (Co (z := z) (c := c))
 rw [Cn, List.map_map, C3] at e
 rw [e]
 exact P0 fun a _ => Nat.le_add_left _ _
theorem Db {d : Nat} (hd : c ≠ d) {p : Str} (h : p ∈ Txt.split z ⟨#[c]⟩) : p.cps.toList.count d <= z.cps.toList.count d := by
 have e := Eh (c := c) (d := d) (Co (z := z) (c := c))
 rw [Cn, List.map_map, if_neg hd] at e
 have := K9 (f := (fun a : List Nat => a.count d + 0) ∘ fun p : Str => p.cps.toList) h
 rw [<- e] at this
 exact this
theorem Sj : (Txt.split z ⟨#[c]⟩).length = z.cps.toList.count c + 1 := by
 have e := Eh (c := c) (d := c) (Co (z := z) (c := c))
 rw [Cn, List.map_map, if_pos rfl] at e
 rw [e, Qp]
 intro a ha
 show a.cps.toList.count c + 1 = 1
 rw [List.count_eq_zero.mpr (StrLaws.split_free z c a ha)]
theorem J3 {c : Nat} : ∀ {as bs : List (List Nat)}, as ≠ [] -> bs ≠ [] -> A3 c (as ++ bs) = A3 c as ++ c :: A3 c bs
 | [], _, h, _ => absurd rfl h
 | [a], b :: bs, _, _ => rfl
 | [a], [], _, h => absurd rfl h
 | a :: a' :: r, bs, _, h => by
  show a ++ c :: A3 c ((a' :: r) ++ bs) = (a ++ c :: A3 c (a' :: r)) ++ c :: A3 c bs
  rw [J3 (by simp) h, List.append_assoc]
  rfl
theorem Kr {a b : Str} : Txt.split (a ++ (⟨#[c]⟩ ++ b)) ⟨#[c]⟩ = Txt.split a ⟨#[c]⟩ ++ Txt.split b ⟨#[c]⟩ := by
 have e : Txt.join ⟨#[c]⟩ (Txt.split a ⟨#[c]⟩ ++ Txt.split b ⟨#[c]⟩) = a ++ (⟨#[c]⟩ ++ b) := by
  refine En ?_
  rw [Eb, Cd, List.map_append, J3 Co Co, Cn, Cn, Str.cps_append, Str.cps_append, Array.toList_append, Array.toList_append]
  rfl
 rw [<- e]
 refine Iu (by intro q; exact Ea (List.append_eq_nil_iff.mp q).1) fun p hp => ?_
 rcases List.mem_append.mp hp with h | h
 ·exact StrLaws.split_free a c p h
 ·exact StrLaws.split_free b c p h
end
end Pn
namespace L2
open PySem PySem.Spec PyProof.Rows
section
variable {P : Program} {w : World} {K : PySem.W.Frag} {mg : Str -> Option Value} {base : Heap} {x q : Str} {st : Stmt} {f : Addr} {d : FuncData} {ps : List Str}
def DfIn (K : PySem.W.Frag) (x q : Str) (st : Stmt) (f : Addr) : Prop := ∃ d, Fun K x q st f d
structure TopD (K : PySem.W.Frag) (q : Str) (st : Stmt) (f : Addr) : Prop where
 at_ : PySem.W.nsIn K mainGlobals q = some (some (.ref f))
 d : DfIn K q q st f
structure MetD (K : PySem.W.Frag) (x q : Str) (st : Stmt) (f : Addr) : Prop where
 fn : PySem.W.isFn K (.ref f) = true
 d : DfIn K x q st f
theorem top_mk {oc : Value} {od an : Option Addr} {osl : Array (Option Value)} {kV doc pm cdv ct : Value} (a : PySem.W.nsIn K mainGlobals q = some (some (.ref f))) (l : K.lookup f = some ⟨oc, od, .func (PySem.W.fnOf q q (Bf st) (Ag st) (Ab st) .none kV doc pm an cdv ct), osl⟩)
  (c : PySem.W.codeIn K cdv q = true) (k : PySem.W.keepIn K (.ref f) = true) : TopD K q st f := ⟨a, _, N1 l c k⟩
theorem met_mk {oc : Value} {od an : Option Addr} {osl : Array (Option Value)} {kV doc pm cdv ct : Value} (l : K.lookup f = some ⟨oc, od, .func (PySem.W.fnOf x q (Bf st) (Ag st) (Ab st) .none kV doc pm an cdv ct), osl⟩)
  (c : PySem.W.codeIn K cdv q = true) (k : PySem.W.keepIn K (.ref f) = true) (i : PySem.W.isFn K (.ref f) = true) : MetD K x q st f := ⟨i, _, N1 l c k⟩
structure DOk (K : PySem.W.Frag) (mg : Str -> Option Value) (q : Str) (st : Stmt) (f : Addr) (d : FuncData) (ps : List Str) : Prop where
 F : FunD K q q st f d .none
 b : Binds K d ps []
 m : mg q = some (.ref f)
structure MOk (K : PySem.W.Frag) (x q : Str) (st : Stmt) (f : Addr) (d : FuncData) (ps : List Str) : Prop where
 F : FunD K x q st f d .none
 b : Binds K d ps []
 i : PySem.W.isFn K (.ref f) = true
theorem TopD.ok {h : Heap} (D : TopD K q st f) (X : K.In h) (G : h.Ns mainGlobals mg) (hb : ∀ (kV doc pm : Value) (an : Option Addr) (cdv ct : Value) (us : List Value), us.length = ps.length -> bindArgs (PySem.W.fnOf q q (Bf st) (Ag st) (Ab st) .none kV doc pm an cdv ct) ⟨us, []⟩ = pure (ps.zip us)) : ∃ d, DOk K mg q st f d ps := by
 obtain ⟨a, d, F⟩ := D
 exact ⟨d, F.toD, F.binds hb, PySem.W.mg_of X G a⟩
theorem MetD.ok (D : MetD K x q st f) (hb : ∀ (kV doc pm : Value) (an : Option Addr) (cdv ct : Value) (us : List Value), us.length = ps.length -> bindArgs (PySem.W.fnOf x q (Bf st) (Ag st) (Ab st) .none kV doc pm an cdv ct) ⟨us, []⟩ = pure (ps.zip us)) : ∃ d, MOk K x q st f d ps := by
 obtain ⟨a, d, F⟩ := D
 exact ⟨d, F.toD, F.binds hb, a⟩
theorem nodf {i : FI} (h2 : i.ds = []) (b : Binds K i.fd i.ps []) : ∀ j, j <= i.dfs.length -> Binds K i.fd i.ps (i.ds.drop j) := fun j _ => by
 rw [h2, List.drop_nil]; exact b
theorem Tab.con {k : Nat} {gb : List (Str × GB)} {bl : List Str} (T : Tab P w K mg base k gb bl) (i : FI) (g : DOk K mg q st i.f i.fd i.ps) (ok : FnOk P w K mg base CX0 i.k i.f i.fd i.ps i.sp) (hk : i.k <= k := by exact Nat.le_refl _) (h1 : i.dfs = [] := by rfl) (h2 : i.ds = [] := by rfl) : Tab P w K mg base k ((q, .fn i) :: gb) bl :=
 T.cons ⟨g.m, g.F.kp, ⟨CX0, fun X' _ _ => Hy X', ok⟩, hk, nodf h2 g.b, by rw [h1, h2]; exact .nil⟩
theorem Tab.conE {k : Nat} {gb : List (Str × GB)} {bl : List Str} (T : Tab P w K mg base k gb bl) (i : FI) (g : DOk K mg q st i.f i.fd i.ps) (ok : FnOk P w K mg base (CXE P w) i.k i.f i.fd i.ps i.sp) (hk : i.k <= k := by exact Nat.le_refl _) (h1 : i.dfs = [] := by rfl) (h2 : i.ds = [] := by rfl) : Tab P w K mg base k ((q, .fn i) :: gb) bl :=
 T.cons ⟨g.m, g.F.kp, ⟨CXE P w, fun X' e1 e2 => e1 ▸ e2 ▸ M0 X', ok⟩, hk, nodf h2 g.b, by rw [h1, h2]; exact .nil⟩
theorem MOk.fi {k : Nat} (i : FI) (g : MOk K x q st i.f i.fd i.ps) (ok : FnOk P w K mg base CX0 i.k i.f i.fd i.ps i.sp) (hk : i.k <= k := by exact Nat.le_of_ble_eq_true rfl) (h1 : i.dfs = [] := by rfl) (h2 : i.ds = [] := by rfl) : FiIn P w K mg base k i :=
 ⟨g.F.kp, ⟨CX0, fun X' _ _ => Hy X', ok⟩, hk, nodf h2 g.b, by rw [h1, h2]; exact .nil⟩
theorem MOk.fiE {k : Nat} (i : FI) (g : MOk K x q st i.f i.fd i.ps) (ok : FnOk P w K mg base (CXE P w) i.k i.f i.fd i.ps i.sp) (hk : i.k <= k := by exact Nat.le_of_ble_eq_true rfl) (h1 : i.dfs = [] := by rfl) (h2 : i.ds = [] := by rfl) : FiIn P w K mg base k i :=
 ⟨g.F.kp, ⟨CXE P w, fun X' e1 e2 => e1 ▸ e2 ▸ M0 X', ok⟩, hk, nodf h2 g.b, by rw [h1, h2]; exact .nil⟩
theorem one {C : Addr} {i : FI} {m : Str} {k : Nat} (h : MetIn P w K mg base k m ⟨C, i⟩) : ∀ mi ∈ [(⟨C, i⟩ : MI)], MetIn P w K mg base k m mi := fun mi hm => by
 rw [List.mem_singleton] at hm
 exact hm ▸ h
end
end L2
section
open PySem PySem.W PyProof.Rows
set_option maxHeartbeats 0
def PySem.W.Fast.tw10066478997964436677 : Unit := ()
def PySem.W.Fast.tw10366325402232173892 : Unit := ()
def PySem.W.Fast.tw1038992750247830063 : Unit := ()
def PySem.W.Fast.tw12127671590722832905 : Unit := ()
def PySem.W.Fast.tw12360444917295587771 : Unit := ()
def PySem.W.Fast.tw1241405497014146540 : Unit := ()
def PySem.W.Fast.tw12598575440908770859 : Unit := ()
def PySem.W.Fast.tw13067618847452022768 : Unit := ()
def PySem.W.Fast.tw15536145384495883517 : Unit := ()
def PySem.W.Fast.tw15609550357976765963 : Unit := ()
def PySem.W.Fast.tw17074708986780237654 : Unit := ()
def PySem.W.Fast.tw17403103029140746128 : Unit := ()
def PySem.W.Fast.tw17770962055076416304 : Unit := ()
def PySem.W.Fast.tw2191170965566909893 : Unit := ()
def PySem.W.Fast.tw2682207431000483069 : Unit := ()
def PySem.W.Fast.tw3820303343071420104 : Unit := ()
def PySem.W.Fast.tw4902832806073565567 : Unit := ()
def PySem.W.Fast.tw6605502912633795825 : Unit := ()
def PySem.W.Fast.tw7012985106725344884 : Unit := ()
def PySem.W.Fast.tw7441384606613435993 : Unit := ()
def PySem.W.Fast.tw7893490183401060968 : Unit := ()
def PySem.W.Fast.tw8005917182469744908 : Unit := ()
def PySem.W.Fast.tw9584266253469333878 : Unit := ()
open_top head_k12 for PySem.Challenge.rw_manyleaf_k12_no_condition
end
namespace K12
open PySem L2
structure Adr where
 f_zae : Addr
 d_zae : FuncData
 f_zad : Addr
 d_zad : FuncData
 f_zm : Addr
 d_zm : FuncData
 f_zc : Addr
 d_zc : FuncData
 f_zo : Addr
 d_zo : FuncData
 f_zt : Addr
 d_zt : FuncData
 f_zaf : Addr
 d_zaf : FuncData
 f_ze : Addr
 d_ze : FuncData
 f_zn : Addr
 d_zn : FuncData
 f_zs : Addr
 d_zs : FuncData
 f_zx : Addr
 d_zx : FuncData
 f_zy : Addr
 d_zy : FuncData
 f_zr : Addr
 d_zr : FuncData
 f_zac : Addr
 d_zac : FuncData
 f_zj : Addr
 d_zj : FuncData
 f_zp : Addr
 d_zp : FuncData
 f_zk : Addr
 d_zk : FuncData
 f_zg : Addr
 d_zg : FuncData
 f_zd : Addr
 d_zd : FuncData
 f_zu : Addr
 d_zu : FuncData
 f_zh : Addr
 d_zh : FuncData
 f_zb : Addr
 d_zb : FuncData
 f_za : Addr
 d_za : FuncData
 f_zag : Addr
 d_zag : FuncData
 f_zf : Addr
 d_zf : FuncData
 f_zl : Addr
 d_zl : FuncData
 f_zv : Addr
 d_zv : FuncData
 f_zi : Addr
 d_zi : FuncData
 f_zw : Addr
 d_zw : FuncData
 f_zz : Addr
 d_zz : FuncData
 f_zaa : Addr
 d_zaa : FuncData
 f_zq : Addr
 d_zq : FuncData
 f_zab : Addr
 d_zab : FuncData
 f_zah : Addr
 d_zah : FuncData
 dv_zl : Value
 du_zl : List Value
 c_zan : Addr
 c_zao : Addr
 c_zap : Addr
 c_zaq : Addr
 c_zar : Addr
 c_zas : Addr
 u_zau : Value
 u_zat : Value
 u_zak : Value
 u_zai : Value
 u_zaj : Value
 u_zal : Value
 u_zam : Value
end K12
namespace K12
open PySem L2 Pn
structure Ar (K : PySem.W.Frag) (t : Adr) : Prop where
 pf : Z2 K t.c_zas t.c_zap
 ec : ECls K t.c_zaq
 mc : PySem.W.mroIn K t.c_zaq (.ref t.c_zaq) = some true
 k1 : PySem.W.kitOne K (.ref t.c_zaq) (.ref t.c_zan) = some true
 k2 : PySem.W.kitOne K (.ref t.c_zaq) (.type "ValueError") = some true
 k3 : PySem.W.kitOne K (.ref t.c_zaq) (.ref t.c_zar) = some false
def Gn (z : Str) : Bool := decide (1 <= z.length) && decide (z.length <= 8) && z.cps.toList.all Ax
def Am (ns : List Int) (k : Nat) : Int := ns.getD k ((k + 3) * 7919)
def Qq (c : Int) (j : Nat) : Nat := 97 + ((c / 26 + 7 * (1 + (j : Int)) * (1 + (j : Int))) % 26).toNat
def Bc (c : Int) (k : Nat) : Str :=
 if c % 4 = 3 then ⟨([97 + ((c / 4 + (k : Int) / 8) % 26).toNat] ++ ((List.range 7).map (Qq c)).take (k % 8)).toArray⟩
 else
  let base := ([97 + (c / 256 % 26).toNat] ++ (List.range 7).map (Qq c)).take (1 + c / 4 % 8).toNat
  let at_ := (c / 32 % (1 + c / 4 % 8)).toNat
  ⟨(base.take at_ ++ [97 + ((c / 6656 + (k : Int)) % 26).toNat] ++ base.drop (at_ + 1)).toArray⟩
def Dv (acc : List (List Nat)) (n : Nat) : List (List Nat) := acc.flatMap fun a => (List.range n).map fun j => a ++ [j]
def digS (sw : Sw) : List (List Nat) := (sw.map (·.2.length)).foldl Dv [[]]
def DigAt (H : Hp) (r : Addr) (rows : List (List Nat)) : Prop := ∃ ds : List (List Nat × Addr), ds.map (·.1) = rows /\ H r = some (.lst (ds.map fun x => .ref x.2)) /\ ∀ x ∈ ds, H x.2 = some (.lst (x.1.map fun n : Nat => V.int (n : Int)))
def Ao : List Str -> Sw -> Option Sw
 | [], acc => some acc
 | z :: r, acc => match Txt.split z "=" with
  | [a, b] => if a ∈ acc.map (·.1) then none else Ao r (acc ++ [(a, Txt.split b ",")])
  | _ => none
def C6 (z : Str) : Option Sw := Ao (Txt.split z "&") []
def Cj (sw : Sw) (z : Str) : Prop := ∃ rule, C6 z = some rule /\ ∀ e ∈ rule, B4 sw e
def Ce (sw : Sw) (z : Str) : Int := boxM sw ((C6 z).getD [])
def Dm (sw : Sw) (z : Str) : Prop := ∀ q ∈ Txt.split z "|", Cj sw q
open Classical in
noncomputable def Cf (sw : Sw) (z : Str) : Option Int :=
 if z = "*" then some (allM sw) else if z = "-" then some 0 else if Dm sw z then some (Bs ((Txt.split z "|").map (Ce sw))) else none
def coms (z : Str) : Nat := z.cps.toList.count 44
def fewP (z : Str) : Prop := z.length <= 1000 /\ coms z <= 28
def fewT (z : Str) : Prop := z.length <= 1000 /\ ∀ q ∈ Txt.split z "|", coms q <= 28
def Pm (rule : Sw) : Prop := rule ≠ [] /\ rule.length <= 1001 /\ (rule.map (·.1)).Nodup /\ ∀ e ∈ rule, e.1.length <= 1000 /\ e.2 ≠ [] /\ e.2.length <= 29 /\ ∀ z ∈ e.2, z.length <= 1000
abbrev BadC (t : Adr) (H : Hp) (E : XK) : Prop := ∀ H' e, Same H H' -> H' e = some (flO e t.c_zaq none) -> E (.ref e) none H'
def Oj (K : PySem.W.Frag) (H : Hp) (v : V) : Prop := v = .non \/ (∃ i, v = .int i) \/ (∃ b, v = .bl b) \/ ∃ a, v = .ref a /\ ((∃ xs, H a = some (.lst xs)) \/ (∃ xs, H a = some (.tup xs)) \/ ∃ kvs, H a = some (.dK kvs))
section
def Ox (K : PySem.W.Frag) (t : Adr) : Sp := fun vs H Q _ => ∃ (a : Addr) (ns : List Nat), vs = [.ref a] /\ SqL K H a (ns.map fun n : Nat => V.int (n : Int)) /\ (∀ n ∈ ns, n <= 1000) /\ Q (.int (setM ns)) H
def Ir (K : PySem.W.Frag) (t : Adr) : Sp := fun vs H Q _ => ∃ (a : Addr) (ms : List Int), vs = [.ref a] /\ SqL K H a (ms.map V.int) /\ Q (.int (Bs ms)) H
def V8 (K : PySem.W.Frag) (t : Adr) : Sp := fun vs H Q _ => ∃ (z : Str) (lo hi : Int), vs = [.str z, .int lo, .int hi] /\ z.length <= 1000 /\ Q (.bl (decide (lo <= (z.length : Int)) && decide ((z.length : Int) <= hi))) H
def Wb (K : PySem.W.Frag) (t : Adr) : Sp := fun vs H Q _ => ∃ c, vs = [.str ⟨#[c]⟩] /\ Q (.bl (Ax c)) H
def Lu (K : PySem.W.Frag) (t : Adr) : Sp := fun vs H Q _ => ∃ z, vs = [.str z] /\ z.length <= 1000 /\ ∀ H', Same H H' -> Q (.bl (Gn z)) H'
def Qj (K : PySem.W.Frag) (t : Adr) : Sp := fun vs H Q _ => ∃ (a : Addr) (l : List Str), vs = [.ref a] /\ SqL K H a (l.map V.str) /\ l.length <= 29 /\ (∀ z ∈ l, z.length <= 1000) /\ ∀ H', Same H H' -> Q (.bl (l.all Gn && decide l.Nodup)) H'
def Wc (K : PySem.W.Frag) (t : Adr) : Sp := fun vs H Q _ => ∃ (a b : Addr) (w : Str) (l : List Str), vs = [.ref a] /\ H a = some (.tup [.str w, .ref b]) /\ H b = some (lstO l) /\ okW w /\ Ff l /\ ∀ H', Same H H' -> Q (.bl true) H'
def V3 (K : PySem.W.Frag) (t : Adr) : Sp := fun vs H Q _ => ∃ (a : Addr) (sw : Sw), vs = [.ref a] /\ SwIn any H a sw /\ okSw sw /\ ∀ H' d, Same H H' -> SwAt (fresh H) H' d sw -> Q (.ref d) H'
def V1 (K : PySem.W.Frag) (t : Adr) : Sp := fun vs H Q _ => ∃ (d : Addr) (sw : Sw), vs = [.ref d] /\ SwAt any H d sw /\ okSw sw /\ ∀ H' l, Same H H' -> TupsAt (fresh H) H' l (Ah sw) -> Q (.ref l) H'
def V0 (K : PySem.W.Frag) (t : Adr) : Sp := fun vs H Q _ => ∃ (l : Addr) (rows : List (List Str)), vs = [.ref l] /\ TupsAt any H l rows /\ rows.Nodup /\ rows.length <= 256 /\ ∀ H' n, Same H H' -> NumAt (fresh H) H' n rows -> Q (.ref n) H'
def V2 (K : PySem.W.Frag) (t : Adr) : Sp := fun vs H Q _ => ∃ (d l : Addr) (sw : Sw), vs = [.ref d, .ref l] /\ SwAt any H d sw /\ TupsAt any H l (Ah sw) /\ okSw sw /\ ∀ H' s, Same H H' -> SetsAt (fresh H) H' s sw -> Q (.ref s) H'
def V6 (K : PySem.W.Frag) (t : Adr) : Sp := fun vs H Q _ => ∃ (r : Addr) (rule : Sw), vs = [.ref r] /\ RuleAt any H r rule /\ (rule.map (·.1)).Nodup /\ rule.length <= 100 /\ ∀ H' c, Same H H' -> RuleAt (fresh H) H' c rule -> Q (.ref c) H'
def Zw (K : PySem.W.Frag) (t : Adr) : Sp := fun vs H Q _ => ∃ (p l s : Addr) (sw : Sw), vs = [.ref p] /\ SelfAt t.c_zas any H p l s /\ TupsAt any H l (Ah sw) /\ Q (.int (Ah sw).length) H
def Zt (K : PySem.W.Frag) (t : Adr) : Sp := fun vs H Q _ => ∃ (p l s : Addr) (sw : Sw), vs = [.ref p] /\ SelfAt t.c_zas any H p l s /\ TupsAt any H l (Ah sw) /\ (Ah sw).length <= 256 /\ Q (.int (allM sw)) H
def Zx (K : PySem.W.Frag) (t : Adr) : Sp := fun vs H Q E => ∃ (p a l s : Addr) (w : Str) (ss : List Str) (sw : Sw), vs = [.ref p, .str w, .ref a] /\ SelfAt t.c_zas any H p l s /\ SetsAt any H s sw /\ okSw sw /\ H a = some (lstO ss) /\ ss ≠ [] /\ ss.length <= 29 /\ (∀ z ∈ ss, z.length <= 1000) /\
 ((B4 sw (w, ss) /\ ∀ H', Same H H' -> Q (.int (Fl sw (w, ss))) H') \/ (¬ B4 sw (w, ss) /\ BadC t H E))
def Zy (K : PySem.W.Frag) (t : Adr) : Sp := fun vs H Q E => ∃ (p r l s : Addr) (sw rule : Sw), vs = [.ref p, .ref r] /\ SelfAt t.c_zas (· ≠ r) H p l s /\ TupsAt (· ≠ r) H l (Ah sw) /\ SetsAt (· ≠ r) H s sw /\ okSw sw /\ RuleAt any H r rule /\ Pm rule /\
 (((∀ e ∈ rule, B4 sw e) /\ ∀ H', Same H H' -> Q (.int (boxM sw rule)) H') \/ ((∃ e ∈ rule, ¬ B4 sw e) /\ ∀ H' e, (∀ b o, b ≠ r -> H b = some o -> H' b = some o) -> H' e = some (flO e t.c_zaq none) -> E (.ref e) none H'))
def Zv (K : PySem.W.Frag) (t : Adr) : Sp := fun vs H Q _ => ∃ (p r l s : Addr) (sw rule : Sw), vs = [.ref p, .ref r] /\ SelfAt t.c_zas (· ≠ r) H p l s /\ TupsAt (· ≠ r) H l (Ah sw) /\ SetsAt (· ≠ r) H s sw /\ okSw sw /\ RuleAt any H r rule /\ D8 sw rule /\ ∀ H' c, Same H H' -> RuleAt (fresh H) H' c rule -> Q (.ref c) H'
def Cw (ok : Addr -> Prop) (H : Hp) (v : V) (rules : List Sw) : Prop := (v = .non /\ rules = []) \/ ∃ k, v = .ref k /\ RulesAt ok H k rules
def Zu (K : PySem.W.Frag) (t : Adr) : Sp := fun vs H Q _ => ∃ (p l s : Addr) (ok : Addr -> Prop) (v : V) (sw : Sw) (rules : List Sw), vs = [.ref p, v] /\ SelfAt t.c_zas ok H p l s /\ TupsAt ok H l (Ah sw) /\ SetsAt ok H s sw /\ okSw sw /\
 Cw (fun a => ¬ ok a) H v rules /\ (∀ r ∈ rules, D8 sw r) /\ rules.length <= 8 /\ ∀ H' k, Same H H' -> RulesAt (fresh H) H' k rules -> Q (.ref k) H'
def V7 (K : PySem.W.Frag) (t : Adr) : Sp := fun vs H Q _ => ∃ (p a dx : Addr) (v : V) (sw : Sw) (rules : List Sw), vs = [.ref p, .ref a, v] /\ H p = some (.ins t.c_zas dx []) /\ SwIn (· ≠ p) H a sw /\ okSw sw /\ Cw (· ≠ p) H v rules /\ (∀ r ∈ rules, D8 sw r) /\ rules.length <= 8 /\ Er sw rules ≠ 0 /\
 ∀ H', (∀ b o, b ≠ p -> H b = some o -> H' b = some o) -> PanelAt t.c_zas (fun b => b = p \/ H b = none) H' p sw rules -> Q .non H'
def Ow (K : PySem.W.Frag) (t : Adr) : Sp := fun vs H Q E => ∃ z : Str, vs = [.str z] /\ fewP z /\ ((∃ rule, C6 z = some rule /\ Pm rule /\ ∀ H' d, Same H H' -> RuleAt (fresh H) H' d rule -> Q (.ref d) H') \/ (C6 z = none /\ BadC t H E))
def Qm (K : PySem.W.Frag) (t : Adr) : Sp := fun vs H Q E => ∃ (p : Addr) (v : V) (sw : Sw) (rules : List Sw), vs = [.ref p, v] /\ PanelAt t.c_zas any H p sw rules /\ okSw sw /\
 ((Oj K H v /\ BadC t H E) \/ ∃ z : Str, v = .str z /\ fewT z /\ ((∃ m, Cf sw z = some m /\ ∀ H', Same H H' -> Q (.int m) H') \/ (Cf sw z = none /\ BadC t H E)))
def Ct (K : PySem.W.Frag) (t : Adr) : Sp := fun vs H Q _ => ∃ (a : Addr) (ns : List Int) (k : Nat), vs = [.ref a, .int k] /\ SqL K H a (ns.map V.int) /\ Q (.int (Am ns k)) H
def Qk (K : PySem.W.Frag) (t : Adr) : Sp := fun vs H Q _ => ∃ (c : Int) (n : Nat), vs = [.int c, .int n] /\ n <= 100 /\ ∀ H' l (ns : List Int), Same H H' -> H l = none -> H' l = some (.lst (ns.map V.int)) -> ns.length = n -> (∀ i ∈ ns, 0 <= i) -> Q (.ref l) H'
def F7 (K : PySem.W.Frag) (t : Adr) : Sp := fun vs H Q _ => ∃ (c : Int) (k : Nat), vs = [.int c, .int k] /\ k <= 8 /\ ∀ H', Same H H' -> Q (.str (Bc c k)) H'
def V5 (K : PySem.W.Frag) (t : Adr) : Sp := fun vs H Q _ => ∃ (a : Addr) (ns : List Int), vs = [.ref a] /\ SqL K H a (ns.map V.int) /\ ∀ H' l sw, Same H H' -> SwIn any H' l sw -> okSw sw -> Q (.ref l) H'
def V9 (K : PySem.W.Frag) (t : Adr) : Sp := fun vs H Q _ => ∃ (l : Addr) (sw : Sw), vs = [.ref l] /\ SwIn any H l sw /\ okSw sw /\ ∀ H' r, Same H H' -> DigAt H' r (digS sw) -> Q (.ref r) H'
def Wd (K : PySem.W.Frag) (t : Adr) : Sp := fun vs H Q _ => ∃ (a l : Addr) (ns : List Int) (sw : Sw), vs = [.ref a, .ref l] /\ SqL K H a (ns.map V.int) /\ SwIn any H l sw /\ okSw sw /\ ∀ H' p rules, Same H H' -> PanelAt t.c_zas any H' p sw rules -> Q (.ref p) H'
def V4 (K : PySem.W.Frag) (t : Adr) : Sp := fun vs H Q _ => ∃ (l r : Addr) (z : Str) (sw : Sw), vs = [.ref l, .ref r, .str z] /\ SwIn any H l sw /\ okSw sw /\ DigAt H r (digS sw) /\ fewP z /\ ((Cj sw z /\ ∀ H', Same H H' -> Q (.int (Ce sw z)) H') \/ (¬ Cj sw z /\ ∀ H', Same H H' -> Q (.int (-1)) H'))
def Ql (K : PySem.W.Frag) (t : Adr) : Sp := fun vs H Q _ => ∃ (l r : Addr) (z : Str) (sw : Sw), vs = [.ref l, .ref r, .str z] /\ SwIn any H l sw /\ okSw sw /\ DigAt H r (digS sw) /\ fewT z /\ ∀ H', Same H H' -> Q (.int ((Cf sw z).getD (-1))) H'
def Nh (K : PySem.W.Frag) (t : Adr) : Sp := fun vs H Q _ => ∃ (l : Addr) (x y : Int) (sw : Sw), vs = [.ref l, .int x, .int y] /\ SwIn any H l sw /\ okSw sw /\ ∀ H' z, Same H H' -> z.length <= 50 -> coms z <= 3 -> Q (.str z) H'
def Ov (K : PySem.W.Frag) (t : Adr) : Sp := fun vs H Q _ => ∃ (l : Addr) (c : Int) (sw : Sw), vs = [.ref l, .int c] /\ SwIn any H l sw /\ okSw sw /\ ∀ H' z, Same H H' -> z.length <= 310 -> coms z <= 18 -> Q (.str z) H'
def Wa (K : PySem.W.Frag) (t : Adr) : Sp := fun vs H Q _ => ∃ (l : Addr) (z : Str) (c d : Int) (sw : Sw), vs = [.ref l, .str z, .int c, .int d] /\ SwIn any H l sw /\ okSw sw /\ z.length <= 310 /\ coms z <= 18 /\ ∀ H' y, Same H H' -> fewT y -> Q (.str y) H'
def Ls (K : PySem.W.Frag) (t : Adr) : Sp := fun vs H Q _ => ∃ (p : Addr) (v : V) (sw : Sw) (rules : List Sw), vs = [.ref p, v] /\ PanelAt t.c_zas any H p sw rules /\ okSw sw /\
 ((Oj K H v /\ ∀ H' q, Same H H' -> H' q = some (.tup [.str "refused", .non]) -> Q (.ref q) H') \/ ∃ z : Str, v = .str z /\ fewT z /\ ∀ H' q, Same H H' -> H' q = some (.tup (match Cf sw z with | some m => [.str "nothing", .int m] | none => [.str "refused", .non])) -> Q (.ref q) H')
def Lv (K : PySem.W.Frag) (t : Adr) : Sp := fun vs H Q _ => ∃ (a : Addr) (ns : List Int), vs = [.ref a] /\ SqL K H a (ns.map V.int) /\ ns.length <= 63 /\ ∀ H', Q (.bl true) H'
end
end K12
namespace K12
open PySem L2
def top (i : Nat) : Stmt := PySem.Challenge.pw_manyleaf_k12_no_condition.main.body.getD i (.Pass ⟨0, 0, 0, 0⟩)
def bl : List Str := ["ValueError", "all", "bool", "dict", "enumerate", "int", "isinstance", "len", "list", "max", "min", "range", "set", "str", "tuple"]
section
variable (K : PySem.W.Frag) (t : Adr)
abbrev Im : Stmt := top 9
abbrev Te : List Str := ["sets", "choices", "one"]
abbrev L8 : List Str := ["sets"]
def Zg : FI := ⟨t.f_zae, t.d_zae, L8, 1, Ir K t, [], []⟩
abbrev Il : Stmt := top 14
abbrev Td : List Str := ["text", "terms", "term", "sides"]
abbrev L6 : List Str := ["text"]
def Zf : FI := ⟨t.f_zad, t.d_zad, L6, 1, Ow K t, [], []⟩
abbrev s_zm : Stmt := Di (top 26) 3
abbrev N_zm : List Str := ["self"]
abbrev P_zm : List Str := ["self"]
def i_zm : FI := ⟨t.f_zm, t.d_zm, P_zm, 1, Zw K t, [], []⟩
abbrev s_zc : Stmt := Di (top 26) 9
abbrev N_zc : List Str := ["self"]
abbrev P_zc : List Str := ["self"]
def i_zc : FI := ⟨t.f_zc, t.d_zc, P_zc, 2, Zt K t, [], []⟩
abbrev s_zo : Stmt := top 18
abbrev N_zo : List Str := ["thing", "least", "greatest"]
abbrev P_zo : List Str := ["thing", "least", "greatest"]
def i_zo : FI := ⟨t.f_zo, t.d_zo, P_zo, 1, V8 K t, [], []⟩
abbrev s_zt : Stmt := top 19
abbrev N_zt : List Str := ["sign"]
abbrev P_zt : List Str := ["sign"]
def i_zt : FI := ⟨t.f_zt, t.d_zt, P_zt, 1, Wb K t, [], []⟩
abbrev Io : Stmt := top 17
abbrev Tf : List Str := ["thing"]
abbrev L9 : List Str := ["thing"]
def Zh : FI := ⟨t.f_zaf, t.d_zaf, L9, 2, Lu K t, [], []⟩
abbrev s_ze : Stmt := top 27
abbrev N_ze : List Str := ["things"]
abbrev P_ze : List Str := ["things"]
def i_ze : FI := ⟨t.f_ze, t.d_ze, P_ze, 3, Qj K t, [], []⟩
abbrev s_zn : Stmt := Di (top 26) 12
abbrev N_zn : List Str := ["self", "word", "settings"]
abbrev P_zn : List Str := ["self", "word", "settings"]
def i_zn : FI := ⟨t.f_zn, t.d_zn, P_zn, 4, Zx K t, [], []⟩
abbrev s_zs : Stmt := Di (top 26) 11
abbrev N_zs : List Str := ["self", "terms", "choices", "word"]
abbrev P_zs : List Str := ["self", "terms"]
def i_zs : FI := ⟨t.f_zs, t.d_zs, P_zs, 5, Zy K t, [], []⟩
abbrev s_zx : Stmt := top 13
abbrev N_zx : List Str := ["panel", "text"]
abbrev P_zx : List Str := ["panel", "text"]
def i_zx : FI := ⟨t.f_zx, t.d_zx, P_zx, 6, Qm K t, [], []⟩
abbrev s_zy : Stmt := top 35
abbrev N_zy : List Str := ["_law_script", "_law_k"]
abbrev P_zy : List Str := ["_law_script", "_law_k"]
def i_zy : FI := ⟨t.f_zy, t.d_zy, P_zy, 1, Ct K t, [], []⟩
abbrev s_zr : Stmt := top 36
abbrev N_zr : List Str := ["_law_cell_here", "_law_many", "_law_found", "_law_left", "_law_number", "_law_k"]
abbrev P_zr : List Str := ["_law_cell_here", "_law_many"]
def i_zr : FI := ⟨t.f_zr, t.d_zr, P_zr, 1, Qk K t, [], []⟩
abbrev Ik : Stmt := top 37
abbrev Tc : List Str := ["_law_cell_here", "_law_k", "_law_letters", "_law_tail", "_law_size", "_law_at", "_law_base"]
abbrev Lz : List Str := ["_law_cell_here", "_law_k"]
def Ze : FI := ⟨t.f_zac, t.d_zac, Lz, 1, F7 K t, [], []⟩
abbrev s_zj : Stmt := top 38
abbrev N_zj : List Str := ["_law_script", "_law_cell_here", "_law_most", "_law_shift", "_law_found", "_law_total", "_law_x", "_law_size", "_law_settings"]
abbrev P_zj : List Str := ["_law_script"]
def i_zj : FI := ⟨t.f_zj, t.d_zj, P_zj, 2, V5 K t, [], []⟩
abbrev s_zp : Stmt := top 39
abbrev N_zp : List Str := ["_law_switches_here", "_law_rows", "_law_word_here", "_law_settings", "_law_longer", "_law_row"]
abbrev P_zp : List Str := ["_law_switches_here"]
def i_zp : FI := ⟨t.f_zp, t.d_zp, P_zp, 1, V9 K t, [], []⟩
abbrev s_zk : Stmt := top 33
abbrev N_zk : List Str := ["rule", "copied", "word"]
abbrev P_zk : List Str := ["rule"]
def i_zk : FI := ⟨t.f_zk, t.d_zk, P_zk, 1, V6 K t, [], []⟩
abbrev s_zg : Stmt := Di (top 26) 2
abbrev N_zg : List Str := ["self", "rule"]
abbrev P_zg : List Str := ["self", "rule"]
def i_zg : FI := ⟨t.f_zg, t.d_zg, P_zg, 6, Zv K t, [], []⟩
abbrev s_zd : Stmt := Di (top 26) 1
abbrev N_zd : List Str := ["self", "rules"]
abbrev P_zd : List Str := ["self", "rules"]
def i_zd : FI := ⟨t.f_zd, t.d_zd, P_zd, 7, Zu K t, [], []⟩
abbrev s_zu : Stmt := top 29
abbrev N_zu : List Str := ["switch"]
abbrev P_zu : List Str := ["switch"]
def i_zu : FI := ⟨t.f_zu, t.d_zu, P_zu, 4, Wc K t, [], []⟩
abbrev s_zh : Stmt := top 28
abbrev N_zh : List Str := ["switches", "settings", "many", "switch"]
abbrev P_zh : List Str := ["switches"]
def i_zh : FI := ⟨t.f_zh, t.d_zh, P_zh, 5, V3 K t, [], []⟩
abbrev s_zb : Stmt := top 30
abbrev N_zb : List Str := ["settings", "tuples", "word", "longer", "ahead"]
abbrev P_zb : List Str := ["settings"]
def i_zb : FI := ⟨t.f_zb, t.d_zb, P_zb, 1, V1 K t, [], []⟩
abbrev s_za : Stmt := top 31
abbrev N_za : List Str := ["tuples", "numbers", "number", "told"]
abbrev P_za : List Str := ["tuples"]
def i_za : FI := ⟨t.f_za, t.d_za, P_za, 1, V0 K t, [], []⟩
abbrev Ip : Stmt := top 8
abbrev Tg : List Str := ["numbers", "choices", "number"]
abbrev Ma : List Str := ["numbers"]
def Zi : FI := ⟨t.f_zag, t.d_zag, Ma, 1, Ox K t, [], []⟩
abbrev s_zf : Stmt := top 32
abbrev N_zf : List Str := ["settings", "tuples", "sets", "place", "word", "setting", "having"]
abbrev P_zf : List Str := ["settings", "tuples"]
def i_zf : FI := ⟨t.f_zf, t.d_zf, P_zf, 2, V2 K t, [], []⟩
abbrev s_zl : Stmt := Di (top 26) 0
abbrev N_zl : List Str := ["self", "switches", "rules"]
abbrev P_zl : List Str := ["self", "switches", "rules"]
def i_zl : FI := ⟨t.f_zl, t.d_zl, P_zl, 8, V7 K t, [.non], t.du_zl⟩
abbrev s_zv : Stmt := top 40
abbrev N_zv : List Str := ["_law_script", "_law_switches_here", "_law_rules"]
abbrev P_zv : List Str := ["_law_script", "_law_switches_here"]
def i_zv : FI := ⟨t.f_zv, t.d_zv, P_zv, 10, Wd K t, [], []⟩
abbrev s_zi : Stmt := top 42
abbrev N_zi : List Str := ["_law_switches_here", "_law_rows", "_law_part", "_law_words", "_law_terms", "_law_term_here", "_law_pieces", "_law_at", "_law_some", "_law_j", "_law_found", "_law_number"]
abbrev P_zi : List Str := ["_law_switches_here", "_law_rows", "_law_part"]
def i_zi : FI := ⟨t.f_zi, t.d_zi, P_zi, 1, V4 K t, [], []⟩
abbrev s_zw : Stmt := top 41
abbrev N_zw : List Str := ["_law_switches_here", "_law_rows", "_law_text_here", "_law_found", "_law_part", "_law_box"]
abbrev P_zw : List Str := ["_law_switches_here", "_law_rows", "_law_text_here"]
def i_zw : FI := ⟨t.f_zw, t.d_zw, P_zw, 2, Ql K t, [], []⟩
abbrev s_zz : Stmt := top 43
abbrev N_zz : List Str := ["_law_switches_here", "_law_x", "_law_y", "_law_word_here", "_law_settings", "_law_some"]
abbrev P_zz : List Str := ["_law_switches_here", "_law_x", "_law_y"]
def i_zz : FI := ⟨t.f_zz, t.d_zz, P_zz, 1, Nh K t, [], []⟩
abbrev Ii : Stmt := top 44
abbrev Ta : List Str := ["_law_switches_here", "_law_cell_here", "_law_xs", "_law_boxes", "_law_k", "_law_terms"]
abbrev Lx : List Str := ["_law_switches_here", "_law_cell_here"]
def Zc : FI := ⟨t.f_zaa, t.d_zaa, Lx, 2, Ov K t, [], []⟩
abbrev s_zq : Stmt := top 45
abbrev N_zq : List Str := ["_law_switches_here", "_law_text_here", "_law_cell_here", "_law_other", "_law_way", "_law_at", "_law_some"]
abbrev P_zq : List Str := ["_law_switches_here", "_law_text_here", "_law_cell_here", "_law_other"]
def i_zq : FI := ⟨t.f_zq, t.d_zq, P_zq, 2, Wa K t, [], []⟩
abbrev Ij : Stmt := top 46
abbrev Tb : List Str := ["_law_panel_here", "_law_thing", "_law_found", "_law_told_here", "e"]
abbrev Ly : List Str := ["_law_panel_here", "_law_thing"]
def Zd : FI := ⟨t.f_zab, t.d_zab, Ly, 7, Ls K t, [], []⟩
abbrev C9 : Stmt := top 47
abbrev Th : List Str := ["_law_script", "_law_switches_here", "_law_rows", "_law_panel_here", "_law_text_here", "_law_k", "_law_spoilt_here", "_law_due", "_law_told_here", "_law_found", "_law_thing"]
abbrev Mb : List Str := ["_law_script"]
def Bp : List MI := [⟨t.c_zas, i_zc K t⟩]
def Hs : List MI := [⟨t.c_zas, i_zs K t⟩]
def Lb : List MI := [⟨t.c_zas, i_zm K t⟩]
def Dk : List MI := [⟨t.c_zas, i_zg K t⟩]
def C5 : List MI := [⟨t.c_zas, i_zd K t⟩]
def Lc : List MI := [⟨t.c_zas, i_zn K t⟩]
def gb_0 (K : PySem.W.Frag) (t : Adr) : List (Str × GB) := [("LeafError", .exc t.c_zan none), ("BadPanel", .exc t.c_zao none), ("NoChoice", .exc t.c_zap none), ("BadCond", .exc t.c_zaq none), ("BadEdit", .exc t.c_zar none), ("Panel", .val (.ref t.c_zas) (.ref t.c_zas)), ("ALL", .val (.str "*") t.u_zau), ("NONE", .val (.str "-") t.u_zat), ("MOST_SWITCHES", .val (.int 5) t.u_zak), ("LEAST_SETTINGS", .val (.int 2) t.u_zai), ("MOST_SETTINGS", .val (.int 4) t.u_zaj), ("MOST_CHOICES", .val (.int 256) t.u_zal), ("MOST_RULES", .val (.int 8) t.u_zam)]
def gb_1 : List (Str × GB) := ("", .met "many" (Lb K t)) :: ("union_of", .fn (Zg K t)) :: ("read_box", .fn (Zf K t)) :: ("has_length", .fn (i_zo K t)) :: ("is_letter", .fn (i_zt K t)) :: ("_law_cell", .fn (i_zy K t)) :: ("_law_stream", .fn (i_zr K t)) :: ("_law_word", .fn (Ze K t)) :: ("_law_digits", .fn (i_zp K t)) :: ("copied_rule", .fn (i_zk K t)) :: ("settings_of_choices", .fn (i_zb K t)) :: ("numbers_by_settings", .fn (i_za K t)) :: ("set_of", .fn (Zi K t)) :: ("_law_box_read", .fn (i_zi K t)) :: ("_law_term", .fn (i_zz K t)) :: gb_0 K t
def gb_2 : List (Str × GB) := ("", .met "all_choices" (Bp K t)) :: ("is_word", .fn (Zh K t)) :: ("_law_switches", .fn (i_zj K t)) :: ("sets_of_settings", .fn (i_zf K t)) :: ("_law_reads", .fn (i_zw K t)) :: ("_law_text", .fn (Zc K t)) :: ("_law_spoilt", .fn (i_zq K t)) :: gb_1 K t
def gb_3 : List (Str × GB) := ("are_unlike_words", .fn (i_ze K t)) :: gb_2 K t
def gb_4 : List (Str × GB) := ("", .met "term" (Lc K t)) :: ("is_switch", .fn (i_zu K t)) :: gb_3 K t
def gb_5 : List (Str × GB) := ("", .met "box" (Hs K t)) :: ("read_switches", .fn (i_zh K t)) :: gb_4 K t
def gb_6 : List (Str × GB) := ("", .met "read_rule" (Dk K t)) :: ("read_cond", .fn (i_zx K t)) :: gb_5 K t
def gb_7 : List (Str × GB) := ("", .met "read_rules" (C5 K t)) :: ("_law_told", .fn (Zd K t)) :: gb_6 K t
def gb_8 : List (Str × GB) := gb_7 K t
def gb_9 : List (Str × GB) := ("Panel", .cls t.c_zas (some (i_zl K t))) :: gb_8 K t
def Ua : List (Str × GB) := ("_law_panel", .fn (i_zv K t)) :: gb_9 K t
end
def ax2 (K : PySem.W.Frag) (t : Adr) : DS :=
 (dSeq (dSet 1 (dC (.int 0)))
 (dSeq (dFor (iVal K (dVar 0)) (gdN 2) (dSeq (dSet 1 (dBin rOrD (dVar 1) (dVar 2)))
  Ad))
 (dSeq (dRet (dVar 1))
 Ad)))
theorem ah7 (K : PySem.W.Frag) (t : Adr) : wSs 40 (defG K Te (Ab Im) (gb_0 K t) bl) (Ag Im) = ax2 K t := by kernel_rfl
theorem ai7 : Ai Te L8 (Ab Im) := ⟨rfl, rfl, rfl, by decide +kernel, rfl, by decide +kernel, by decide +kernel⟩
theorem ak1 : As Te (Ab Im) = true := by decide +kernel
def ax1 (K : PySem.W.Frag) (t : Adr) : DS :=
 (dSeq (dSet 1 Ep)
 (dSeq (dFor (iVal K (dMt (rMt K [⟨"str", "str.split", Cs⟩]) (dVar 0) (Aa (dC (.str "&")) dNil))) (gdN 2) (dSeq (dSet 3 (dMt (rMt K [⟨"str", "str.split", Cs⟩]) (dVar 2) (Aa (dC (.str "=")) dNil)))
  (dSeq (dIf (dOr (dTst (dBin (rEqD K true) (dFn (fun vs H Q _ => (rLen K) vs H Q) (Aa (dVar 3) dNil)) (dC (.int 2)))) (dTst (dBin (rInD K false) (dBin (rIxD K) (dVar 3) (dC (.int 0))) (dVar 1)))) (dSeq (Br K (dFn (fun vs H Q E => vs.length <= 1000 /\ mkX t.c_zaq none 0 vs H Q E) (Aa (dC (.str "this is no term, or its switch stands twice in the box")) dNil)))
   Ad) Ad)
  (dSeq (dAsg (dMt (rMt K [⟨"str", "str.split", Cs⟩]) (dBin (rIxD K) (dVar 3) (dC (.int 1))) (Aa (dC (.str ",")) dNil)) (Cq K (dVar 1) (dBin (rIxD K) (dVar 3) (dC (.int 0)))))
  Ad))))
 (dSeq (dRet (dVar 1))
 Ad)))
theorem ah6 (K : PySem.W.Frag) (t : Adr) : wSs 40 (defG K Td (Ab Il) (gb_0 K t) bl) (Ag Il) = ax1 K t := by kernel_rfl
theorem ai6 : Ai Td L6 (Ab Il) := ⟨rfl, rfl, rfl, by decide +kernel, rfl, by decide +kernel, by decide +kernel⟩
theorem ak0 : As Td (Ab Il) = true := by decide +kernel
def t_zm (K : PySem.W.Frag) (t : Adr) : DS :=
 (dSeq (dRet (dFn (fun vs H Q _ => (rLen K) vs H Q) (Aa (dUn (C2 K "tuples") (dVar 0)) dNil)))
 Ad)
theorem ar9 (K : PySem.W.Frag) (t : Adr) : wSs 40 (defG K N_zm (Ab s_zm) (gb_0 K t) bl) (Ag s_zm) = t_zm K t := by kernel_rfl
theorem au7 : Ai N_zm P_zm (Ab s_zm) := ⟨rfl, rfl, rfl, by decide +kernel, rfl, by decide +kernel, by decide +kernel⟩
theorem ay8 : As N_zm (Ab s_zm) = true := by decide +kernel
def t_zc (K : PySem.W.Frag) (t : Adr) : DS :=
 (dSeq (dRet (dBin Qf (dBin M6 (dC (.int 1)) (dOwn "many" 0 (Lb K t) (dVar 0) dNil)) (dC (.int 1))))
 Ad)
theorem aq9 (K : PySem.W.Frag) (t : Adr) : wSs 40 (defG K N_zc (Ab s_zc) (gb_1 K t) bl) (Ag s_zc) = t_zc K t := by kernel_rfl
theorem at7 : Ai N_zc P_zc (Ab s_zc) := ⟨rfl, rfl, rfl, by decide +kernel, rfl, by decide +kernel, by decide +kernel⟩
theorem ax8 : As N_zc (Ab s_zc) = true := by decide +kernel
def t_zo (K : PySem.W.Frag) (t : Adr) : DS :=
 (dSeq (dRet (Mh K (dFn (fun vs H Q _ => (rIsi K) vs H Q) (Aa (dVar 0) (Aa (dC (.ty "str")) dNil))) (Df rLeD rLeD (dVar 1) (dFn (fun vs H Q _ => (rLen K) vs H Q) (Aa (dVar 0) dNil)) (dVar 2))))
 Ad)
theorem as1 (K : PySem.W.Frag) (t : Adr) : wSs 40 (defG K N_zo (Ab s_zo) (gb_0 K t) bl) (Ag s_zo) = t_zo K t := by kernel_rfl
theorem au9 : Ai N_zo P_zo (Ab s_zo) := ⟨rfl, rfl, rfl, by decide +kernel, rfl, by decide +kernel, by decide +kernel⟩
theorem az0 : As N_zo (Ab s_zo) = true := by decide +kernel
def t_zt (K : PySem.W.Frag) (t : Adr) : DS :=
 (dSeq (dRet (Df rLeD rLeD (dC (.str "a")) (dVar 0) (dC (.str "z"))))
 Ad)
theorem as6 (K : PySem.W.Frag) (t : Adr) : wSs 40 (defG K N_zt (Ab s_zt) (gb_0 K t) bl) (Ag s_zt) = t_zt K t := by kernel_rfl
theorem av4 : Ai N_zt P_zt (Ab s_zt) := ⟨rfl, rfl, rfl, by decide +kernel, rfl, by decide +kernel, by decide +kernel⟩
theorem az5 : As N_zt (Ab s_zt) = true := by decide +kernel
def ax3 (K : PySem.W.Frag) (t : Adr) : DS :=
 (dSeq (dRet (Mh K (dFn (spE (V8 K t) []) (Aa (dVar 0) (Aa (dC (.int 1)) (Aa (dC (.int 8)) dNil)))) (dFn (fun vs H Q _ => (rAll K) vs H Q) (Aa (Bm [none] (iVal K (dVar 0)) (gdN 0) dYes (dFn (spE (Wb K t) []) (Aa (dVar 0) dNil))) dNil))))
 Ad)
theorem ah8 (K : PySem.W.Frag) (t : Adr) : wSs 40 (defG K Tf (Ab Io) (gb_1 K t) bl) (Ag Io) = ax3 K t := by kernel_rfl
theorem ai8 : Ai Tf L9 (Ab Io) := ⟨rfl, rfl, rfl, by decide +kernel, rfl, by decide +kernel, by decide +kernel⟩
theorem ak2 : As Tf (Ab Io) = true := by decide +kernel
def t_ze (K : PySem.W.Frag) (t : Adr) : DS :=
 (dSeq (dIf (dOr (dNot (dTru K (dFn (fun vs H Q _ => (rIsi K) vs H Q) (Aa (dVar 0) (Aa (dC (.ty "list")) dNil))))) (dNot (dTru K (dFn (fun vs H Q _ => (rAll K) vs H Q) (Aa (Bm [none] (iVal K (dVar 0)) (gdN 0) dYes (dFn (spE (Lu K t) []) (Aa (dVar 0) dNil))) dNil))))) (dSeq (dRet (dC (.bl false)))
  Ad) Ad)
 (dSeq (dRet (dBin (rEqD K false) (dUn (G0 K) (dVar 0)) (dFn (fun vs H Q _ => (rLen K) vs H Q) (Aa (dVar 0) dNil))))
 Ad))
theorem ar1 (K : PySem.W.Frag) (t : Adr) : wSs 40 (defG K N_ze (Ab s_ze) (gb_2 K t) bl) (Ag s_ze) = t_ze K t := by kernel_rfl
theorem at9 : Ai N_ze P_ze (Ab s_ze) := ⟨rfl, rfl, rfl, by decide +kernel, rfl, by decide +kernel, by decide +kernel⟩
theorem ay0 : As N_ze (Ab s_ze) = true := by decide +kernel
def t_zn (K : PySem.W.Frag) (t : Adr) : DS :=
 (dSeq (dIf (dOr (dNot (dTru K (dFn (fun vs H Q _ => (rIsi K) vs H Q) (Aa (dVar 1) (Aa (dC (.ty "str")) dNil))))) (dTst (dBin (rInD K true) (dVar 1) (dUn (C2 K "sets") (dVar 0))))) (dSeq (Br K (dFn (fun vs H Q E => vs.length <= 1000 /\ mkX t.c_zaq none 0 vs H Q E) (Aa (dC (.str "there is no such switch")) dNil)))
  Ad) Ad)
 (dSeq (dIf (dOr (dNot (dTru K (dFn (spE (Qj K t) []) (Aa (dVar 2) dNil)))) (dTst (dBin (rEqD K false) (dVar 2) (dLst dNil)))) (dSeq (Br K (dFn (fun vs H Q E => vs.length <= 1000 /\ mkX t.c_zaq none 0 vs H Q E) (Aa (dC (.str "this is no list of settings")) dNil)))
  Ad) Ad)
 (dSeq (dIf (dNot (dTru K (dFn (fun vs H Q _ => (rAll K) vs H Q) (Aa (Bm [none, some 0, some 1] (iVal K (dVar 2)) (gdN 0) dYes (dBin (rInD K false) (dVar 0) (dBin (rIxD K) (dUn (C2 K "sets") (dVar 1)) (dVar 2)))) dNil)))) (dSeq (Br K (dFn (fun vs H Q E => vs.length <= 1000 /\ mkX t.c_zaq none 0 vs H Q E) (Aa (dC (.str "the switch has no such setting")) dNil)))
  Ad) Ad)
 (dSeq (dRet (dFn (spE (Ir K t) []) (Aa (Bm [none, some 0, some 1] (iVal K (dVar 2)) (gdN 0) dYes (dBin (rIxD K) (dBin (rIxD K) (dUn (C2 K "sets") (dVar 1)) (dVar 2)) (dVar 0))) dNil)))
 Ad))))
theorem as0 (K : PySem.W.Frag) (t : Adr) : wSs 40 (defG K N_zn (Ab s_zn) (gb_3 K t) bl) (Ag s_zn) = t_zn K t := by kernel_rfl
theorem au8 : Ai N_zn P_zn (Ab s_zn) := ⟨rfl, rfl, rfl, by decide +kernel, rfl, by decide +kernel, by decide +kernel⟩
theorem ay9 : As N_zn (Ab s_zn) = true := by decide +kernel
def t_zs (K : PySem.W.Frag) (t : Adr) : DS :=
 (dSeq (dIf (dNot (dTru K (dFn (fun vs H Q _ => (rIsi K) vs H Q) (Aa (dVar 1) (Aa (dC (.ty "dict")) dNil))))) (dSeq (Br K (dFn (fun vs H Q E => vs.length <= 1000 /\ mkX t.c_zaq none 0 vs H Q E) (Aa (dC (.str "this is no box")) dNil)))
  Ad) Ad)
 (dSeq (dSet 2 (dOwn "all_choices" 0 (Bp K t) (dVar 0) dNil))
 (dSeq (dFor (iVal K (dVar 1)) (gdN 3) (dSeq (dSet 2 (dBin M5 (dVar 2) (dOwn "term" 2 (Lc K t) (dVar 0) (Aa (dVar 3) (Aa (dBin (rIxD K) (dVar 1) (dVar 3)) dNil)))))
  Ad))
 (dSeq (dRet (dVar 2))
 Ad))))
theorem as5 (K : PySem.W.Frag) (t : Adr) : wSs 40 (defG K N_zs (Ab s_zs) (gb_4 K t) bl) (Ag s_zs) = t_zs K t := by kernel_rfl
theorem av3 : Ai N_zs P_zs (Ab s_zs) := ⟨rfl, rfl, rfl, by decide +kernel, rfl, by decide +kernel, by decide +kernel⟩
theorem az4 : As N_zs (Ab s_zs) = true := by decide +kernel
def t_zx (K : PySem.W.Frag) (t : Adr) : DS :=
 (dSeq (dIf (dNot (dTru K (dFn (fun vs H Q _ => (rIsi K) vs H Q) (Aa (dVar 1) (Aa (dC (.ty "str")) dNil))))) (dSeq (Br K (dFn (fun vs H Q E => vs.length <= 1000 /\ mkX t.c_zaq none 0 vs H Q E) (Aa (dC (.str "a condition is a text")) dNil)))
  Ad) Ad)
 (dSeq (dIf (dTst (dBin (rEqD K false) (dVar 1) (dC (.str "*")))) (dSeq (dRet (dOwn "all_choices" 0 (Bp K t) (dVar 0) dNil))
  Ad) Ad)
 (dSeq (dIf (dTst (dBin (rEqD K false) (dVar 1) (dC (.str "-")))) (dSeq (dRet (dC (.int 0)))
  Ad) Ad)
 (dSeq (dRet (dFn (spE (Ir K t) []) (Aa (Bm [none, some 0] (iVal K (dMt (rMt K [⟨"str", "str.split", Cs⟩]) (dVar 1) (Aa (dC (.str "|")) dNil))) (gdN 0) dYes (dOwn "box" 1 (Hs K t) (dVar 1) (Aa (dFn (spE (Ow K t) []) (Aa (dVar 0) dNil)) dNil))) dNil)))
 Ad))))
theorem at0 (K : PySem.W.Frag) (t : Adr) : wSs 40 (defG K N_zx (Ab s_zx) (gb_5 K t) bl) (Ag s_zx) = t_zx K t := by kernel_rfl
theorem av8 : Ai N_zx P_zx (Ab s_zx) := ⟨rfl, rfl, rfl, by decide +kernel, rfl, by decide +kernel, by decide +kernel⟩
theorem az9 : As N_zx (Ab s_zx) = true := by decide +kernel
def t_zy (K : PySem.W.Frag) (t : Adr) : DS :=
 (dSeq (dIf (dTst (dBin rLtD (dVar 1) (dFn (fun vs H Q _ => (rLen K) vs H Q) (Aa (dVar 0) dNil)))) (dSeq (dRet (dBin (rIxD K) (dVar 0) (dVar 1)))
  Ad) Ad)
 (dSeq (dRet (dBin Bw (dBin (Aj K) (dVar 1) (dC (.int 3))) (dC (.int 7919))))
 Ad))
theorem at3 (K : PySem.W.Frag) (t : Adr) : wSs 40 (defG K N_zy (Ab s_zy) (gb_0 K t) bl) (Ag s_zy) = t_zy K t := by kernel_rfl
theorem av9 : Ai N_zy P_zy (Ab s_zy) := ⟨rfl, rfl, rfl, by decide +kernel, rfl, by decide +kernel, by decide +kernel⟩
theorem a00 : As N_zy (Ab s_zy) = true := by decide +kernel
def t_zr (K : PySem.W.Frag) (t : Adr) : DS :=
 (dSeq (dSet 2 (dLst dNil))
 (dSeq (dSet 3 (dBin Bl (dVar 0) (dC (.int 2))))
 (dSeq (dSet 4 (dBin (Aj K) (dBin Au (dVar 0) (dC (.int 2147483629))) (dC (.int 17))))
 (dSeq (dFor (iRng (Aa (dVar 1) dNil)) (gdN 5) (dSeq (dSet 4 (dBin Au (dBin (Aj K) (dBin (Aj K) (dBin Bw (dVar 4) (dC (.int 48271))) (dBin Bw (dC (.int 7919)) (dVar 5))) (dC (.int 1))) (dC (.int 2147483647))))
  (dSeq (dIf (dAnd (dTst (dBin (rEqD K false) (dBin Au (dVar 0) (dC (.int 2))) (dC (.int 1)))) (dAnd (dTst (dBin (rEqD K true) (dVar 3) (dC (.int 0)))) (dTst (dBin (rEqD K true) (dVar 3) (dUn Ia (dC (.int 1))))))) (dSeq (Dq (dMt (rMt K [⟨"list", "list.append", Cb⟩]) (dVar 2) (Aa (dBin Au (dVar 3) (dC (.int 268435456))) dNil)))
   (dSeq (dSet 3 (dBin Bl (dVar 3) (dC (.int 268435456))))
   Ad)) (dSeq (Dq (dMt (rMt K [⟨"list", "list.append", Cb⟩]) (dVar 2) (Aa (dBin Bl (dBin Au (dBin (Aj K) (dBin Bw (dBin Au (dBin Bw (dVar 4) (dVar 4)) (dC (.int 2147483629))) (dC (.int 16807))) (dVar 5)) (dC (.int 2147483587))) (dC (.int 8))) dNil)))
   Ad))
  Ad)))
 (dSeq (dRet (dVar 2))
 Ad)))))
theorem as4 (K : PySem.W.Frag) (t : Adr) : wSs 40 (defG K N_zr (Ab s_zr) (gb_0 K t) bl) (Ag s_zr) = t_zr K t := by kernel_rfl
theorem av2 : Ai N_zr P_zr (Ab s_zr) := ⟨rfl, rfl, rfl, by decide +kernel, rfl, by decide +kernel, by decide +kernel⟩
theorem az3 : As N_zr (Ab s_zr) = true := by decide +kernel
def ax0 (K : PySem.W.Frag) (t : Adr) : DS :=
 (dSeq (dSet 2 (dC (.str "abcdefghijklmnopqrstuvwxyz")))
 (dSeq (dSet 3 (dMt (rMt K [⟨"str", "str.join", Gk K⟩]) (dC (.str "")) (Aa (Bm [none, some 0, some 2] (iRng (Aa (dC (.int 1)) (Aa (dC (.int 8)) dNil))) (gdN 0) dYes (dBin (rIxD K) (dVar 2) (dBin Au (dBin (Aj K) (dBin Bl (dVar 1) (dC (.int 26))) (dBin Bw (dBin Bw (dC (.int 7)) (dVar 0)) (dVar 0))) (dC (.int 26))))) dNil)))
 (dSeq (dIf (dTst (dBin (rEqD K false) (dBin Au (dVar 0) (dC (.int 4))) (dC (.int 3)))) (dSeq (dRet (dBin (Aj K) (dBin (rIxD K) (dVar 2) (dBin Au (dBin (Aj K) (dBin Bl (dVar 0) (dC (.int 4))) (dBin Bl (dVar 1) (dC (.int 8)))) (dC (.int 26)))) (dSl K (dVar 3) Ci (Dr (dBin Au (dVar 1) (dC (.int 8)))))))
  Ad) Ad)
 (dSeq (dSet 4 (dBin (Aj K) (dC (.int 1)) (dBin Au (dBin Bl (dVar 0) (dC (.int 4))) (dC (.int 8)))))
 (dSeq (dSet 5 (dBin Au (dBin Bl (dVar 0) (dC (.int 32))) (dVar 4)))
 (dSeq (dSet 6 (dSl K (dBin (Aj K) (dBin (rIxD K) (dVar 2) (dBin Au (dBin Bl (dVar 0) (dC (.int 256))) (dC (.int 26)))) (dVar 3)) Ci (Dr (dVar 4))))
 (dSeq (dRet (dBin (Aj K) (dBin (Aj K) (dSl K (dVar 6) Ci (Dr (dVar 5))) (dBin (rIxD K) (dVar 2) (dBin Au (dBin (Aj K) (dBin Bl (dVar 0) (dC (.int 6656))) (dVar 1)) (dC (.int 26))))) (dSl K (dVar 6) (Dr (dBin (Aj K) (dVar 5) (dC (.int 1)))) Ci)))
 Ad)))))))
theorem ah5 (K : PySem.W.Frag) (t : Adr) : wSs 40 (defG K Tc (Ab Ik) (gb_0 K t) bl) (Ag Ik) = ax0 K t := by kernel_rfl
theorem ai5 : Ai Tc Lz (Ab Ik) := ⟨rfl, rfl, rfl, by decide +kernel, rfl, by decide +kernel, by decide +kernel⟩
theorem aj9 : As Tc (Ab Ik) = true := by decide +kernel
def t_zj (K : PySem.W.Frag) (t : Adr) : DS :=
 (dSeq (dSet 1 (dFn (spE (Ct K t) []) (Aa (dVar 0) (Aa (dC (.int 0)) dNil))))
 (dSeq (dSet 2 (dBin (rIxD K) (dLst (Aa (dC (.int 24)) (Aa (dC (.int 256)) dNil))) (dFn (fun vs H Q _ => rInt vs H Q) (Aa (dBin (rEqD K false) (dBin Au (dBin Bl (dVar 1) (dC (.int 5))) (dC (.int 8))) (dC (.int 3))) dNil))))
 (dSeq (dSet 3 (dBin Bw (dBin Au (dBin Bl (dFn (spE (Ct K t) []) (Aa (dVar 0) (Aa (dC (.int 1)) dNil))) (dC (.int 3))) (dC (.int 2))) (dC (.int 5))))
 (dSeq (dSet 4 (dLst dNil))
 (dSeq (dSet 5 (dC (.int 1)))
 (dSeq (dFor (iVal K (dFn (spE (Qk K t) []) (Aa (dVar 1) (Aa (dBin (Aj K) (dC (.int 1)) (dBin Au (dVar 1) (dC (.int 5)))) dNil)))) (gdN 6) (dSeq (dSet 7 (dBin (Aj K) (dC (.int 2)) (dBin Au (dVar 6) (dC (.int 3)))))
  (dSeq (dIf (dTst (dBin rGtD (dBin Bw (dVar 5) (dVar 7)) (dVar 2))) (dSeq (dSet 7 (dC (.int 2)))
   Ad) Ad)
  (dSeq (dIf (dTst (dBin rLeD (dBin Bw (dVar 5) (dVar 7)) (dVar 2))) (dSeq (dSet 5 (dBin Bw (dVar 5) (dVar 7)))
   (dSeq (dSet 8 (Bm [none, some 0, some 3] (iRng (Aa (dVar 7) dNil)) (gdN 0) dYes (dFn (spE (F7 K t) []) (Aa (dFn (spE (Ct K t) []) (Aa (dVar 1) (Aa (dC (.int 1)) dNil))) (Aa (dBin (Aj K) (dVar 2) (dVar 0)) dNil)))))
   (dSeq (Dq (dMt (rMt K [⟨"list", "list.append", Cb⟩]) (dVar 4) (Aa (dTup (Aa (dFn (spE (F7 K t) []) (Aa (dFn (spE (Ct K t) []) (Aa (dVar 0) (Aa (dC (.int 1)) dNil))) (Aa (dFn (fun vs H Q _ => (rLen K) vs H Q) (Aa (dVar 4) dNil)) dNil))) (Aa (dVar 8) dNil))) dNil)))
   Ad))) Ad)
  Ad))))
 (dSeq (dRet (dVar 4))
 Ad)))))))
theorem ar6 (K : PySem.W.Frag) (t : Adr) : wSs 40 (defG K N_zj (Ab s_zj) (gb_1 K t) bl) (Ag s_zj) = t_zj K t := by kernel_rfl
theorem au4 : Ai N_zj P_zj (Ab s_zj) := ⟨rfl, rfl, rfl, by decide +kernel, rfl, by decide +kernel, by decide +kernel⟩
theorem ay5 : As N_zj (Ab s_zj) = true := by decide +kernel
def t_zp (K : PySem.W.Frag) (t : Adr) : DS :=
 (dSeq (dSet 1 (dLst (Aa (dLst dNil) dNil)))
 (dSeq (dFor (iVal K (dVar 0)) (gdT K 2 [(gdN 2), (gdN 3)]) (dSeq (dSet 4 (dLst dNil))
  (dSeq (dFor (iVal K (dVar 1)) (gdN 5) (dSeq (Dq (dMt (rMt K [⟨"list", "list.extend", Fh⟩]) (dVar 4) (Aa (Bm [none, some 5] (iRng (Aa (dFn (fun vs H Q _ => (rLen K) vs H Q) (Aa (dVar 3) dNil)) dNil)) (gdN 0) dYes (dBin (Aj K) (dVar 1) (dLst (Aa (dVar 0) dNil)))) dNil)))
   Ad))
  (dSeq (dSet 1 (dVar 4))
  Ad))))
 (dSeq (dRet (dVar 1))
 Ad)))
theorem as2 (K : PySem.W.Frag) (t : Adr) : wSs 40 (defG K N_zp (Ab s_zp) (gb_0 K t) bl) (Ag s_zp) = t_zp K t := by kernel_rfl
theorem av0 : Ai N_zp P_zp (Ab s_zp) := ⟨rfl, rfl, rfl, by decide +kernel, rfl, by decide +kernel, by decide +kernel⟩
theorem az1 : As N_zp (Ab s_zp) = true := by decide +kernel
def t_zk (K : PySem.W.Frag) (t : Adr) : DS :=
 (dSeq (dSet 1 Ep)
 (dSeq (dFor (iVal K (dVar 0)) (gdN 2) (dSeq (dAsg (dFn (fun vs H Q _ => (Dn K) vs H Q) (Aa (dBin (rIxD K) (dVar 0) (dVar 2)) dNil)) (Cq K (dVar 1) (dVar 2)))
  Ad))
 (dSeq (dRet (dVar 1))
 Ad)))
theorem ar7 (K : PySem.W.Frag) (t : Adr) : wSs 40 (defG K N_zk (Ab s_zk) (gb_0 K t) bl) (Ag s_zk) = t_zk K t := by kernel_rfl
theorem au5 : Ai N_zk P_zk (Ab s_zk) := ⟨rfl, rfl, rfl, by decide +kernel, rfl, by decide +kernel, by decide +kernel⟩
theorem ay6 : As N_zk (Ab s_zk) = true := by decide +kernel
def t_zg (K : PySem.W.Frag) (t : Adr) : DS :=
 (dSeq (dIf (dOr (dNot (dTru K (dFn (fun vs H Q _ => (rIsi K) vs H Q) (Aa (dVar 1) (Aa (dC (.ty "dict")) dNil))))) (dTst (dBin (rEqD K false) (dFn (fun vs H Q _ => (rLen K) vs H Q) (Aa (dVar 1) dNil)) (dC (.int 0))))) (dSeq (Br K (dFn (fun vs H Q E => vs.length <= 1000 /\ mkX t.c_zao none 0 vs H Q E) (Aa (dC (.str "a rule is no dict, or has no entry")) dNil)))
  Ad) Ad)
 (dSeq (dTry K (dSeq (Dq (dOwn "box" 1 (Hs K t) (dVar 0) (Aa (dVar 1) dNil)))
  Ad) [(t.c_zaq, none, (dSeq By
  Ad))])
 (dSeq (dRet (dFn (spE (V6 K t) []) (Aa (dVar 1) dNil)))
 Ad)))
theorem ar3 (K : PySem.W.Frag) (t : Adr) : wSs 40 (defG K N_zg (Ab s_zg) (gb_5 K t) bl) (Ag s_zg) = t_zg K t := by kernel_rfl
theorem au1 : Ai N_zg P_zg (Ab s_zg) := ⟨rfl, rfl, rfl, by decide +kernel, rfl, by decide +kernel, by decide +kernel⟩
theorem ay2 : As N_zg (Ab s_zg) = true := by decide +kernel
def t_zd (K : PySem.W.Frag) (t : Adr) : DS :=
 (dSeq (dIf (dTst (dBin (rIsD false) (dVar 1) (dC .non))) (dSeq (dRet (dLst dNil))
  Ad) Ad)
 (dSeq (dIf (dOr (dNot (dTru K (dFn (fun vs H Q _ => (rIsi K) vs H Q) (Aa (dVar 1) (Aa (dC (.ty "list")) dNil))))) (dTst (dBin rGtD (dFn (fun vs H Q _ => (rLen K) vs H Q) (Aa (dVar 1) dNil)) (dC (.int 8))))) (dSeq (Br K (dFn (fun vs H Q E => vs.length <= 1000 /\ mkX t.c_zao none 0 vs H Q E) (Aa (dC (.str "the rules are no list of at most eight")) dNil)))
  Ad) Ad)
 (dSeq (dRet (Bm [none, some 0] (iVal K (dVar 1)) (gdN 0) dYes (dOwn "read_rule" 1 (Dk K t) (dVar 1) (Aa (dVar 0) dNil))))
 Ad)))
theorem ar0 (K : PySem.W.Frag) (t : Adr) : wSs 40 (defG K N_zd (Ab s_zd) (gb_6 K t) bl) (Ag s_zd) = t_zd K t := by kernel_rfl
theorem at8 : Ai N_zd P_zd (Ab s_zd) := ⟨rfl, rfl, rfl, by decide +kernel, rfl, by decide +kernel, by decide +kernel⟩
theorem ax9 : As N_zd (Ab s_zd) = true := by decide +kernel
def t_zu (K : PySem.W.Frag) (t : Adr) : DS :=
 (dSeq (dIf (dOr (dNot (dTru K (dFn (fun vs H Q _ => (rIsi K) vs H Q) (Aa (dVar 0) (Aa (dC (.ty "tuple")) dNil))))) (dOr (dTst (dBin (rEqD K true) (dFn (fun vs H Q _ => (rLen K) vs H Q) (Aa (dVar 0) dNil)) (dC (.int 2)))) (dNot (dTru K (dFn (spE (Lu K t) []) (Aa (dBin (rIxD K) (dVar 0) (dC (.int 0))) dNil)))))) (dSeq (dRet (dC (.bl false)))
  Ad) Ad)
 (dSeq (dRet (Mh K (dFn (spE (Qj K t) []) (Aa (dBin (rIxD K) (dVar 0) (dC (.int 1))) dNil)) (Df rLeD rLeD (dC (.int 2)) (dFn (fun vs H Q _ => (rLen K) vs H Q) (Aa (dBin (rIxD K) (dVar 0) (dC (.int 1))) dNil)) (dC (.int 4)))))
 Ad))
theorem as7 (K : PySem.W.Frag) (t : Adr) : wSs 40 (defG K N_zu (Ab s_zu) (gb_3 K t) bl) (Ag s_zu) = t_zu K t := by kernel_rfl
theorem av5 : Ai N_zu P_zu (Ab s_zu) := ⟨rfl, rfl, rfl, by decide +kernel, rfl, by decide +kernel, by decide +kernel⟩
theorem az6 : As N_zu (Ab s_zu) = true := by decide +kernel
def t_zh (K : PySem.W.Frag) (t : Adr) : DS :=
 (dSeq (dIf (dOr (dNot (dTru K (dFn (fun vs H Q _ => (rIsi K) vs H Q) (Aa (dVar 0) (Aa (dC (.ty "list")) dNil))))) (dNot (dTst (Df rLeD rLeD (dC (.int 1)) (dFn (fun vs H Q _ => (rLen K) vs H Q) (Aa (dVar 0) dNil)) (dC (.int 5)))))) (dSeq (Br K (dFn (fun vs H Q E => vs.length <= 1000 /\ mkX t.c_zao none 0 vs H Q E) (Aa (dC (.str "the switches are no list of one to five")) dNil)))
  Ad) Ad)
 (dSeq (dSet 1 Ep)
 (dSeq (dSet 2 (dC (.int 1)))
 (dSeq (dFor (iVal K (dVar 0)) (gdN 3) (dSeq (dIf (dOr (dNot (dTru K (dFn (spE (Wc K t) []) (Aa (dVar 3) dNil)))) (dTst (dBin (rInD K false) (dBin (rIxD K) (dVar 3) (dC (.int 0))) (dVar 1)))) (dSeq (Br K (dFn (fun vs H Q E => vs.length <= 1000 /\ mkX t.c_zao none 0 vs H Q E) (Aa (dC (.str "this is no switch, or it stands there twice")) dNil)))
   Ad) Ad)
  (dSeq (dAsg (dFn (fun vs H Q _ => (Lp K) vs H Q) (Aa (dBin (rIxD K) (dVar 3) (dC (.int 1))) dNil)) (Cq K (dVar 1) (dBin (rIxD K) (dVar 3) (dC (.int 0)))))
  (dSeq (dSet 2 (dBin Bw (dVar 2) (dFn (fun vs H Q _ => (rLen K) vs H Q) (Aa (dBin (rIxD K) (dVar 3) (dC (.int 1))) dNil))))
  Ad))))
 (dSeq (dIf (dTst (dBin rGtD (dVar 2) (dC (.int 256)))) (dSeq (Br K (dFn (fun vs H Q E => vs.length <= 1000 /\ mkX t.c_zao none 0 vs H Q E) (Aa (dC (.str "there are too many choices")) dNil)))
  Ad) Ad)
 (dSeq (dRet (dVar 1))
 Ad))))))
theorem ar4 (K : PySem.W.Frag) (t : Adr) : wSs 40 (defG K N_zh (Ab s_zh) (gb_4 K t) bl) (Ag s_zh) = t_zh K t := by kernel_rfl
theorem au2 : Ai N_zh P_zh (Ab s_zh) := ⟨rfl, rfl, rfl, by decide +kernel, rfl, by decide +kernel, by decide +kernel⟩
theorem ay3 : As N_zh (Ab s_zh) = true := by decide +kernel
def t_zb (K : PySem.W.Frag) (t : Adr) : DS :=
 (dSeq (dSet 1 (dLst (Aa (dTup dNil) dNil)))
 (dSeq (dFor (iVal K (dVar 0)) (gdN 2) (dSeq (dSet 3 (dLst dNil))
  (dSeq (dFor (iVal K (dVar 1)) (gdN 4) (dSeq (Dq (dMt (rMt K [⟨"list", "list.extend", Fh⟩]) (dVar 3) (Aa (Bm [none, some 4] (iVal K (dBin (rIxD K) (dVar 0) (dVar 2))) (gdN 0) dYes (dBin (Aj K) (dVar 1) (dTup (Aa (dVar 0) dNil)))) dNil)))
   Ad))
  (dSeq (dSet 1 (dVar 3))
  Ad))))
 (dSeq (dRet (dVar 1))
 Ad)))
theorem aq8 (K : PySem.W.Frag) (t : Adr) : wSs 40 (defG K N_zb (Ab s_zb) (gb_0 K t) bl) (Ag s_zb) = t_zb K t := by kernel_rfl
theorem at6 : Ai N_zb P_zb (Ab s_zb) := ⟨rfl, rfl, rfl, by decide +kernel, rfl, by decide +kernel, by decide +kernel⟩
theorem ax7 : As N_zb (Ab s_zb) = true := by decide +kernel
def t_za (K : PySem.W.Frag) (t : Adr) : DS :=
 (dSeq (dSet 1 Ep)
 (dSeq (dFor (iEn K (Aa (dVar 0) dNil)) (gdT K 2 [(gdN 2), (gdN 3)]) (dSeq (dAsg (dVar 2) (Cq K (dVar 1) (dVar 3)))
  Ad))
 (dSeq (dRet (dVar 1))
 Ad)))
theorem aq7 (K : PySem.W.Frag) (t : Adr) : wSs 40 (defG K N_za (Ab s_za) (gb_0 K t) bl) (Ag s_za) = t_za K t := by kernel_rfl
theorem at5 : Ai N_za P_za (Ab s_za) := ⟨rfl, rfl, rfl, by decide +kernel, rfl, by decide +kernel, by decide +kernel⟩
theorem ax6 : As N_za (Ab s_za) = true := by decide +kernel
def ax4 (K : PySem.W.Frag) (t : Adr) : DS :=
 (dSeq (dSet 1 (dC (.int 0)))
 (dSeq (dFor (iVal K (dVar 0)) (gdN 2) (dSeq (dSet 1 (dBin rOrD (dVar 1) (dBin M6 (dC (.int 1)) (dVar 2))))
  Ad))
 (dSeq (dRet (dVar 1))
 Ad)))
theorem ah9 (K : PySem.W.Frag) (t : Adr) : wSs 40 (defG K Tg (Ab Ip) (gb_0 K t) bl) (Ag Ip) = ax4 K t := by kernel_rfl
theorem ai9 : Ai Tg Ma (Ab Ip) := ⟨rfl, rfl, rfl, by decide +kernel, rfl, by decide +kernel, by decide +kernel⟩
theorem ak3 : As Tg (Ab Ip) = true := by decide +kernel
def t_zf (K : PySem.W.Frag) (t : Adr) : DS :=
 (dSeq (dSet 2 Ep)
 (dSeq (dFor (iEn K (Aa (dVar 0) dNil)) (gdT K 2 [(gdN 3), (gdN 4)]) (dSeq (dAsg Ep (Cq K (dVar 2) (dVar 4)))
  (dSeq (dFor (iVal K (dBin (rIxD K) (dVar 0) (dVar 4))) (gdN 5) (dSeq (dSet 6 (Bm [none, none, some 3, some 5] (iEn K (Aa (dVar 1) dNil)) (gdT K 2 [(gdN 0), (gdN 1)]) (dTst (dBin (rEqD K false) (dBin (rIxD K) (dVar 1) (dVar 2)) (dVar 3))) (dVar 0)))
   (dSeq (dAsg (dFn (spE (Ox K t) []) (Aa (dVar 6) dNil)) (Cq K (dBin (rIxD K) (dVar 2) (dVar 4)) (dVar 5)))
   Ad)))
  Ad)))
 (dSeq (dRet (dVar 2))
 Ad)))
theorem ar2 (K : PySem.W.Frag) (t : Adr) : wSs 40 (defG K N_zf (Ab s_zf) (gb_1 K t) bl) (Ag s_zf) = t_zf K t := by kernel_rfl
theorem au0 : Ai N_zf P_zf (Ab s_zf) := ⟨rfl, rfl, rfl, by decide +kernel, rfl, by decide +kernel, by decide +kernel⟩
theorem ay1 : As N_zf (Ab s_zf) = true := by decide +kernel
def t_zl (K : PySem.W.Frag) (t : Adr) : DS :=
 (dSeq (dFld K "settings" (dVar 0) (dFn (spE (V3 K t) []) (Aa (dVar 1) dNil)))
 (dSeq (dFld K "tuples" (dVar 0) (dFn (spE (V1 K t) []) (Aa (dUn (C2 K "settings") (dVar 0)) dNil)))
 (dSeq (dFld K "numbers" (dVar 0) (dFn (spE (V0 K t) []) (Aa (dUn (C2 K "tuples") (dVar 0)) dNil)))
 (dSeq (dFld K "sets" (dVar 0) (dFn (spE (V2 K t) []) (Aa (dUn (C2 K "settings") (dVar 0)) (Aa (dUn (C2 K "tuples") (dVar 0)) dNil))))
 (dSeq (dFld K "kept_rules" (dVar 0) (dOwn "read_rules" 1 (C5 K t) (dVar 0) (Aa (dVar 2) dNil)))
 (dSeq (dFld K "bars" (dVar 0) (Bm [none, some 0] (iVal K (dUn (C2 K "kept_rules") (dVar 0))) (gdN 0) dYes (dOwn "box" 1 (Hs K t) (dVar 1) (Aa (dVar 0) dNil))))
 (dSeq (dFld K "free" (dVar 0) (dBin M5 (dOwn "all_choices" 0 (Bp K t) (dVar 0) dNil) (dUn Qe (dFn (spE (Ir K t) []) (Aa (dUn (C2 K "bars") (dVar 0)) dNil)))))
 (dSeq (dIf (dTst (dBin (rEqD K false) (dUn (C2 K "free") (dVar 0)) (dC (.int 0)))) (dSeq (Br K (dFn (fun vs H Q E => vs.length <= 1000 /\ mkX t.c_zap none 0 vs H Q E) (Aa (dC (.str "the rules bar every choice")) dNil)))
  Ad) Ad)
 Ad))))))))
theorem ar8 (K : PySem.W.Frag) (t : Adr) : wSs 40 (defG K N_zl (Ab s_zl) (gb_7 K t) bl) (Ag s_zl) = t_zl K t := by kernel_rfl
theorem au6 : Ai N_zl P_zl (Ab s_zl) := ⟨rfl, rfl, rfl, by decide +kernel, rfl, by decide +kernel, by decide +kernel⟩
theorem ay7 : As N_zl (Ab s_zl) = true := by decide +kernel
def t_zv (K : PySem.W.Frag) (t : Adr) : DS :=
 (dSeq (dSet 2 (dLst dNil))
 (dSeq (dIf (dTst (dBin (rEqD K false) (dBin Au (dFn (spE (Ct K t) []) (Aa (dVar 0) (Aa (dC (.int 2)) dNil))) (dC (.int 3))) (dC (.int 1)))) (dSeq (dSet 2 (dLst (Aa (Tq [((dBin (rIxD K) (dBin (rIxD K) (dVar 1) (dC (.int 0))) (dC (.int 0))), (dLst (Aa (dBin (rIxD K) (dBin (rIxD K) (dBin (rIxD K) (dVar 1) (dC (.int 0))) (dC (.int 1))) (dC (.int 0))) dNil)))]) dNil)))
  Ad) Ad)
 (dSeq (dIf (dTst (dBin (rEqD K false) (dBin Au (dFn (spE (Ct K t) []) (Aa (dVar 0) (Aa (dC (.int 2)) dNil))) (dC (.int 3))) (dC (.int 2)))) (dSeq (dSet 2 (dC .non))
  Ad) Ad)
 (dSeq (dRet (dFn (mkC t.c_zas (some (i_zl K t)) 1) (Aa (Bm [none, none] (iVal K (dVar 1)) (gdT K 2 [(gdN 0), (gdN 1)]) dYes (dTup (Aa (dVar 0) (Aa (dFn (fun vs H Q _ => (Dn K) vs H Q) (Aa (dVar 1) dNil)) dNil)))) (Aa (dVar 2) dNil))))
 Ad))))
theorem as8 (K : PySem.W.Frag) (t : Adr) : wSs 40 (defG K N_zv (Ab s_zv) (gb_9 K t) bl) (Ag s_zv) = t_zv K t := by kernel_rfl
theorem av6 : Ai N_zv P_zv (Ab s_zv) := ⟨rfl, rfl, rfl, by decide +kernel, rfl, by decide +kernel, by decide +kernel⟩
theorem az7 : As N_zv (Ab s_zv) = true := by decide +kernel
def t_zi (K : PySem.W.Frag) (t : Adr) : DS :=
 (dSeq (dSet 3 (Bm [none, none] (iVal K (dVar 0)) (gdT K 2 [(gdN 0), (gdN 1)]) dYes (dVar 0)))
 (dSeq (dSet 4 Ep)
 (dSeq (dFor (iVal K (dMt (rMt K [⟨"str", "str.split", Cs⟩]) (dVar 2) (Aa (dC (.str "&")) dNil))) (gdN 5) (dSeq (dSet 6 (dMt (rMt K [⟨"str", "str.split", Cs⟩]) (dVar 5) (Aa (dC (.str "=")) dNil)))
  (dSeq (dIf (dOr (dTst (dBin (rEqD K true) (dFn (fun vs H Q _ => (rLen K) vs H Q) (Aa (dVar 6) dNil)) (dC (.int 2)))) (dOr (dTst (dBin (rInD K true) (dBin (rIxD K) (dVar 6) (dC (.int 0))) (dVar 3))) (dTst (dBin (rInD K false) (dMt (rMt K [⟨"list", "list.index", F0⟩]) (dVar 3) (Aa (dBin (rIxD K) (dVar 6) (dC (.int 0))) dNil)) (dVar 4))))) (dSeq (dRet (dUn Ia (dC (.int 1))))
   Ad) Ad)
  (dSeq (dSet 7 (dMt (rMt K [⟨"list", "list.index", F0⟩]) (dVar 3) (Aa (dBin (rIxD K) (dVar 6) (dC (.int 0))) dNil)))
  (dSeq (dSet 8 (dMt (rMt K [⟨"str", "str.split", Cs⟩]) (dBin (rIxD K) (dVar 6) (dC (.int 1))) (Aa (dC (.str ",")) dNil)))
  (dSeq (dFor (iRng (Aa (dFn (fun vs H Q _ => (rLen K) vs H Q) (Aa (dVar 8) dNil)) dNil)) (gdN 9) (dSeq (dIf (dOr (dTst (dBin (rInD K true) (dBin (rIxD K) (dVar 8) (dVar 9)) (dBin (rIxD K) (dBin (rIxD K) (dVar 0) (dVar 7)) (dC (.int 1))))) (dTst (dBin (rInD K false) (dBin (rIxD K) (dVar 8) (dVar 9)) (dSl K (dVar 8) Ci (Dr (dVar 9)))))) (dSeq (dRet (dUn Ia (dC (.int 1))))
    Ad) Ad)
   Ad))
  (dSeq (dAsg (Bm [none, some 7, some 0] (iVal K (dVar 8)) (gdN 0) dYes (dMt (rMt K [⟨"list", "list.index", F0⟩]) (dBin (rIxD K) (dBin (rIxD K) (dVar 2) (dVar 1)) (dC (.int 1))) (Aa (dVar 0) dNil))) (Cq K (dVar 4) (dVar 7)))
  Ad)))))))
 (dSeq (dSet 10 (dC (.int 0)))
 (dSeq (dFor (iRng (Aa (dFn (fun vs H Q _ => (rLen K) vs H Q) (Aa (dVar 1) dNil)) dNil)) (gdN 11) (dSeq (dIf (dTst (dBin (rEqD K false) (dFn (fun vs H Q _ => (rLen K) vs H Q) (Aa (Bm [none, some 11, some 1, some 4] (iVal K (dVar 4)) (gdN 0) (dTst (dBin (rInD K true) (dBin (rIxD K) (dBin (rIxD K) (dVar 2) (dVar 1)) (dVar 0)) (dBin (rIxD K) (dVar 3) (dVar 0)))) (dVar 0)) dNil)) (dC (.int 0)))) (dSeq (dSet 10 (dBin rOrD (dVar 10) (dBin M6 (dC (.int 1)) (dVar 11))))
   Ad) Ad)
  Ad))
 (dSeq (dRet (dVar 10))
 Ad))))))
theorem ar5 (K : PySem.W.Frag) (t : Adr) : wSs 40 (defG K N_zi (Ab s_zi) (gb_0 K t) bl) (Ag s_zi) = t_zi K t := by kernel_rfl
theorem au3 : Ai N_zi P_zi (Ab s_zi) := ⟨rfl, rfl, rfl, by decide +kernel, rfl, by decide +kernel, by decide +kernel⟩
theorem ay4 : As N_zi (Ab s_zi) = true := by decide +kernel
def t_zw (K : PySem.W.Frag) (t : Adr) : DS :=
 (dSeq (dIf (dTst (dBin (rEqD K false) (dVar 2) (dC (.str "*")))) (dSeq (dRet (dBin Qf (dBin M6 (dC (.int 1)) (dFn (fun vs H Q _ => (rLen K) vs H Q) (Aa (dVar 1) dNil))) (dC (.int 1))))
  Ad) Ad)
 (dSeq (dIf (dTst (dBin (rEqD K false) (dVar 2) (dC (.str "-")))) (dSeq (dRet (dC (.int 0)))
  Ad) Ad)
 (dSeq (dSet 3 (dC (.int 0)))
 (dSeq (dFor (iVal K (dMt (rMt K [⟨"str", "str.split", Cs⟩]) (dVar 2) (Aa (dC (.str "|")) dNil))) (gdN 4) (dSeq (dSet 5 (dFn (spE (V4 K t) []) (Aa (dVar 0) (Aa (dVar 1) (Aa (dVar 4) dNil)))))
  (dSeq (dIf (dTst (dBin rLtD (dVar 5) (dC (.int 0)))) (dSeq (dRet (dUn Ia (dC (.int 1))))
   Ad) Ad)
  (dSeq (dSet 3 (dBin rOrD (dVar 3) (dVar 5)))
  Ad))))
 (dSeq (dRet (dVar 3))
 Ad)))))
theorem as9 (K : PySem.W.Frag) (t : Adr) : wSs 40 (defG K N_zw (Ab s_zw) (gb_1 K t) bl) (Ag s_zw) = t_zw K t := by kernel_rfl
theorem av7 : Ai N_zw P_zw (Ab s_zw) := ⟨rfl, rfl, rfl, by decide +kernel, rfl, by decide +kernel, by decide +kernel⟩
theorem az8 : As N_zw (Ab s_zw) = true := by decide +kernel
def t_zz (K : PySem.W.Frag) (t : Adr) : DS :=
 (dSeq (dAsg (dBin (rIxD K) (dVar 0) (dBin Au (dVar 1) (dFn (fun vs H Q _ => (rLen K) vs H Q) (Aa (dVar 0) dNil)))) (gdT K 2 [(gdN 3), (gdN 4)]))
 (dSeq (dSet 5 (Bm [none, some 4, some 2] (iRng (Aa (dFn (fun vs H Q _ => (rLen K) vs H Q) (Aa (dVar 4) dNil)) dNil)) (gdN 0) (dTst (dBin (rEqD K false) (dBin M5 (dBin Vs (dVar 2) (dVar 0)) (dC (.int 1))) (dC (.int 1)))) (dBin (rIxD K) (dVar 1) (dVar 0))))
 (dSeq (dIf (dTst (dBin (rEqD K false) (dVar 5) (dLst dNil))) (dSeq (dSet 5 (dLst (Aa (dBin (rIxD K) (dVar 4) (dBin Au (dBin Bl (dVar 2) (dC (.int 16))) (dFn (fun vs H Q _ => (rLen K) vs H Q) (Aa (dVar 4) dNil)))) dNil)))
  Ad) Ad)
 (dSeq (dRet (dBin (Aj K) (dBin (Aj K) (dVar 3) (dC (.str "="))) (dMt (rMt K [⟨"str", "str.join", Gk K⟩]) (dC (.str ",")) (Aa (dVar 5) dNil))))
 Ad))))
theorem at4 (K : PySem.W.Frag) (t : Adr) : wSs 40 (defG K N_zz (Ab s_zz) (gb_0 K t) bl) (Ag s_zz) = t_zz K t := by kernel_rfl
theorem aw0 : Ai N_zz P_zz (Ab s_zz) := ⟨rfl, rfl, rfl, by decide +kernel, rfl, by decide +kernel, by decide +kernel⟩
theorem a01 : As N_zz (Ab s_zz) = true := by decide +kernel
def aw8 (K : PySem.W.Frag) (t : Adr) : DS :=
 (dSeq (dSet 2 (dFn (spE (Qk K t) []) (Aa (dVar 1) (Aa (dC (.int 13)) dNil))))
 (dSeq (dSet 3 (dLst dNil))
 (dSeq (dFor (iRng (Aa (dBin (Aj K) (dC (.int 1)) (dBin Au (dBin (rIxD K) (dVar 2) (dC (.int 0))) (dC (.int 3)))) dNil)) (gdN 4) (dSeq (dSet 5 (dLst (Aa (dFn (spE (Nh K t) []) (Aa (dVar 0) (Aa (dBin (rIxD K) (dVar 2) (dBin (Aj K) (dC (.int 1)) (dBin Bw (dC (.int 4)) (dVar 4)))) (Aa (dBin (rIxD K) (dVar 2) (dBin (Aj K) (dC (.int 2)) (dBin Bw (dC (.int 4)) (dVar 4)))) dNil)))) dNil)))
  (dSeq (dIf (dTst (dBin rGtD (dBin Au (dBin (rIxD K) (dVar 2) (dBin (Aj K) (dC (.int 3)) (dBin Bw (dC (.int 4)) (dVar 4)))) (dC (.int 3))) (dC (.int 0)))) (dSeq (Dq (dMt (rMt K [⟨"list", "list.append", Cb⟩]) (dVar 5) (Aa (dFn (spE (Nh K t) []) (Aa (dVar 0) (Aa (dBin (Aj K) (dBin (Aj K) (dBin (rIxD K) (dVar 2) (dBin (Aj K) (dC (.int 1)) (dBin Bw (dC (.int 4)) (dVar 4)))) (dC (.int 1))) (dBin Au (dBin Bl (dBin (rIxD K) (dVar 2) (dBin (Aj K) (dC (.int 3)) (dBin Bw (dC (.int 4)) (dVar 4)))) (dC (.int 3))) (dC (.int 4)))) (Aa (dBin (rIxD K) (dVar 2) (dBin (Aj K) (dC (.int 4)) (dBin Bw (dC (.int 4)) (dVar 4)))) dNil)))) dNil)))
   Ad) Ad)
  (dSeq (Dq (dMt (rMt K [⟨"list", "list.append", Cb⟩]) (dVar 3) (Aa (dMt (rMt K [⟨"str", "str.join", Gk K⟩]) (dC (.str "&")) (Aa (dVar 5) dNil)) dNil)))
  Ad))))
 (dSeq (dRet (dMt (rMt K [⟨"str", "str.join", Gk K⟩]) (dC (.str "|")) (Aa (dVar 3) dNil)))
 Ad))))
theorem ah3 (K : PySem.W.Frag) (t : Adr) : wSs 40 (defG K Ta (Ab Ii) (gb_1 K t) bl) (Ag Ii) = aw8 K t := by kernel_rfl
theorem ai3 : Ai Ta Lx (Ab Ii) := ⟨rfl, rfl, rfl, by decide +kernel, rfl, by decide +kernel, by decide +kernel⟩
theorem aj7 : As Ta (Ab Ii) = true := by decide +kernel
def t_zq (K : PySem.W.Frag) (t : Adr) : DS :=
 (dSeq (dSet 4 (dBin Au (dVar 2) (dC (.int 8))))
 (dSeq (dSet 5 (dBin Au (dBin Bl (dVar 2) (dC (.int 8))) (dBin (Aj K) (dFn (fun vs H Q _ => (rLen K) vs H Q) (Aa (dVar 1) dNil)) (dC (.int 1)))))
 (dSeq (dIf (dTst (dBin (rEqD K false) (dVar 4) (dC (.int 1)))) (dSeq (dSet 6 (dC (.str "=&|,*- abcdefghijklmnopqrstuvwxyzA0~")))
  (dSeq (dRet (dBin (Aj K) (dBin (Aj K) (dSl K (dVar 1) Ci (Dr (dVar 5))) (dBin (rIxD K) (dVar 6) (dBin Au (dVar 3) (dFn (fun vs H Q _ => (rLen K) vs H Q) (Aa (dVar 6) dNil))))) (dSl K (dVar 1) (Dr (dVar 5)) Ci)))
  Ad)) Ad)
 (dSeq (dIf (dTst (dBin (rEqD K false) (dVar 4) (dC (.int 2)))) (dSeq (dRet (dBin (Aj K) (dSl K (dVar 1) Ci (Dr (dVar 5))) (dSl K (dVar 1) (Dr (dBin (Aj K) (dVar 5) (dC (.int 1)))) Ci)))
  Ad) Ad)
 (dSeq (dIf (dTst (dBin (rEqD K false) (dVar 4) (dC (.int 3)))) (dSeq (dRet (dBin (Aj K) (dVar 1) (dBin (rIxD K) (dLst (Aa (dC (.str "|*")) (Aa (dC (.str "|-")) (Aa (dC (.str "&*")) (Aa (dC (.str "|")) (Aa (dC (.str "&")) (Aa (dC (.str ",")) (Aa (dC (.str "=")) (Aa (dBin (Aj K) (dC (.str "|")) (dVar 1)) dNil))))))))) (dBin Au (dVar 3) (dC (.int 8))))))
  Ad) Ad)
 (dSeq (dIf (dTst (dBin (rEqD K false) (dVar 4) (dC (.int 4)))) (dSeq (dRet (dBin (Aj K) (dBin (rIxD K) (dLst (Aa (dC (.str "*")) (Aa (dC (.str "-")) (Aa (dC (.str "|")) (Aa (dC (.str "&")) (Aa (dC (.str "=")) (Aa (dC (.str ",")) dNil))))))) (dBin Au (dVar 3) (dC (.int 6)))) (dVar 1)))
  Ad) Ad)
 (dSeq (dIf (dTst (dBin (rEqD K false) (dVar 4) (dC (.int 5)))) (dSeq (dRet (dBin (Aj K) (dBin (Aj K) (dVar 1) (dC (.str "&"))) (dFn (spE (Nh K t) []) (Aa (dVar 0) (Aa (dVar 3) (Aa (dBin Bl (dVar 3) (dC (.int 8))) dNil))))))
  Ad) Ad)
 (dSeq (dIf (dTst (dBin (rEqD K false) (dVar 4) (dC (.int 6)))) (dSeq (dRet (dBin (Aj K) (dBin (Aj K) (dVar 1) (dC (.str ","))) (dBin (rIxD K) (dBin (rIxD K) (dBin (rIxD K) (dVar 0) (dBin Au (dVar 3) (dFn (fun vs H Q _ => (rLen K) vs H Q) (Aa (dVar 0) dNil)))) (dC (.int 1))) (dC (.int 0)))))
  Ad) Ad)
 (dSeq (dIf (dTst (dBin (rEqD K false) (dVar 4) (dC (.int 7)))) (dSeq (dRet (dBin (rIxD K) (dLst (Aa (dC (.str "")) (Aa (dC (.str " ")) (Aa (dC (.str "**")) (Aa (dC (.str "--")) (Aa (dC (.str "*|*")) (Aa (dC (.str "*&*")) (Aa (dC (.str "all")) (Aa (dC (.str "none")) dNil))))))))) (dBin Au (dVar 3) (dC (.int 8)))))
  Ad) Ad)
 (dSeq (dRet (dVar 1))
 Ad))))))))))
theorem as3 (K : PySem.W.Frag) (t : Adr) : wSs 40 (defG K N_zq (Ab s_zq) (gb_1 K t) bl) (Ag s_zq) = t_zq K t := by kernel_rfl
theorem av1 : Ai N_zq P_zq (Ab s_zq) := ⟨rfl, rfl, rfl, by decide +kernel, rfl, by decide +kernel, by decide +kernel⟩
theorem az2 : As N_zq (Ab s_zq) = true := by decide +kernel
def aw9 (K : PySem.W.Frag) (t : Adr) : DS :=
 (dSeq (dSet 2 (dC .non))
 (dSeq (dSet 3 (dC (.str "nothing")))
 (dSeq (dTry K (dSeq (dSet 2 (dFn (spE (Qm K t) []) (Aa (dVar 0) (Aa (dVar 1) dNil))))
  Ad) [(t.c_zaq, some 4, (dSeq (dSet 3 (dC (.str "other")))
  (dSeq (dIf (dAnd (dTru K (dFn (fun vs H Q _ => (rIsi K) vs H Q) (Aa (dVar 4) (Aa (dC (.ref t.c_zan)) dNil)))) (dAnd (dTru K (dFn (fun vs H Q _ => (rIsi K) vs H Q) (Aa (dVar 4) (Aa (dC (.ty "ValueError")) dNil)))) (dNot (dTru K (dFn (fun vs H Q _ => (rIsi K) vs H Q) (Aa (dVar 4) (Aa (dC (.ref t.c_zar)) dNil))))))) (dSeq (dSet 3 (dC (.str "refused")))
   Ad) Ad)
  Ad)))])
 (dSeq (dRet (dTup (Aa (dVar 3) (Aa (dVar 2) dNil))))
 Ad))))
theorem ah4 (K : PySem.W.Frag) (t : Adr) : wSs 40 (defG K Tb (Ab Ij) (gb_6 K t) bl) (Ag Ij) = aw9 K t := by kernel_rfl
theorem ai4 : Ai Tb Ly (Ab Ij) := ⟨rfl, rfl, rfl, by decide +kernel, rfl, by decide +kernel, by decide +kernel⟩
theorem aj8 : As Tb (Ab Ij) = true := by decide +kernel
def ax5 (K : PySem.W.Frag) (t : Adr) : DS :=
 (dSeq (dSet 1 (dFn (spE (V5 K t) []) (Aa (dVar 0) dNil)))
 (dSeq (dSet 2 (dFn (spE (V9 K t) []) (Aa (dVar 1) dNil)))
 (dSeq (dSet 3 (dFn (spE (Wd K t) []) (Aa (dVar 0) (Aa (dVar 1) dNil))))
 (dSeq (dSet 4 (dFn (spE (Ov K t) []) (Aa (dVar 1) (Aa (dFn (spE (Ct K t) []) (Aa (dVar 0) (Aa (dC (.int 3)) dNil))) dNil))))
 (dSeq (dFor (iRng (Aa (dC (.int 4)) (Aa (dFn (fun vs H Q _ => rMax vs H Q) (Aa (dC (.int 6)) (Aa (dFn (fun vs H Q _ => rMin vs H Q) (Aa (dBin Qf (dFn (fun vs H Q _ => (rLen K) vs H Q) (Aa (dVar 0) dNil)) (dC (.int 1))) (Aa (dC (.int 34)) dNil))) dNil))) (Aa (dC (.int 2)) dNil)))) (gdN 5) (dSeq (dSet 6 (dFn (spE (Wa K t) []) (Aa (dVar 1) (Aa (dVar 4) (Aa (dFn (spE (Ct K t) []) (Aa (dVar 0) (Aa (dVar 5) dNil))) (Aa (dFn (spE (Ct K t) []) (Aa (dVar 0) (Aa (dBin (Aj K) (dVar 5) (dC (.int 1))) dNil))) dNil))))))
  (dSeq (dSet 7 (dFn (spE (Ql K t) []) (Aa (dVar 1) (Aa (dVar 2) (Aa (dVar 6) dNil)))))
  (dSeq (dAsg (dFn (spE (Ls K t) []) (Aa (dVar 3) (Aa (dVar 6) dNil))) (gdT K 2 [(gdN 8), (gdN 9)]))
  (dSeq (dIf (dAnd (dTst (dBin rLtD (dVar 7) (dC (.int 0)))) (dTst (dBin (rEqD K true) (dVar 8) (dC (.str "refused"))))) (dSeq (dRet (dC (.bl false)))
   Ad) Ad)
  (dSeq (dIf (dAnd (dTst (dBin rGeD (dVar 7) (dC (.int 0)))) (dOr (dTst (dBin (rEqD K true) (dVar 8) (dC (.str "nothing")))) (dOr (dTru K (dFn (fun vs H Q _ => (rIsi K) vs H Q) (Aa (dVar 9) (Aa (dC (.ty "bool")) dNil)))) (dTst (dBin (rEqD K true) (dVar 9) (dVar 7)))))) (dSeq (dRet (dC (.bl false)))
   Ad) Ad)
  Ad))))))
 (dSeq (dSet 10 (dBin (rIxD K) (dLst (Aa (dC .non) (Aa (dC (.int 0)) (Aa (dC (.bl true)) (Aa (dLst (Aa (dVar 4) dNil)) (Aa (dTup (Aa (dVar 4) dNil)) (Aa Ep (Aa (dLst (Aa (dC (.str "*")) dNil)) dNil)))))))) (dBin Au (dBin Bl (dFn (spE (Ct K t) []) (Aa (dVar 0) (Aa (dC (.int 2)) dNil))) (dC (.int 3))) (dC (.int 7)))))
 (dSeq (dIf (dTst (dBin (rEqD K true) (dBin (rIxD K) (dFn (spE (Ls K t) []) (Aa (dVar 3) (Aa (dVar 10) dNil))) (dC (.int 0))) (dC (.str "refused")))) (dSeq (dRet (dC (.bl false)))
  Ad) Ad)
 (dSeq (dSet 9 (dFn (spE (Qm K t) []) (Aa (dVar 3) (Aa (dBin (Aj K) (dBin (Aj K) (dBin (rIxD K) (dBin (rIxD K) (dVar 1) (dC (.int 0))) (dC (.int 0))) (dC (.str "="))) (dBin (rIxD K) (dBin (rIxD K) (dBin (rIxD K) (dVar 1) (dC (.int 0))) (dC (.int 1))) (dC (.int 1)))) dNil))))
 (dSeq (dRet (dBin (rEqD K false) (dVar 9) (dFn (spE (Ql K t) []) (Aa (dVar 1) (Aa (dVar 2) (Aa (dBin (Aj K) (dBin (Aj K) (dBin (rIxD K) (dBin (rIxD K) (dVar 1) (dC (.int 0))) (dC (.int 0))) (dC (.str "="))) (dBin (rIxD K) (dBin (rIxD K) (dBin (rIxD K) (dVar 1) (dC (.int 0))) (dC (.int 1))) (dC (.int 1)))) dNil))))))
 Ad)))))))))
theorem ai0 (K : PySem.W.Frag) (t : Adr) : wSs 40 (defG K Th (Ab C9) (Ua K t) bl) (Ag C9) = ax5 K t := by kernel_rfl
theorem aj0 : Ai Th Mb (Ab C9) := ⟨rfl, rfl, rfl, by decide +kernel, rfl, by decide +kernel, by decide +kernel⟩
theorem ak4 : As Th (Ab C9) = true := by decide +kernel
end K12
namespace K12
open PySem L2 Pn
section
variable {P : Program} {w : World} {K : PySem.W.Frag} {mg : Str -> Option Value} {base : Heap} {t : Adr}
theorem ab3 {f : Addr} {fd : FuncData} (Z : Ar K t) (F : FunD K "union_of" "union_of" Im f fd .none) (T : Tab P w K mg base 0 (gb_0 K t) bl) : FnOk P w K mg base CX0 1 f fd L8 (Ir K t) := by
 refine F.okW0 ai7 ak1 T (ah7 K t) (fun vs H Q E h => ?_) (fun vs H Q E h => ?_)
 ·obtain ⟨a, ms, rfl, _⟩ := h; rfl
 ·obtain ⟨a, ms, rfl, hS, k⟩ := h
  refine .inl ⟨⟨_, hS⟩, ?_⟩
  refine Bh (A0 (ms.map V.int)) (fun i σ H' => (∃ v2, σ = [some (.ref a), some (.int (Bs (ms.take i))), v2]) /\ H' = H) ⟨⟨_, rfl⟩, rfl⟩ (fun i σ H' _ q => q.2 ▸ hS) ?_ ?_
  ·rintro i x σ H' hx ⟨⟨v2, rfl⟩, rfl⟩
   obtain ⟨m, hm, rfl⟩ := Ak hx
   have e : Bs (ms.take (i + 1)) = Builtin.bitOr (Bs (ms.take i)) m := B9 hm _ _
   exact ⟨⟨_, congrArg (fun z => [some (V.ref a), some (V.int z), some (V.int m)]) e.symm⟩, rfl⟩
  ·rintro σ H' ⟨⟨v2, rfl⟩, rfl⟩
   rw [List.length_map, List.take_length]
   exact .inl k
theorem ab5 {f : Addr} {fd : FuncData} (Z : Ar K t) (F : FunD K "set_of" "set_of" Ip f fd .none) (T : Tab P w K mg base 0 (gb_0 K t) bl) : FnOk P w K mg base CX0 1 f fd Ma (Ox K t) := by
 refine F.okW0 ai9 ak3 T (ah9 K t) (fun vs H Q E h => ?_) (fun vs H Q E h => ?_)
 ·obtain ⟨a, ms, rfl, _⟩ := h; rfl
 ·obtain ⟨a, ms, rfl, hS, hb, k⟩ := h
  refine .inl ⟨⟨_, hS⟩, ?_⟩
  refine Bh (A0 (ms.map fun n : Nat => V.int (n : Int))) (fun i σ H' => (∃ v2, σ = [some (.ref a), some (.int (setM (ms.take i))), v2]) /\ H' = H) ⟨⟨_, rfl⟩, rfl⟩ (fun i σ H' _ q => q.2 ▸ hS) ?_ ?_
  ·rintro i x σ H' hx ⟨⟨v2, rfl⟩, rfl⟩
   obtain ⟨m, hm, rfl⟩ := Ak hx
   have e : setM (ms.take (i + 1)) = Builtin.bitOr (setM (ms.take i)) (1 * 2 ^ ((m : Int)).toNat) := by
    rw [Int.one_mul, Int.toNat_natCast]
    exact B9 hm _ _
   have hm2 := hb m (List.mem_of_getElem? hm)
   refine ⟨⟨by omega, by omega, by decide⟩, ?_⟩
   exact ⟨⟨_, congrArg (fun z => [some (V.ref a), some (V.int z), some (V.int (m : Int))]) e.symm⟩, rfl⟩
  ·rintro σ H' ⟨⟨v2, rfl⟩, rfl⟩
   rw [List.length_map, List.take_length]
   exact .inl k
theorem an2 {f : Addr} {fd : FuncData} (Z : Ar K t) (F : FunD K "many" "Panel.many" s_zm f fd .none) (T : Tab P w K mg base 0 (gb_0 K t) bl) : FnOk P w K mg base CX0 1 f fd P_zm (Zw K t) := by
 refine F.okW0 au7 ay8 T (ar9 K t) (fun vs H Q E h => ?_) (fun vs H Q E h => ?_)
 ·obtain ⟨p, l, s, sw, rfl, _⟩ := h; rfl
 ·obtain ⟨p, l, s, sw, rfl, ⟨dx, fs, ⟨_, hp⟩, hl, hs, hm⟩, ⟨ds, e, ⟨_, o⟩, _⟩, k⟩ := h
  refine Or.inl ⟨_, _, _, _, hp, Z.pf.cl, (Z.pf.na _ (by simp)), hl, (.inl ⟨_, .inl (SqL.of o), ?_⟩)⟩
  have el : (ds.map fun x => V.ref x.2).length = (Ah sw).length := by rw [<- e]; simp
  rw [el]
  exact k
theorem am2 {f : Addr} {fd : FuncData} (Z : Ar K t) (F : FunD K "all_choices" "Panel.all_choices" s_zc f fd .none) (T : Tab P w K mg base 1 (gb_1 K t) bl) : FnOk P w K mg base CX0 2 f fd P_zc (Zt K t) := by
 refine F.okW0 at7 ax8 T (aq9 K t) (fun vs H Q E h => ?_) (fun vs H Q E h => ?_)
 ·obtain ⟨p, l, s, sw, rfl, _⟩ := h; rfl
 ·obtain ⟨p, l, s, sw, rfl, hs, ht, hn, k⟩ := h
  obtain ⟨dx, fs, ⟨_, hp⟩, _, _, hm⟩ := id hs
  refine ⟨p, dx, fs, ⟨t.c_zas, i_zm K t⟩, rfl, .head _, hp, hm _ (by decide), ⟨Nat.le_of_ble_eq_true rfl, Nat.le_of_ble_eq_true rfl⟩, ?_⟩
  refine ⟨p, l, s, sw, rfl, hs, ht, ⟨by omega, by omega, by decide⟩, ?_⟩
  have e : 1 * 2 ^ (((Ah sw).length : Int)).toNat - 1 = allM sw := by rw [Int.one_mul, Int.toNat_natCast]; rfl
  show Q (.int (1 * 2 ^ (((Ah sw).length : Int)).toNat - 1)) H
  rw [e]
  exact k
theorem an4 {f : Addr} {fd : FuncData} (Z : Ar K t) (F : FunD K "has_length" "has_length" s_zo f fd .none) (T : Tab P w K mg base 0 (gb_0 K t) bl) : FnOk P w K mg base CX0 1 f fd P_zo (V8 K t) := by
 refine F.okW0 au9 az0 T (as1 K t) (fun vs H Q E h => ?_) (fun vs H Q E h => ?_)
 ·obtain ⟨z, lo, hi, rfl, _⟩ := h; rfl
 ·obtain ⟨z, lo, hi, rfl, hz, k⟩ := h
  exact ⟨rfl, Nat.le_trans hz (by decide), Jq k⟩
theorem an9 {f : Addr} {fd : FuncData} (Z : Ar K t) (F : FunD K "is_letter" "is_letter" s_zt f fd .none) (T : Tab P w K mg base 0 (gb_0 K t) bl) : FnOk P w K mg base CX0 1 f fd P_zt (Wb K t) := by
 refine F.okW0 av4 az5 T (as6 K t) (fun vs H Q E h => ?_) (fun vs H Q E h => ?_)
 ·obtain ⟨x, rfl, _⟩ := h; rfl
 ·obtain ⟨c, rfl, k⟩ := h
  dsimp only [t_zt, dSeq, dRet]
  exact W3 (s1 := "a") (s2 := "z") (c := c) (i := 0) (a := 97) (b := 122) (by decide +kernel) (by decide +kernel) (by rfl) k
theorem Up {α : Type} [DecidableEq α] : ∀ (ys acc : List α), (ys.foldl (fun σ k => if σ.any (fun j => decide (j = k)) then σ else σ ++ [k]) acc).length <= acc.length + ys.length
 | [], _ => Nat.le_refl _
 | y :: ys, acc => by
  rw [List.foldl_cons]
  refine Nat.le_trans (Up ys _) ?_
  split
  ·rw [List.length_cons]; omega
  ·rw [List.length_append, List.length_cons, List.length_cons, List.length_nil]; omega
theorem Uq {α : Type} [DecidableEq α] : ∀ (ys acc : List α), (ys.foldl (fun σ k => if σ.any (fun j => decide (j = k)) then σ else σ ++ [k]) acc).length = acc.length + ys.length -> acc.Nodup -> (acc ++ ys).Nodup
 | [], acc, _, h => by rw [List.append_nil]; exact h
 | y :: ys, acc, h, nd => by
  rw [List.foldl_cons] at h
  by_cases q : (acc.any fun j => decide (j = y)) = true
  ·rw [if_pos q] at h
   have := Up ys acc
   rw [List.length_cons] at h
   omega
  ·rw [if_neg q] at h
   have := Uq ys (acc ++ [y]) (by rw [h, List.length_append, List.length_cons, List.length_cons, List.length_nil]; omega) (List.nodup_append.mpr ⟨nd, by simp, fun a ha b hb e => q (List.any_eq_true.mpr ⟨a, ha, by
    have : b = y := by simpa using hb
    rw [<- this, <- e]
    simp⟩)⟩)
   rw [List.append_assoc] at this
   exact this
theorem Xj {α : Type} [DecidableEq α] (xs : List α) (h : (metK xs).length = xs.length) : xs.Nodup := Uq xs [] (by rw [List.length_nil, Nat.zero_add]; exact h) List.nodup_nil
theorem wordB_iff {z : Str} : Gn z = true ↔ okW z := by
 unfold Gn okW
 rw [Bool.and_eq_true, Bool.and_eq_true, decide_eq_true_iff, decide_eq_true_iff]
 exact ⟨fun h => ⟨h.1.1, h.1.2, h.2⟩, fun h => ⟨⟨h.1, h.2.1⟩, h.2.2⟩⟩
theorem Jk {K : PySem.W.Frag} {J : It} {its : List V} {ok : Hp -> Prop} {te : DE} {σ : St} {H : Hp} {R : Hp -> Addr -> Prop} {E : EK} (f : V -> Bool) (Y : C4 J its ok) (Sg : St -> Prop) (hok : ∀ H1, Same H H1 -> ok H1) (hn : its.length < sizeLine) (hσ : Sg σ) (hS : ∀ σ x, Sg σ -> Sg (σ.set 0 (some x)))
  (he : ∀ x σ H1 Q1, x ∈ its -> Sg σ -> Same H H1 -> (∀ H2, Same H1 H2 -> Q1 (.bl (f x)) H2) -> te (σ.set 0 (some x)) H1 Q1 E) (k : ∀ D H', Same H H' -> SqL K H' D ((its.map f).map V.bl) -> R H' D) :
  ∀ D, H D = none -> CmpW J (gdN 0) dYes te D (fun H' => R H' D) σ (upd H D (.lst [])) E := by
 intro D hD
 refine K1 Y Sg (fun _ => true) (fun v => .bl (f v)) hD hok hn hσ ?_ ?_
 ·intro x σ H1 hx hs S Fin Skip hF hK
  exact he x σ H1 _ hx hs S fun H2 S2 => hF _ _ _ (hS _ _ hs) S2 rfl rfl
 ·intro H' S hD'
  exact k D H' S (SqL.of (hD'.trans (by rw [List.filter_eq_self.mpr (fun _ _ => rfl), List.map_map]; rfl)))
def strB (p : Str -> Bool) : V -> Bool
 | .str z => p z
 | _ => false
theorem Ni (p : Str -> Bool) (l : List Str) : (((l.map V.str).map (strB p)).all fun b => b) = l.all p := by rw [List.map_map, List.all_map]; rfl
theorem ab4 {f : Addr} {fd : FuncData} (Z : Ar K t) (F : FunD K "is_word" "is_word" Io f fd .none) (T : Tab P w K mg base 1 (gb_1 K t) bl) : FnOk P w K mg base CX0 2 f fd L9 (Lu K t) := by
 refine F.okW0 ai8 ak2 T (ah8 K t) (fun vs H Q E h => ?_) (fun vs H Q E h => ?_)
 ·obtain ⟨x, rfl, _⟩ := h; rfl
 ·obtain ⟨z, rfl, hl, k⟩ := h
  refine ⟨z, 1, 8, rfl, hl, ?_⟩
  have e : (decide (1 <= (z.length : Int)) && decide ((z.length : Int) <= 8)) = (decide (1 <= z.length) && decide (z.length <= 8)) := by
   congr 1 <;> exact decide_eq_decide.mpr (by omega)
  rw [e]
  unfold Gn at k
  cases hb : (decide (1 <= z.length) && decide (z.length <= 8)) with
  | false =>
   rw [hb] at k
   exact k H (Same.refl _)
  | true =>
   rw [hb] at k
   refine Qu (p := Ax) hl (fun c σ H1 Q1 hσ q => ?_) fun H' S => k H' S
   match σ, hσ with
   | [_], _ => exact ⟨c, rfl, q⟩
theorem am4 {f : Addr} {fd : FuncData} (Z : Ar K t) (F : FunD K "are_unlike_words" "are_unlike_words" s_ze f fd .none) (T : Tab P w K mg base 2 (gb_2 K t) bl) : FnOk P w K mg base CX0 3 f fd P_ze (Qj K t) := by
 refine F.okW0 at9 ay0 T (ar1 K t) (fun vs H Q E h => ?_) (fun vs H Q E h => ?_)
 ·obtain ⟨a, l, rfl, _⟩ := h; rfl
 ·obtain ⟨a, l, rfl, hS, hl, hz, k⟩ := h
  refine ⟨_, true, .sqL rfl hS rfl, rfl, ?_⟩
  refine .inl ⟨⟨_, hS⟩, ?_⟩
  refine Jk (K := K) (σ := [none]) (strB Gn) (A0 (l.map V.str)) (fun σ => σ.length = 1) (fun H1 S => S.seqL hS) ?_ rfl (fun σ x hσ => by rw [List.length_set]; exact hσ) ?_ fun D1 H1 S1 q1 => ⟨_, q1, ?_⟩
  ·rw [List.length_map]; exact Nat.lt_of_le_of_lt hl (by decide)
  ·intro x σ H1 Q1 hx hσ S q
   obtain ⟨z, hz0, rfl⟩ := List.mem_map.mp hx
   match σ, hσ with
   | [_], _ => exact ⟨z, rfl, hz z hz0, q⟩
  ·rw [Ni]
   cases hb : l.all Gn with
   | false =>
    rw [hb] at k
    exact k H1 S1
   | true =>
    rw [hb] at k
    refine ⟨l, S1.seqL hS, by omega, .inl ⟨_, .inl (S1.seqL hS), ?_⟩⟩
    rw [List.length_map]
    have e : decide (((metK l).length : Int) = (l.length : Int)) = decide l.Nodup := decide_eq_decide.mpr ⟨fun q => Xj l (by omega), fun q => by rw [Xk q]⟩
    show Q (.bl (decide (((metK l).length : Int) = (l.length : Int)))) H1
    rw [e]
    exact k H1 S1
theorem ao0 {f : Addr} {fd : FuncData} (Z : Ar K t) (F : FunD K "is_switch" "is_switch" s_zu f fd .none) (T : Tab P w K mg base 3 (gb_3 K t) bl) : FnOk P w K mg base CX0 4 f fd P_zu (Wc K t) := by
 refine F.okW0 av5 az6 T (as7 K t) (fun vs H Q E h => ?_) (fun vs H Q E h => ?_)
 ·obtain ⟨a, b, wd, l, rfl, _⟩ := h; rfl
 ·obtain ⟨a, b, wd, l, rfl, ha, hb, hw, hl, k⟩ := h
  have qa := SqT.of (K := K) ha
  have qb := SqL.of (K := K) hb
  refine ⟨_, true, .sqT rfl qa rfl, rfl, ?_⟩
  refine .inl ⟨_, .inr qa, ?_⟩
  refine ⟨_, _, .inr qa, rfl, ?_⟩
  refine ⟨wd, rfl, Nat.le_trans hw.2.1 (by decide), fun H1 S1 => ?_⟩
  rw [wordB_iff.mpr hw]
  refine ⟨_, _, .inr (S1.seqT qa), rfl, ?_⟩
  refine ⟨b, l, rfl, S1.seqL qb, by have := hl.2.2; omega, fun z hz => Nat.le_trans (hl.1.1 z hz).2.1 (by decide), fun H2 S2 => ?_⟩
  rw [List.all_eq_true.mpr fun z hz => wordB_iff.mpr (hl.1.1 z hz), decide_eq_true hl.1.2.1]
  have S := S1.trans S2
  refine ⟨_, _, .inr (S.seqT qa), rfl, .inl ⟨_, .inl (S.seqL qb), ?_⟩⟩
  rw [List.length_map]
  have e : (decide (2 <= (l.length : Int)) && decide ((l.length : Int) <= 4)) = true := by
   have h1 := hl.2.1
   have h2 := hl.2.2
   simp
   omega
  exact Jq (e ▸ k H2 S)
theorem Ld {es : List ((Str × List Str) × Addr)} {sw : Sw} {i : Nat} {e : Str × List Str} (he : es.map (·.1) = sw.take i) (hi : sw[i]? = some e) (nd : (sw.map (·.1)).Nodup) : valV (es.map kR) (.inr e.1) = none := by
 refine B2 ?_
 rw [K8, he]
 intro hm
 obtain ⟨w, hw, e2⟩ := List.mem_map.mp hm
 cases e2
 have h1 : (sw.map (·.1))[i]? = some e.1 := by rw [List.getElem?_map, hi]; rfl
 rw [List.map_take] at hw
 obtain ⟨j, hj, e3⟩ := List.mem_iff_getElem.mp hw
 rw [List.length_take] at hj
 rw [List.getElem_take] at e3
 have hi2 := Al h1
 have e4 : (sw.map (·.1))[i] = e.1 := by
  have := List.getElem?_eq_getElem hi2
  rw [this] at h1
  exact Option.some.inj h1
 have := (List.getElem_inj (i := j) (j := i) (h₀ := by omega) (h₁ := hi2) nd).mp (by rw [e3, e4])
 omega
theorem Gz {es : List ((Str × List Str) × Addr)} {e : Str × List Str} {a : Addr} (h : valV (es.map kR) (.inr e.1) = none) : putK (es.map kR) (.inr e.1) (.ref a) = (es ++ [(e, a)]).map kR := by
 rw [Fg _ h, List.map_append]
 rfl
theorem N0 {α β : Type} {es : List (α × β)} {sw : List α} {i : Nat} (h : es.map (·.1) = sw.take i) : es.length <= sw.length := by
 have := congrArg List.length h
 rw [List.length_map, List.length_take] at this
 omega
theorem E9 {α β : Type} {es : List (α × β)} {sw : List α} {i : Nat} {e : α} {a : β} (h : es.map (·.1) = sw.take i) (hi : sw[i]? = some e) : (es ++ [(e, a)]).map (·.1) = sw.take (i + 1) := by
 rw [List.map_append, h, List.take_add_one, hi]
 rfl
theorem am7 {f : Addr} {fd : FuncData} (Z : Ar K t) (F : FunD K "read_switches" "read_switches" s_zh f fd .none) (T : Tab P w K mg base 4 (gb_4 K t) bl) : FnOk P w K mg base CX0 5 f fd P_zh (V3 K t) := by
 refine F.okW0 au2 ay3 T (ar4 K t) (fun vs H Q E h => ?_) (fun vs H Q E h => ?_)
 ·obtain ⟨a, sw, rfl, _⟩ := h; rfl
 ·obtain ⟨a, sw, rfl, ⟨ds, ed, ⟨_, oa⟩, hd⟩, hw, k⟩ := h
  have ql := SqL.of (K := K) oa
  have el : (ds.map fun x => V.ref x.2).length = sw.length := by rw [<- ed]; simp
  refine ⟨_, true, .sqL rfl ql rfl, rfl, ?_⟩
  refine .inl ⟨_, .inl ql, ?_⟩
  rw [el]
  have e1 : decide (1 <= (sw.length : Int)) = true := by have := hw.1; simp; omega
  have e2 : decide ((sw.length : Int) <= 5) = true := by have := hw.2.1; simp; omega
  refine Fb e1 (Cc (by rw [e2]; rfl) ?_)
  intro d hd0
  refine .inl (.inl ⟨⟨_, (Same.upd hd0).seqL ql⟩, ?_⟩)
  refine Bh (A0 (ds.map fun x => V.ref x.2)) (fun i σ H' => (∃ v3, σ = [some (.ref a), some (.ref d), some (.int (Ba (sw.take i) : Nat)), v3]) /\ Same H H' /\
    ∃ es : List ((Str × List Str) × Addr), es.map (·.1) = sw.take i /\ H' d = some (.dK (es.map kR)) /\ ∀ x ∈ es, H x.2 = none /\ H' x.2 = some (tupO x.1.2))
   ⟨⟨_, rfl⟩, Same.upd hd0, [], rfl, Ac, fun x hx => by cases hx⟩ (fun i σ H' _ q => q.2.1.seqL ql) ?_ ?_
  ·rintro i x σ H1 hx ⟨⟨v3, rfl⟩, S1, es, ee, e1d, he⟩
   obtain ⟨⟨⟨e, la⟩, ta⟩, hi, rfl⟩ := Ak hx
   have hi2 : sw[i]? = some e := by rw [<- ed, List.getElem?_map, hi]; rfl
   obtain ⟨⟨_, h1⟩, _, h2⟩ := hd _ (List.mem_of_getElem? hi)
   have hok := hw.2.2.2.1 e (List.mem_of_getElem? hi2)
   have nk := Ld ee hi2 hw.2.2.1
   refine ⟨ta, la, e.1, e.2, rfl, S1 _ _ h1, S1 _ _ h2, hok.1, hok.2, fun H2 S2 => ?_⟩
   have S := S1.trans S2
   have qt := SqT.of (K := K) (S _ _ h1)
   have qa := SqL.of (K := K) (S _ _ h2)
   refine ⟨_, _, .inr qt, rfl, .inr ⟨_, DGet.k (k := .inr e.1) (S2 _ _ e1d), ?_⟩⟩
   rw [nk]
   refine ⟨_, _, .inr qt, rfl, _, .inl ⟨qa, fun tp htp => ?_⟩⟩
   have S3 := Same.upd (o := tupO e.2) htp
   have et : upd H2 tp (tupO e.2) tp = some (tupO e.2) := Ac
   show Cq K (dVar 1) (dBin (rIxD K) (dVar 3) (dC (.int 0))) (.ref tp) [some (.ref a), some (.ref d), some (.int (Ba (sw.take i) : Nat)), some (.ref ta)] (upd H2 tp (tupO e.2)) _
   have hft : H tp = none := S.free htp
   generalize upd H2 tp (tupO e.2) = H3 at S3 et ⊢
   have Sa := S.trans S3
   have e3d := S3 _ _ (S2 _ _ e1d)
   have ndt : d ≠ tp := Ae (S2 _ _ e1d) htp
   refine ⟨_, _, .inr (S3.seqT qt), rfl, _, DPut.k (k := .inr e.1) e3d ?_, ?_⟩
   ·rw [List.length_map]
    have := N0 ee
    have := hw.2.1
    exact Nat.lt_of_le_of_lt (show es.length <= 5 by omega) (by decide)
   rw [Gz nk]
   have Sb : Same H (upd H3 d (.dK ((es ++ [(e, tp)]).map kR))) := Sa.set hd0
   have keep : ∀ b, b ≠ d -> upd H3 d (.dK ((es ++ [(e, tp)]).map kR)) b = H3 b := fun b hb => Af hb
   have ebd : upd H3 d (.dK ((es ++ [(e, tp)]).map kR)) d = some (.dK ((es ++ [(e, tp)]).map kR)) := Ac
   generalize upd H3 d (.dK ((es ++ [(e, tp)]).map kR)) = H4 at Sb keep ebd ⊢
   refine ⟨_, _, .inr (SqT.of (Sb _ _ h1)), rfl, .inl ⟨_, .inl (SqL.of (Sb _ _ h2)), ?_⟩⟩
   rw [List.length_map]
   have pm : ((Ba (sw.take i) : Nat) : Int) * (e.2.length : Int) = ((Ba (sw.take (i + 1)) : Nat) : Int) := by
    unfold Ba
    rw [B9 hi2, Int.natCast_mul]
   have hb4 := hok.2.2.2
   refine ⟨.inr ⟨show -(2 ^ 64) < (e.2.length : Int) by omega, show (e.2.length : Int) < 2 ^ 64 by omega⟩, ?_⟩
   refine ⟨⟨_, congrArg (fun z => [some (V.ref a), some (V.ref d), some (V.int z), some (V.ref ta)]) pm⟩, Sb, es ++ [(e, tp)], E9 ee hi2, ebd, ?_⟩
   intro x hx
   rcases List.mem_append.mp hx with hx | hx
   ·obtain ⟨a1, a2⟩ := he x hx
    refine ⟨a1, ?_⟩
    rw [keep x.2 (fun z => by rw [z, e1d] at a2; cases a2)]
    exact S3 _ _ (S2 _ _ a2)
   ·have : x = (e, tp) := by simpa using hx
    subst this
    exact ⟨hft, by rw [keep _ (Ne.symm ndt)]; exact et⟩
  ·rintro σ H1 ⟨⟨v3, rfl⟩, S1, es, ee, e1d, he⟩
   rw [el, List.take_length] at ee
   rw [el, List.take_length]
   refine .inl (Cc ?_ ?_)
   ·have := hw.2.2.2.2
    simp
    omega
   ·exact k H1 d S1 ⟨es, ee, ⟨hd0, e1d⟩, he⟩
theorem an0 {f : Addr} {fd : FuncData} (Z : Ar K t) (F : FunD K "copied_rule" "copied_rule" s_zk f fd .none) (T : Tab P w K mg base 0 (gb_0 K t) bl) : FnOk P w K mg base CX0 1 f fd P_zk (V6 K t) := by
 refine F.okW0 au5 ay6 T (ar7 K t) (fun vs H Q E h => ?_) (fun vs H Q E h => ?_)
 ·obtain ⟨r, rule, rfl, _⟩ := h; rfl
 ·obtain ⟨r, rule, rfl, ⟨ds, ed, ⟨_, od⟩, hd⟩, nd, hl, k⟩ := h
  intro c hc
  have ncr : r ≠ c := Ae od hc
  have od1 : upd H c (.dK []) r = some (.dK (ds.map kR)) := by rw [Af ncr]; exact od
  refine .inl (.inr (.inr (.inl ⟨_, od1, fun o => ?_⟩)))
  have Hf : ∀ b u, b ≠ r -> H b = some u -> upd (upd H c (.dK [])) r (.frz o (.dK (ds.map kR))) b = some u := fun b u hb e => by
   rw [Af hb, Af (Ae e hc)]; exact e
  have ef : upd (upd H c (.dK [])) r (.frz o (.dK (ds.map kR))) r = some (.frz o (.dK (ds.map kR))) := Ac
  have ec : upd (upd H c (.dK [])) r (.frz o (.dK (ds.map kR))) c = some (.dK []) := by rw [Af (Ne.symm ncr), Ac]
  have len : ds.length = rule.length := by rw [<- ed]; simp
  generalize upd (upd H c (.dK [])) r (.frz o (.dK (ds.map kR))) = H0 at Hf ef ec ⊢
  refine Bh (G5 (ds.map kR)) (fun i σ H' => (∃ v2, σ = [some (.ref r), some (.ref c), v2]) /\ (∀ b u, b ≠ r -> H b = some u -> H' b = some u) /\ H' r = some (.frz o (.dK (ds.map kR))) /\
    ∃ es : List ((Str × List Str) × Addr), es.map (·.1) = rule.take i /\ H' c = some (.dK (es.map kR)) /\ ∀ x ∈ es, H x.2 = none /\ H' x.2 = some (lstO x.1.2))
   ⟨⟨_, rfl⟩, Hf, ef, [], rfl, ec, fun x hx => by cases hx⟩ (fun i σ H' _ q => q.2.2.1) ?_ ?_
  ·rintro i x σ H1 hx ⟨⟨v2, rfl⟩, S1, f1, es, ee, e1c, he⟩
   obtain ⟨kv, hi0, rfl⟩ := Ak hx
   obtain ⟨⟨e, la⟩, hi, rfl⟩ := Ak hi0
   have hi2 : rule[i]? = some e := by rw [<- ed, List.getElem?_map, hi]; rfl
   obtain ⟨_, h2⟩ := hd _ (List.mem_of_getElem? hi)
   have nla : la ≠ r := fun z => by rw [z, od] at h2; cases h2
   have nk := Ld ee hi2 nd
   have hv : valV (ds.map kR) (.inr e.1) = some (.ref la) := B5 (Ej ed nd) hi0
   refine ⟨.ref la, .inl ⟨_, .inr e.1, .inr ⟨o, f1⟩, rfl, hv.symm⟩, _, .inl (SqL.of (S1 _ _ nla h2)), fun lc hlc => ?_⟩
   have S3 := Same.upd (o := lstO e.2) hlc
   have et : upd H1 lc (lstO e.2) lc = some (lstO e.2) := Ac
   have nlr : lc ≠ r := (Ae f1 hlc).symm
   have hft : H lc = none := by
    cases q : H lc with
    | none => rfl
    | some u => rw [S1 _ _ nlr q] at hlc; cases hlc
   have ndt : c ≠ lc := Ae e1c hlc
   show Cq K (dVar 1) (dVar 2) (.ref lc) [some (.ref r), some (.ref c), some (.str e.1)] (upd H1 lc (lstO e.2)) _
   generalize upd H1 lc (lstO e.2) = H3 at S3 et ⊢
   refine ⟨_, DPut.k (k := .inr e.1) (S3 _ _ e1c) ?_, ?_⟩
   ·rw [List.length_map]
    have := N0 ee
    exact Nat.lt_of_le_of_lt (show es.length <= 100 by omega) (by decide)
   rw [Gz nk]
   refine ⟨⟨_, rfl⟩, fun b u hb e4 => ?_, ?_, es ++ [(e, lc)], E9 ee hi2, Ac, ?_⟩
   ·rw [Af (Ae e4 hc)]; exact S3 _ _ (S1 _ _ hb e4)
   ·rw [Af ncr]; exact S3 _ _ f1
   ·intro x hx
    rcases List.mem_append.mp hx with hx | hx
    ·obtain ⟨a1, a2⟩ := he x hx
     refine ⟨a1, ?_⟩
     rw [Af (fun z => by rw [z, e1c] at a2; cases a2)]
     exact S3 _ _ a2
    ·have : x = (e, lc) := by simpa using hx
     subst this
     exact ⟨hft, by rw [Af (Ne.symm ndt)]; exact et⟩
  ·rintro σ H1 ⟨⟨v2, rfl⟩, S1, f1, es, ee, e1c, he⟩
   rw [List.length_map, List.length_map, len, List.take_length] at ee
   refine .inr ⟨r, o, _, od1, f1, ?_⟩
   refine k _ c (fun b u e4 => ?_) ⟨es, ee, ⟨hc, ?_⟩, fun x hx => ⟨(he x hx).1, ?_⟩⟩
   ·by_cases hb : b = r
    ·subst hb; rw [Ac, <- od, e4]
    ·rw [Af hb]; exact S1 _ _ hb e4
   ·rw [Af (Ne.symm ncr)]; exact e1c
   ·rw [Af (fun z => by have := (he x hx).1; rw [z, od] at this; cases this)]; exact (he x hx).2
theorem Kh : ∀ (a : List (List Str)) (r : List Str) (k : Nat), numK k (a ++ [r]) = numK k a ++ [(r.map .inr, .int ((k + a.length : Nat) : Int))]
 | [], r, k => rfl
 | b :: a, r, k => by
  rw [List.cons_append, numK, Kh a r (k + 1), numK, List.length_cons, List.cons_append, show k + 1 + a.length = k + (a.length + 1) by omega]
theorem Kg : ∀ (a : List (List Str)) (k : Nat), (numK k a).map (·.1) = a.map fun r => r.map (Sum.inr : Str -> Key)
 | [], _ => rfl
 | b :: a, k => by rw [numK, List.map_cons, List.map_cons, Kg a]
theorem Mx : ∀ (a : List (List Str)) (k : Nat), (numK k a).length = a.length
 | [], _ => rfl
 | b :: a, k => by rw [numK, List.length_cons, List.length_cons, Mx a]
theorem Uf {a b : List Str} (h : a.map (Sum.inr : Str -> Key) = b.map (Sum.inr : Str -> Key)) : a = b := (List.map_inj_right (fun x y e => by injection e)).mp h
theorem Yz (r : List Str) : tupO r = .tup ((r.map (Sum.inr : Str -> Key)).map kV) := by
 rw [List.map_map]
 rfl
theorem Iv {α : Type} {l : List α} {i : Nat} {x : α} (nd : l.Nodup) (h : l[i]? = some x) : ¬ x ∈ l.take i := by
 intro hm
 obtain ⟨j, hj, e⟩ := List.mem_iff_getElem.mp hm
 rw [List.length_take] at hj
 rw [List.getElem_take] at e
 have hi := Al h
 rw [List.getElem?_eq_getElem hi] at h
 have := (List.getElem_inj (i := j) (j := i) (h₀ := by omega) (h₁ := hi) nd).mp (by rw [e]; exact (Option.some.inj h).symm)
 omega
theorem am0 {f : Addr} {fd : FuncData} (Z : Ar K t) (F : FunD K "numbers_by_settings" "numbers_by_settings" s_za f fd .none) (T : Tab P w K mg base 0 (gb_0 K t) bl) : FnOk P w K mg base CX0 1 f fd P_za (V0 K t) := by
 refine F.okW0 at5 ax6 T (aq7 K t) (fun vs H Q E h => ?_) (fun vs H Q E h => ?_)
 ·obtain ⟨l, rows, rfl, _⟩ := h; rfl
 ·obtain ⟨l, rows, rfl, ⟨ds, ed, ⟨_, ol⟩, hd⟩, nd, hl, k⟩ := h
  intro n hn
  have ql := SqL.of (K := K) ol
  have len : (Ds 0 (ds.map fun x => V.ref x.2)).length = rows.length := by rw [Bz, <- ed]; simp
  refine .inr (.inl ⟨⟨_, (Same.upd hn).seqL ql⟩, ?_⟩)
  refine Pw (Qt (ds.map fun x => V.ref x.2)) (fun i σ H' => (∃ v2 v3, σ = [some (.ref l), some (.ref n), v2, v3]) /\ Same H H' /\ H' n = some (.dT (numK 0 (rows.take i))))
   ⟨⟨_, _, rfl⟩, Same.upd hn, Ac⟩ (fun i σ H' _ q => q.2.1.seqL ql) ?_ ?_
  ·rintro i x y T σ H1 hxy hT ⟨⟨v2, v3, rfl⟩, S1, e1⟩
   have hi' := Al hxy
   rw [Bz, List.length_map] at hi'
   obtain ⟨⟨r, b⟩, hi⟩ : ∃ z, ds[i]? = some z := ⟨_, List.getElem?_eq_getElem hi'⟩
   have := Cm (k := 0) (xs := ds.map fun x => V.ref x.2) (i := i) (x := .ref b) (by rw [List.getElem?_map, hi]; rfl)
   rw [this] at hxy
   obtain ⟨rfl, rfl⟩ : V.int ((0 + i : Nat) : Int) = x /\ V.ref b = y := by simpa using hxy
   have hi2 : rows[i]? = some r := by rw [<- ed, List.getElem?_map, hi]; rfl
   have hb := (hd _ (List.mem_of_getElem? hi)).2
   have ST := Same.upd (o := .tup [.int ((0 + i : Nat) : Int), .ref b]) hT
   refine ⟨_, SqT.of Ac, rfl, ?_⟩
   generalize upd H1 T (.tup [.int ((0 + i : Nat) : Int), .ref b]) = H2 at ST ⊢
   have S2 := S1.trans ST
   have hb2 := S2 _ _ hb
   rw [Yz] at hb2
   refine ⟨_, DPut.t (ST _ _ e1) hb2 ?_, ⟨_, _, rfl⟩, S2.set hn, ?_⟩
   ·rw [Mx, List.length_take]
    exact Nat.lt_of_le_of_lt (show min i rows.length <= 256 by omega) (by decide)
   ·rw [Ac, Fg, List.take_add_one, hi2, Option.toList_some, Kh, List.length_take, Nat.min_eq_left (Nat.le_of_lt (Al hi2))]
    refine B2 ?_
    rw [Kg]
    intro hm
    obtain ⟨r2, h1, h2⟩ := List.mem_map.mp hm
    rw [Uf h2] at h1
    exact Iv nd hi2 h1
  ·rintro σ H1 ⟨⟨v2, v3, rfl⟩, S1, e1⟩
   rw [len, List.take_length] at e1
   exact .inl (k H1 n S1 ⟨hn, e1⟩)
theorem cat1 {H : Hp} {aa p : Addr} {a : List Str} {z : Str} {Q : VK} (ha : H aa = some (tupO a)) (hp : H p = some (.tup [.str z])) (hl : a.length <= 100) (k : ∀ q H', Same H H' -> H' q = some (tupO (a ++ [z])) -> (H q = none \/ q = p) -> Q (.ref q) H') : Aj K (.ref aa) (.ref p) H Q := by
 cases a with
 | nil => exact .inr (.inr ⟨aa, p, _, rfl, rfl, SqT.of ha, SqT.of hp, k p H (Same.refl _) hp (.inr rfl)⟩)
 | cons y a =>
  refine .inr (.inl ⟨aa, p, _, _, rfl, rfl, SqT.of ha, SqT.of hp, by simp, ?_, (fun e => by cases e), fun _ q hq => ?_⟩)
  ·rw [List.length_map]
   exact Nat.le_trans (show (y :: a).length + 1 <= 101 by omega) (by decide)
  ·refine k q _ (Same.upd hq) ?_ (.inl hq)
   rw [Ac, tupO, List.map_append]
   rfl
theorem Q8 {α : Type} {ok : Addr -> Prop} {H : Hp} {f : α -> HO} {es : List (α × Addr)} {e : α} {a : Addr} (h : ∀ x ∈ es, ok x.2 /\ H x.2 = some (f x.1)) (h1 : ok a) (h2 : H a = some (f e)) : ∀ x ∈ es ++ [(e, a)], ok x.2 /\ H x.2 = some (f x.1) := by
 intro x hx
 rcases List.mem_append.mp hx with hx | hx
 ·exact h x hx
 ·have : x = (e, a) := by simpa using hx
  subst this
  exact ⟨h1, h2⟩
theorem W8 {α : Type} {ok : Addr -> Prop} {H H' : Hp} {f : α -> HO} {es : List (α × Addr)} (S : Same H H') (h : ∀ x ∈ es, ok x.2 /\ H x.2 = some (f x.1)) : ∀ x ∈ es, ok x.2 /\ H' x.2 = some (f x.1) := fun x hx => ⟨(h x hx).1, S _ _ (h x hx).2⟩
theorem Sk {rows : List (List Str)} {j : Nat} {r : List Str} {x : Str × List Str} (h : rows[j]? = some r) : Cg (rows.take (j + 1)) x = Cg (rows.take j) x ++ x.2.map fun z => r ++ [z] := by
 unfold Cg
 rw [List.take_add_one, h, Option.toList_some, List.flatMap_append]
 simp
theorem Oc {E : EK} {H0 H : Hp} {aa ta : Addr} {a : List Str} {l : List Str} {σ : St} {R : Hp -> Addr -> Prop} (hσ : ∃ v, σ = [v, some (.ref aa)]) (S0 : Same H0 H) (ha : H aa = some (tupO a)) (ht : H ta = some (tupO l)) (hl : a.length <= 100) (hl2 : l.length <= 8)
  (k : ∀ D H', Same H H' -> H D = none -> ∀ fs : List (List Str × Addr), fs.map (·.1) = l.map (fun z => a ++ [z]) -> H' D = some (.lst (fs.map fun x => .ref x.2)) -> (∀ x ∈ fs, H0 x.2 = none /\ H' x.2 = some (tupO x.1)) -> R H' D) :
  ∀ D, H D = none -> CmpW (Itt K ta) (gdN 0) dYes (dBin (Aj K) (dVar 1) (dTup (Aa (dVar 0) dNil))) D (fun H' => R H' D) σ (upd H D (.lst [])) E := by
 intro D hD
 refine B8 (Ws (l.map V.str)) (fun m σ H' => (∃ v, σ = [v, some (.ref aa)]) /\ Same H H' /\ ∃ fs : List (List Str × Addr), fs.map (·.1) = (l.take m).map (fun z => a ++ [z]) /\ H' D = some (.lst (fs.map fun x => .ref x.2)) /\ ∀ x ∈ fs, H0 x.2 = none /\ H' x.2 = some (tupO x.1))
  ⟨hσ, Same.upd hD, [], rfl, Ac, fun x hx => by cases hx⟩ (fun m σ H' _ q => q.2.1.seqT (SqT.of ht)) ?_ ?_
 ·rintro m x σ H1 hx ⟨⟨v, rfl⟩, S1, fs, ef, eD, hf⟩
  obtain ⟨z, hz, rfl⟩ := Ak hx
  refine ⟨(show 1 <= sizeLine by decide), fun p hp => ?_⟩
  have Sp := Same.upd (o := .tup [.str z]) hp
  have ep : upd H1 p (.tup [.str z]) p = some (.tup [.str z]) := Ac
  show Aj K (.ref aa) (.ref p) (upd H1 p (.tup [.str z])) _
  generalize upd H1 p (.tup [.str z]) = H2 at Sp ep ⊢
  refine cat1 (Sp _ _ (S1 _ _ ha)) ep hl fun q H3 S3 eq nq => ?_
  have S03 := S0.trans (S1.trans (Sp.trans S3))
  have hq0 : H0 q = none := by
   rcases nq with nq | rfl
   ·exact (S0.trans (S1.trans Sp)).free nq
   ·exact (S0.trans S1).free hp
  have qD : q ≠ D := by
   rcases nq with nq | rfl
   ·exact (Ae (Sp _ _ eD) nq).symm
   ·exact (Ae eD hp).symm
  have eD3 := S3 _ _ (Sp _ _ eD)
  refine ⟨_, eD3, ?_, ⟨_, rfl⟩, (S1.trans (Sp.trans S3)).set hD, fs ++ [(a ++ [z], q)], ?_, ?_, ?_⟩
  ·rw [List.length_map]
   have := congrArg List.length ef
   rw [List.length_map, List.length_map, List.length_take] at this
   exact Nat.lt_of_le_of_lt (show fs.length <= 8 by omega) (by decide)
  ·rw [List.map_append, ef, A7 hz]; rfl
  ·rw [Ac, List.map_append]; rfl
  ·have hf3 : ∀ x ∈ fs ++ [(a ++ [z], q)], H0 x.2 = none /\ H3 x.2 = some (tupO x.1) := Q8 (ok := fun a => H0 a = none) (f := tupO) (W8 (ok := fun a => H0 a = none) (f := tupO) (Sp.trans S3) hf) hq0 eq
   intro x hx
   refine ⟨(hf3 x hx).1, ?_⟩
   rw [Af (fun e => by have := (hf3 x hx).2; rw [e, eD3] at this; cases this)]
   exact (hf3 x hx).2
 ·rintro σ H1 ⟨_, S1, fs, ef, eD, hf⟩
  rw [List.length_map, List.take_length] at ef
  exact k D H1 S1 hD fs ef eD hf
theorem am1 {f : Addr} {fd : FuncData} (Z : Ar K t) (F : FunD K "settings_of_choices" "settings_of_choices" s_zb f fd .none) (T : Tab P w K mg base 0 (gb_0 K t) bl) : FnOk P w K mg base CX0 1 f fd P_zb (V1 K t) := by
 refine F.okW0 at6 ax7 T (aq8 K t) (fun vs H Q E h => ?_) (fun vs H Q E h => ?_)
 ·obtain ⟨d, sw, rfl, _⟩ := h; rfl
 ·obtain ⟨d, sw, rfl, ⟨ds, ed, ⟨_, od⟩, hd⟩, hw, k⟩ := h
  refine ⟨(show 0 <= sizeLine by decide), fun t0 h0 => ⟨(show 1 <= sizeLine by decide), fun l0 hl0 => ?_⟩⟩
  have St := Same.upd (o := .tup []) h0
  have Sl := Same.upd (o := .lst [.ref t0]) hl0
  have ft : H t0 = none := h0
  have fl : H l0 = none := St.free hl0
  have et : upd (upd H t0 (.tup [])) l0 (.lst [.ref t0]) t0 = some (tupO []) := Sl _ _ Ac
  have el : upd (upd H t0 (.tup [])) l0 (.lst [.ref t0]) l0 = some (.lst [.ref t0]) := Ac
  have S0 := St.trans Sl
  generalize upd (upd H t0 (.tup [])) l0 (.lst [.ref t0]) = H0 at S0 et el ⊢
  have od0 := S0 _ _ od
  refine .inr (.inr (.inl ⟨_, od0, fun o => ?_⟩))
  have len : ds.length = sw.length := by rw [<- ed]; simp
  have kf : Kp (fresh H) H0 (fresh H) (upd H0 d (.frz o (.dK (ds.map kR)))) := Kp.off (Em od)
  have ef : upd H0 d (.frz o (.dK (ds.map kR))) d = some (.frz o (.dK (ds.map kR))) := Ac
  have ht0 : ∀ x ∈ ds, upd H0 d (.frz o (.dK (ds.map kR))) x.2 = some (tupO x.1.2) := fun x hx => by
   rw [Af (fun e => by have := (hd x hx).2; rw [e, od] at this; cases this)]
   exact S0 _ _ (hd x hx).2
  have T0 : TupsAt (fresh H) (upd H0 d (.frz o (.dK (ds.map kR)))) l0 (Ah (sw.take 0)) := ⟨[([], t0)], rfl, kf _ _ ⟨fl, el⟩, fun x hx => by
   have : x = ([], t0) := by simpa using hx
   subst this
   exact kf _ _ ⟨ft, et⟩⟩
  have frees : ∀ {H' : Hp} {b : Addr}, Same (upd H0 d (.frz o (.dK (ds.map kR)))) H' -> H' b = none -> H b = none := fun {H' b} S e => by
   have e1 := S.free e
   have nb : b ≠ d := fun z => by rw [z, ef] at e1; cases e1
   rw [Af nb] at e1
   exact S0.free e1
  generalize hHf : upd H0 d (.frz o (.dK (ds.map kR))) = Hf at kf ef ht0 T0 frees ⊢
  refine Bh (G5 (ds.map kR)) (fun i σ H' => (∃ l v2 v3 v4, σ = [some (.ref d), some (.ref l), v2, v3, v4] /\ TupsAt (fresh H) H' l (Ah (sw.take i))) /\ Same Hf H') ⟨⟨_, _, _, _, rfl, T0⟩, Same.refl _⟩ (fun i σ H' _ q => q.2 _ _ ef) ?_ ?_
  ·rintro i x σ H1 hx ⟨⟨l, v2, v3, v4, rfl, ⟨es, ee, ⟨fl1, el1⟩, he⟩⟩, S1⟩
   obtain ⟨kv, hi0, rfl⟩ := Ak hx
   obtain ⟨⟨e, ta⟩, hi, rfl⟩ := Ak hi0
   have hi2 : sw[i]? = some e := by rw [<- ed, List.getElem?_map, hi]; rfl
   have hta := ht0 _ (List.mem_of_getElem? hi)
   have hoke := hw.sets e (List.mem_of_getElem? hi2)
   have hv : valV (ds.map kR) (.inr e.1) = some (.ref ta) := B5 (Ej ed hw.2.2.1) hi0
   refine ⟨by decide, fun l2 hl2 => .inl ⟨⟨_, (Same.upd hl2).seqL (SqL.of el1)⟩, ?_⟩⟩
   have f2 : H l2 = none := frees S1 hl2
   have Sl2 := Same.upd (o := .lst []) hl2
   have rl : ∀ r ∈ Ah (sw.take i), r.length <= 100 := fun r hr => by
    have h1 := (Lq (sw := sw.take i) (fun x hx => hw.sets x (List.mem_of_mem_take hx))).2.1 r hr
    rw [h1, List.length_take]
    have := hw.2.1
    omega
   have lenr : es.length = (Ah (sw.take i)).length := by rw [<- ee]; simp
   have few : (Ah (sw.take i)).length <= 256 := by rw [Ih]; exact Nat.le_trans (Kk hw i) hw.2.2.2.2
   refine Bh (A0 (es.map fun x => V.ref x.2)) (fun j σ H' => (∃ v4, σ = [some (.ref d), some (.ref l), some (.str e.1), some (.ref l2), v4]) /\ Same H1 H' /\ ∃ fs : List (List Str × Addr), fs.map (·.1) = Cg ((Ah (sw.take i)).take j) e /\
     H' l2 = some (.lst (fs.map fun x => .ref x.2)) /\ ∀ x ∈ fs, H x.2 = none /\ H' x.2 = some (tupO x.1))
    ⟨⟨_, rfl⟩, Sl2, [], rfl, Ac, fun x hx => by cases hx⟩ (fun j σ H' _ q => q.2.1.seqL (SqL.of el1)) ?_ ?_
   ·rintro j y σ H2 hy ⟨⟨v4, rfl⟩, S2, fs, efs, e2l, hf⟩
    obtain ⟨⟨r, ra⟩, hj, rfl⟩ := Ak hy
    have hj2 : (Ah (sw.take i))[j]? = some r := by rw [<- ee, List.getElem?_map, hj]; rfl
    obtain ⟨_, hra⟩ := he _ (List.mem_of_getElem? hj)
    have S12 := S1.trans S2
    refine ⟨.inl ⟨rfl, _, SqL.of e2l⟩, .ref ta, .inl ⟨_, .inr e.1, .inr ⟨o, S12 _ _ ef⟩, rfl, hv.symm⟩, .inr (.inl ⟨⟨_, SqT.of (S12 _ _ hta)⟩, ?_⟩)⟩
    refine Oc (H0 := H1) ⟨_, rfl⟩ S2 (S2 _ _ hra) (S12 _ _ hta) (rl r (List.mem_of_getElem? hj2)) (Nat.le_trans hoke.2.2 (by decide)) fun D H3 S3 hD gs eg eD hg => ?_
    have e3l := S3 _ _ e2l
    have lfs : fs.length <= 1024 := by
     have := congrArg List.length efs
     rw [List.length_map, Kt, List.length_take] at this
     have h4 := hoke.2.2
     have : min j (Ah (sw.take i)).length * e.2.length <= 256 * 4 := Nat.mul_le_mul (by omega) h4
     omega
    have lgs : gs.length <= 4 := by
     have h1 : gs.length = e.2.length := by simpa using congrArg List.length eg
     have h2 : e.2.length <= 4 := hoke.2.2
     omega
    refine ⟨l2, D, _, _, rfl, rfl, e3l, eD, ?_, ⟨_, rfl⟩, (S2.trans S3).set hl2, fs ++ gs, ?_, ?_, ?_⟩
    ·rw [List.length_map, List.length_map]
     exact Nat.le_trans (show fs.length + gs.length <= 1028 by omega) (by decide)
    ·rw [List.map_append, efs, eg, Sk hj2]
    ·rw [Ac, List.map_append]
    ·have h3 : ∀ x ∈ fs ++ gs, H x.2 = none /\ H3 x.2 = some (tupO x.1) := fun x hx => by
      rcases List.mem_append.mp hx with hx | hx
      ·exact ⟨(hf x hx).1, S3 _ _ (hf x hx).2⟩
      ·exact ⟨frees S1 (hg x hx).1, (hg x hx).2⟩
     intro x hx
     refine ⟨(h3 x hx).1, ?_⟩
     rw [Af (fun e => by have := (h3 x hx).2; rw [e, e3l] at this; cases this)]
     exact (h3 x hx).2
   ·rintro σ H2 ⟨⟨v4, rfl⟩, S2, fs, efs, e2l, hf⟩
    rw [List.length_map, lenr, List.take_length] at efs
    refine .inl ⟨⟨_, _, _, _, rfl, fs, ?_, ⟨f2, e2l⟩, hf⟩, S1.trans S2⟩
    rw [efs]
    exact (B9 hi2 _ _).symm
  ·rintro σ H1 ⟨⟨l, v2, v3, v4, rfl, T1⟩, S1⟩
   rw [List.length_map, List.length_map, len, List.take_length] at T1
   refine .inr ⟨d, o, _, od0, S1 _ _ ef, ?_⟩
   exact k _ l (S0.trans (Same.thaw od0 (hHf ▸ S1))) (T1.mono (Kp.off (Em od)))
def Off (d : Addr) (H H' : Hp) : Prop := ∀ b u, b ≠ d -> H b = some u -> H' b = some u
theorem Off.up {d : Addr} {H H1 H2 : Hp} (h : Off d H H1) (S : Same H1 H2) : Off d H H2 := fun b u n e => S _ _ (h b u n e)
theorem Off.set {d a : Addr} {o : HO} {H H1 : Hp} (h : Off d H H1) (e : H a = none) : Off d H (upd H1 a o) := fun b u n q => by rw [Af (Ae q e)]; exact h b u n q
theorem Off.free {d b : Addr} {H H1 : Hp} (h : Off d H H1) (n : b ≠ d) (e : H1 b = none) : H b = none := by
 cases q : H b with
 | none => rfl
 | some u => rw [h b u n q] at e; cases e
theorem Off.thaw {d : Addr} {kvs : List (Key × V)} {H H1 : Hp} (h : Off d H H1) (e : H d = some (.dK kvs)) : Same H (upd H1 d (.dK kvs)) := fun b u q => by
 by_cases n : b = d
 ·subst n; rw [Ac, <- e, q]
 ·rw [Af n]; exact h b u n q
theorem J2 (p : Nat) (z : Str) : ∀ (a : List (List Str)) (r : List Str) (k : Nat), havM p z k (a ++ [r]) = havM p z k a ++ (if r[p]? = some z then [k + a.length] else [])
 | [], r, k => by
  rw [List.nil_append, havM, havM, havM, List.nil_append]
  rfl
 | b :: a, r, k => by
  rw [List.cons_append, havM, havM, J2 p z a r (k + 1), List.length_cons, show k + 1 + a.length = k + (a.length + 1) by omega]
  split <;> simp
theorem K6 (p : Nat) (z : Str) : ∀ (a : List (List Str)) (k n : Nat), n ∈ havM p z k a -> n < k + a.length
 | [], k, n, h => by cases h
 | b :: a, k, n, h => by
  rw [havM] at h
  rw [List.length_cons]
  split at h
  ·rcases List.mem_cons.mp h with h | h
   ·omega
   ·have := K6 p z a (k + 1) n h; omega
  ·have := K6 p z a (k + 1) n h; omega
theorem Hi (p : Nat) (z : Str) : ∀ (a : List (List Str)) (k : Nat), (havM p z k a).length <= a.length
 | [], k => Nat.le_refl _
 | b :: a, k => by
  rw [havM, List.length_cons]
  split
  ·rw [List.length_cons]; have := Hi p z a (k + 1); omega
  ·have := Hi p z a (k + 1); omega
theorem Xa {α : Type} {ds : List (α × Addr)} {i : Nat} {x y : V} (h : (Ds 0 (ds.map fun x => V.ref x.2))[i]? = some (x, y)) : ∃ z, ds[i]? = some z /\ x = .int (i : Int) /\ y = .ref z.2 := by
 have hi := Al h
 rw [Bz, List.length_map] at hi
 refine ⟨_, List.getElem?_eq_getElem hi, ?_⟩
 have := Cm (k := 0) (xs := ds.map fun x => V.ref x.2) (i := i) (x := .ref ds[i].2) (by rw [List.getElem?_map, List.getElem?_eq_getElem hi]; rfl)
 rw [this, Nat.zero_add] at h
 obtain ⟨rfl, rfl⟩ : V.int (i : Int) = x /\ V.ref ds[i].2 = y := by simpa using h
 exact ⟨rfl, rfl⟩
theorem Z6 {E : EK} {H : Hp} {l : Addr} {ds : List (List Str × Addr)} {rows : List (List Str)} {i : Nat} {z : Str} {R : Hp -> Addr -> Prop} (ed : ds.map (·.1) = rows) (ol : H l = some (.lst (ds.map fun x => .ref x.2))) (hd : ∀ x ∈ ds, H x.2 = some (tupO x.1)) (hr : ∀ r ∈ rows, i < r.length) (few : rows.length <= 256)
  (k : ∀ D H', Same H H' -> H D = none -> H' D = some (.lst ((havM i z 0 rows).map fun n : Nat => V.int (n : Int))) -> R H' D) :
  ∀ D, H D = none -> CmpW (Ite K l) (gdT K 2 [gdN 0, gdN 1]) (dTst (dBin (rEqD K false) (dBin (rIxD K) (dVar 1) (dVar 2)) (dVar 3))) (dVar 0) D (fun H' => R H' D) [none, none, some (.int (i : Int)), some (.str z)] (upd H D (.lst [])) E := by
 intro D hD
 have len : (Ds 0 (ds.map fun x => V.ref x.2)).length = rows.length := by rw [Bz, <- ed]; simp
 refine Wz (Qt (ds.map fun x => V.ref x.2)) (fun m σ H' => (∃ v0 v1, σ = [v0, v1, some (.int (i : Int)), some (.str z)]) /\ Same H H' /\ H' D = some (.lst ((havM i z 0 (rows.take m)).map fun n : Nat => V.int (n : Int))))
  ⟨⟨_, _, rfl⟩, Same.upd hD, Ac⟩ (fun m σ H' _ q => q.2.1.seqL (SqL.of ol)) ?_ ?_
 ·rintro m x y T σ H1 hxy hT ⟨⟨v0, v1, rfl⟩, S1, eD⟩
  obtain ⟨⟨r, b⟩, hm, rfl, rfl⟩ := Xa hxy
  have hm2 : rows[m]? = some r := by rw [<- ed, List.getElem?_map, hm]; rfl
  have hb := hd _ (List.mem_of_getElem? hm)
  have hi := hr r (List.mem_of_getElem? hm2)
  have ST := Same.upd (o := .tup [.int (m : Int), .ref b]) hT
  refine ⟨_, SqT.of Ac, rfl, ?_⟩
  show dTst _ [some (.int (m : Int)), some (.ref b), some (.int (i : Int)), some (.str z)] (upd H1 T (.tup [.int (m : Int), .ref b])) _ _
  generalize upd H1 T (.tup [.int (m : Int), .ref b]) = H2 at ST ⊢
  have S2 := S1.trans ST
  have eD2 := ST _ _ eD
  have mm : min m rows.length = m := Nat.min_eq_left (Nat.le_of_lt (Al hm2))
  have he : havM i z 0 (rows.take (m + 1)) = havM i z 0 (rows.take m) ++ (if r[i]? = some z then [m] else []) := by
   rw [List.take_add_one, hm2, Option.toList_some, J2, List.length_take, mm, Nat.zero_add]
  refine ⟨_, _, .inr (SqT.of (S2 _ _ hb)), Aq (j := i) (by rw [List.getElem?_map, List.getElem?_eq_getElem hi]; rfl), ?_⟩
  rw [List.getElem?_eq_getElem hi] at he
  show if decide (r[i] = z) = true then _ else _
  refine ite2 (fun e => ?_) (fun e => ?_)
  ·have e : r[i] = z := by simpa using e
   rw [if_pos (by rw [e])] at he
   refine ⟨_, eD2, ?_, ⟨_, _, rfl⟩, S2.set hD, ?_⟩
   ·rw [List.length_map]
    have h1 := Hi i z (rows.take m) 0
    rw [List.length_take] at h1
    exact Nat.lt_of_le_of_lt (show (havM i z 0 (rows.take m)).length <= 256 by omega) (by decide)
   ·rw [Ac, he, List.map_append]; rfl
  ·have e : ¬ r[i] = z := by simpa using e
   rw [if_neg (by simpa using e), List.append_nil] at he
   exact ⟨⟨_, _, rfl⟩, S2, by rw [he]; exact eD2⟩
 ·rintro σ H1 ⟨_, S1, eD⟩
  rw [len, List.take_length] at eD
  exact k D H1 S1 hD eD
theorem Si {rows : List (List Str)} {i m : Nat} {l : List Str} {z : Str} (hz : l[m]? = some z) (nd : l.Nodup) :
  putK ((l.take m).map fun z => ((.inr z : Key), V.int (Cz rows i z))) (.inr z) (.int (Cz rows i z)) = (l.take (m + 1)).map fun z => ((.inr z : Key), V.int (Cz rows i z)) := by
 rw [Fg, A7 hz]
 refine B2 ?_
 rw [List.map_map]
 intro hm
 obtain ⟨y, hy, e⟩ := List.mem_map.mp hm
 have e : y = z := by injection e
 subst e
 exact Iv nd hz hy
theorem am5 {f : Addr} {fd : FuncData} (Z : Ar K t) (F : FunD K "sets_of_settings" "sets_of_settings" s_zf f fd .none) (T : Tab P w K mg base 1 (gb_1 K t) bl) : FnOk P w K mg base CX0 2 f fd P_zf (V2 K t) := by
 refine F.okW0 au0 ay1 T (ar2 K t) (fun vs H Q E h => ?_) (fun vs H Q E h => ?_)
 ·obtain ⟨d, l, sw, rfl, _⟩ := h; rfl
 ·obtain ⟨d, l, sw, rfl, ⟨ds, ed, ⟨_, od⟩, hd⟩, ⟨ts, et, ⟨_, ol⟩, htp⟩, hw, k⟩ := h
  intro s hs
  have nds : d ≠ s := Ae od hs
  have nld : l ≠ d := fun e => by rw [e, od] at ol; cases ol
  have od1 : upd H s (.dK []) d = some (.dK (ds.map kR)) := by rw [Af nds]; exact od
  refine .inl (.inr (.inl ⟨_, od1, fun o => ?_⟩))
  have O0 : Off d H (upd (upd H s (.dK [])) d (.frz o (.dK (ds.map kR)))) := fun b u n e => by rw [Af n, Af (Ae e hs)]; exact e
  have ef : upd (upd H s (.dK [])) d (.frz o (.dK (ds.map kR))) d = some (.frz o (.dK (ds.map kR))) := Ac
  have es0 : upd (upd H s (.dK [])) d (.frz o (.dK (ds.map kR))) s = some (.dK []) := by rw [Af (Ne.symm nds), Ac]
  have len : (Ds 0 ((ds.map kR).map fun kv => kV kv.1)).length = sw.length := by rw [Bz, <- ed]; simp
  have few := hw.len
  have rlen := (Lq hw.sets).2.1
  show ForW (Itde d o (ds.map kR)) _ _ _ [some (.ref d), some (.ref l), some (.ref s), none, none, none, none] _
  generalize upd (upd H s (.dK [])) d (.frz o (.dK (ds.map kR))) = H0 at O0 ef es0 ⊢
  refine Pw (Wr (ds.map kR)) (fun i σ H' => (∃ v3 v4 v5 v6, σ = [some (.ref d), some (.ref l), some (.ref s), v3, v4, v5, v6]) /\ Off d H H' /\ H' d = some (.frz o (.dK (ds.map kR))) /\
    ∃ es : List ((Str × List Str) × Addr), es.map (·.1) = sw.take i /\ H' s = some (.dK (es.map kR)) /\ ∀ j x, es[j]? = some x -> H x.2 = none /\ H' x.2 = some (setO (Ah sw) j x.1.2))
   ⟨⟨_, _, _, _, rfl⟩, O0, ef, [], rfl, es0, fun j x hx => by simp at hx⟩ (fun i σ H' _ q => q.2.2.1) ?_ ?_
  ·rintro i x y T σ H1 hxy hT ⟨⟨v3, v4, v5, v6, rfl⟩, O1, f1, es, ee, e1s, he⟩
   have hi' := Al hxy
   rw [len] at hi'
   have hids : i < ds.length := by rw [<- ed, List.length_map] at hi'; exact hi'
   obtain ⟨⟨e, ta⟩, hi⟩ : ∃ z, ds[i]? = some z := ⟨_, List.getElem?_eq_getElem hids⟩
   have hxy2 := Cm (k := 0) (xs := (ds.map kR).map fun kv => kV kv.1) (i := i) (x := .str e.1) (by rw [List.getElem?_map, List.getElem?_map, hi]; rfl)
   rw [hxy2, Nat.zero_add] at hxy
   obtain ⟨rfl, rfl⟩ : V.int (i : Int) = x /\ V.str e.1 = y := by simpa using hxy
   have hi2 : sw[i]? = some e := by rw [<- ed, List.getElem?_map, hi]; rfl
   have hta := (hd _ (List.mem_of_getElem? hi)).2
   have nta : ta ≠ d := fun z => by rw [z, od] at hta; cases hta
   have hoke := hw.sets e (List.mem_of_getElem? hi2)
   have hv : valV (ds.map kR) (.inr e.1) = some (.ref ta) := B5 (Ej ed hw.2.2.1) (by rw [List.getElem?_map, hi]; rfl)
   have nk := Ld ee hi2 hw.2.2.1
   have les : es.length = i := by
    have := congrArg List.length ee
    rw [List.length_map, List.length_take] at this
    omega
   have ST := Same.upd (o := .tup [.int (i : Int), .str e.1]) hT
   refine ⟨_, SqT.of Ac, rfl, ?_⟩
   show dSeq _ _ _ [some (.ref d), some (.ref l), some (.ref s), some (.int (i : Int)), some (.str e.1), v5, v6] (upd H1 T (.tup [.int (i : Int), .str e.1]))
   generalize upd H1 T (.tup [.int (i : Int), .str e.1]) = H2 at ST ⊢
   have O2 := O1.up ST
   have f2 := ST _ _ f1
   have e2s := ST _ _ e1s
   intro q hq
   have nqd : q ≠ d := (Ae f2 hq).symm
   have nqs : q ≠ s := (Ae e2s hq).symm
   have fq : H q = none := O2.free nqd hq
   have Sq := Same.upd (o := .dK []) hq
   have eq : upd H2 q (.dK []) q = some (.dK []) := Ac
   refine .inl ?_
   show Cq K (dVar 2) (dVar 4) (.ref q) [some (.ref d), some (.ref l), some (.ref s), some (.int (i : Int)), some (.str e.1), v5, v6] (upd H2 q (.dK [])) _
   generalize upd H2 q (.dK []) = H3 at Sq eq ⊢
   refine ⟨_, DPut.k (k := .inr e.1) (Sq _ _ e2s) ?_, ?_⟩
   ·rw [List.length_map]
    have := hw.2.1
    exact Nat.lt_of_le_of_lt (show es.length <= 5 by omega) (by decide)
   rw [Gz nk]
   have O4 : Off d H (upd H3 s (.dK ((es ++ [(e, q)]).map kR))) := (O2.up Sq).set hs
   have f4 : upd H3 s (.dK ((es ++ [(e, q)]).map kR)) d = some (.frz o (.dK (ds.map kR))) := by rw [Af nds]; exact Sq _ _ f2
   have e4s : upd H3 s (.dK ((es ++ [(e, q)]).map kR)) s = some (.dK ((es ++ [(e, q)]).map kR)) := Ac
   have e4q : upd H3 s (.dK ((es ++ [(e, q)]).map kR)) q = some (setO (Ah sw) i (e.2.take 0)) := by rw [Af nqs]; exact eq
   have he4 : ∀ j x, es[j]? = some x -> H x.2 = none /\ upd H3 s (.dK ((es ++ [(e, q)]).map kR)) x.2 = some (setO (Ah sw) j x.1.2) /\ x.2 ≠ q /\ x.2 ≠ s := fun j x hx => by
    obtain ⟨a1, a2⟩ := he j x hx
    have b1 := Ae (ST _ _ a2) hq
    have b2 : x.2 ≠ s := fun z => by
     rw [z, e1s] at a2
     unfold setO at a2
     have a3 : es.map kR = x.1.2.map fun z => ((.inr z : Key), V.int (Cz (Ah sw) j z)) := by injection (Option.some.inj a2)
     have m1 : kR x ∈ es.map kR := List.mem_map_of_mem (List.mem_of_getElem? hx)
     rw [a3] at m1
     obtain ⟨y, _, hy⟩ := List.mem_map.mp m1
     injection hy with _ hy
     cases hy
    refine ⟨a1, ?_, b1, b2⟩
    rw [Af b2]; exact Sq _ _ (ST _ _ a2)
   generalize upd H3 s (.dK ((es ++ [(e, q)]).map kR)) = H4 at O4 f4 e4s e4q he4 ⊢
   have nd4 : (((es ++ [(e, q)]).map kR).map (·.1)).Nodup := Ej (E9 ee hi2) (by rw [List.map_take]; exact hw.2.2.1.sublist (List.take_sublist _ _))
   have hq4 : valV ((es ++ [(e, q)]).map kR) (.inr e.1) = some (.ref q) := B5 (i := es.length) nd4 (by rw [List.getElem?_map, List.getElem?_append_right (Nat.le_refl _), Nat.sub_self]; rfl)
   refine ⟨.ref ta, .inl ⟨_, .inr e.1, .inr ⟨o, f4⟩, rfl, hv.symm⟩, .inr (.inl ⟨⟨_, SqT.of (O4 _ _ nta hta)⟩, ?_⟩)⟩
   refine Bh (Ws (e.2.map V.str)) (fun m σ H' => (∃ v5 v6, σ = [some (.ref d), some (.ref l), some (.ref s), some (.int (i : Int)), some (.str e.1), v5, v6]) /\ Off d H H' /\ H' d = some (.frz o (.dK (ds.map kR))) /\ H' s = some (.dK ((es ++ [(e, q)]).map kR)) /\
     H' q = some (setO (Ah sw) i (e.2.take m)) /\ ∀ j x, es[j]? = some x -> H' x.2 = some (setO (Ah sw) j x.1.2))
    ⟨⟨_, _, rfl⟩, O4, f4, e4s, e4q, fun j x hx => (he4 j x hx).2.1⟩ (fun m σ H' _ q => SqT.of (q.2.1 _ _ nta hta)) ?_ ?_
   ·rintro m x σ H5 hx ⟨⟨v5, v6, rfl⟩, O5, f5, e5s, e5q, he5⟩
    obtain ⟨z, hz, rfl⟩ := Ak hx
    refine .inl ⟨⟨_, SqL.of (O5 _ _ nld ol)⟩, ?_⟩
    refine Z6 et (O5 _ _ nld ol) (fun x hx => O5 _ _ (fun e => by have := (htp x hx).2; rw [e, od] at this; cases this) (htp x hx).2) (fun r hr => by rw [rlen r hr]; exact hi') few fun D H6 S6 hD eD => ?_
    refine ⟨D, _, rfl, SqL.of eD, (fun n hn => ?_), ?_⟩
    ·have := K6 i z (Ah sw) 0 n hn
     omega
    show Cq K (dBin (rIxD K) (dVar 2) (dVar 4)) (dVar 5) (.int (Cz (Ah sw) i z)) [some (.ref d), some (.ref l), some (.ref s), some (.int (i : Int)), some (.str e.1), some (.str z), some (.ref D)] H6 _
    refine ⟨.ref q, .inl ⟨_, .inr e.1, .inl (S6 _ _ e5s), rfl, hq4.symm⟩, _, DPut.k (k := .inr z) (S6 _ _ e5q) ?_, ?_⟩
    ·rw [List.length_map, List.length_take]
     have := hoke.2.2
     exact Nat.lt_of_le_of_lt (show min m e.2.length <= 4 by omega) (by decide)
    rw [Si hz hoke.1.2.1]
    refine ⟨⟨_, _, rfl⟩, (O5.up S6).set fq, ?_, ?_, Ac, fun j x hx => ?_⟩
    ·rw [Af (Ne.symm nqd)]; exact S6 _ _ f5
    ·rw [Af (Ne.symm nqs)]; exact S6 _ _ e5s
    ·rw [Af (he4 j x hx).2.2.1]; exact S6 _ _ (he5 j x hx)
   ·rintro σ H5 ⟨⟨v5, v6, rfl⟩, O5, f5, e5s, e5q, he5⟩
    rw [List.length_map, List.take_length] at e5q
    refine .inl ⟨⟨_, _, _, _, rfl⟩, O5, f5, es ++ [(e, q)], E9 ee hi2, e5s, fun j x hx => ?_⟩
    by_cases hj : j < es.length
    ·rw [List.getElem?_append_left hj] at hx
     exact ⟨(he4 j x hx).1, he5 j x hx⟩
    ·have hj2 := Al hx
     rw [List.length_append] at hj2
     have hj3 : j = es.length := by have : [(e, q)].length = 1 := rfl; omega
     subst hj3
     rw [List.getElem?_append_right (Nat.le_refl _), Nat.sub_self] at hx
     have : (e, q) = x := by simpa using hx
     subst this
     rw [les]
     exact ⟨fq, e5q⟩
  ·rintro σ H1 ⟨⟨v3, v4, v5, v6, rfl⟩, O1, f1, es, ee, e1s, he⟩
   rw [len, List.take_length] at ee
   refine .inr ⟨d, o, _, od1, f1, ?_⟩
   refine k _ s (O1.thaw od) ⟨es, ee, ⟨hs, ?_⟩, fun j x hx => ⟨(he j x hx).1, ?_⟩⟩
   ·rw [Af (Ne.symm nds)]; exact e1s
   ·rw [Af (fun z => by have := (he j x hx).1; rw [z, od] at this; cases this)]; exact (he j x hx).2
theorem B0 (l : List Str) : (l.map V.str).all Bu = true := by rw [List.all_map, List.all_eq_true]; exact fun _ _ => rfl
theorem Bj {sw : Sw} {i : Nat} {x : Str × List Str} (h : sw[i]? = some x) (nd : (sw.map (·.1)).Nodup) : Az sw x.1 = i := by
 have hi := Al h
 have ex : sw[i] = x := by rw [List.getElem?_eq_getElem hi] at h; exact Option.some.inj h
 unfold Az
 rw [List.findIdx_eq hi]
 refine ⟨by rw [ex]; simp, fun j hj => ?_⟩
 have hj2 : j < sw.length := by omega
 refine decide_eq_false fun e => ?_
 have := (List.getElem_inj (i := j) (j := i) (h₀ := by rw [List.length_map]; exact hj2) (h₁ := by rw [List.length_map]; exact hi) nd).mp (by rw [List.getElem_map, List.getElem_map, e, ex])
 omega
theorem Nk {rows : List (List Str)} {i : Nat} {l : List Str} {z : Str} (nd : l.Nodup) (h : z ∈ l) : valV (l.map fun z => ((.inr z : Key), V.int (Cz rows i z))) (.inr z) = some (.int (Cz rows i z)) := by
 obtain ⟨j, hj, e⟩ := List.mem_iff_getElem.mp h
 refine B5 (i := j) ?_ ?_
 ·rw [List.map_map]; exact Kf nd
 ·rw [List.getElem?_map, List.getElem?_eq_getElem hj, e]; rfl
theorem Vt {H : Hp} {z : Str} {D : Outs} {σ : St} {C : Addr} (en : ECls K C) (k : ∀ a, H a = none -> D.ex σ a (upd (upd H a (excO a C none)) a (flO a C none))) :
  Br K (dFn (fun vs H Q E => vs.length <= 1000 /\ mkX C none 0 vs H Q E) (Aa (dC (.str z)) dNil)) D σ H := ⟨Nat.le_of_ble_eq_true rfl, fun a ha => ⟨C, none, Ac, en, k a ha⟩⟩
theorem Cp {H : Hp} {E : XK} (Z : Ar K t) {z : Str} {Q : VK} {σ : St} (k : BadC t H E) : Br K (dFn (fun vs H Q E => vs.length <= 1000 /\ mkX t.c_zaq none 0 vs H Q E) (Aa (dC (.str z)) dNil)) (Y8 Q E) σ H :=
 Vt Z.ec fun a ha => k _ a (fun b o e => by rw [Af (Ae e ha), Af (Ae e ha)]; exact e) Ac
theorem Np {H H1 : Hp} {E : XK} (S : Same H H1) (k : BadC t H E) : BadC t H1 E := fun H' e S' q => k H' e (S.trans S') q
theorem Wk {rows : List (List Str)} {i : Nat} {l : List Str} {z : Str} (h : z ∉ l) : valV (l.map fun z => ((.inr z : Key), V.int (Cz rows i z))) (.inr z) = none := by
 refine B2 fun q => h ?_
 rw [List.map_map] at q
 obtain ⟨y, hy, e⟩ := List.mem_map.mp q
 cases e
 exact hy
theorem Nf {l : List Str} {x : List Str} (nd : l.Nodup) (h : ∀ z ∈ l, z ∈ x) : l.length <= x.length := by
 induction l generalizing x with
 | nil => exact Nat.zero_le _
 | cons a l ih =>
  obtain ⟨na, nd⟩ := List.nodup_cons.mp nd
  have ha := h a List.mem_cons_self
  have := ih (x := x.erase a) nd fun z hz => (List.mem_erase_of_ne (fun e : z = a => na (e ▸ hz))).mpr (h z (List.mem_cons_of_mem _ hz))
  rw [List.length_erase_of_mem ha] at this
  have : 0 < x.length := List.length_pos_of_mem ha
  rw [List.length_cons]
  omega
theorem Po {sw rule : Sw} (hw : okSw sw) (h : D8 sw rule) : Pm rule := by
 refine ⟨h.1, Nat.le_trans h.2.1 (by decide), h.2.2.1, fun e he => ?_⟩
 obtain ⟨a, b, x, hx, ex, _⟩ := h.2.2.2 e he
 refine ⟨?_, a, Nat.le_trans b.2.2 (by decide), fun z hz => Nat.le_trans (b.1 z hz).2.1 (by decide)⟩
 rw [<- ex]
 exact Nat.le_trans (hw.2.2.2.1 x hx).1.2.1 (by decide)
theorem an3 {f : Addr} {fd : FuncData} (Z : Ar K t) (F : FunD K "term" "Panel.term" s_zn f fd .none) (T : Tab P w K mg base 3 (gb_3 K t) bl) : FnOk P w K mg base (CXE P w) 4 f fd P_zn (Zx K t) := by
 refine F.okWX au8 ay9 T (as0 K t) (fun vs H Q E h => ?_) (fun vs H Q E h => ?_)
 ·obtain ⟨p, a, l, s, wd, ss, sw, rfl, _⟩ := h; rfl
 ·obtain ⟨p, a, l, s, wd, ss, sw, rfl, ⟨dx, fs, ⟨_, hp⟩, hl, hs, hm⟩, ⟨ds, ed, ⟨_, os⟩, hd⟩, hw, ha, ne, h29, hzs, k⟩ := h
  have cl := Z.pf.cl
  have na : NoAttr K t.c_zas "sets" := Z.pf.na _ (by simp)
  have bad : ∀ {H' : Hp}, Same H H' -> ¬ B4 sw (wd, ss) -> BadC t H' E := fun S n => k.elim (fun q => absurd q.1 n) fun q => Np S q.2
  refine ⟨rfl, ?_⟩
  refine Or.inl ⟨_, _, _, _, hp, cl, na, hs, ?_⟩
  by_cases hxx : ∃ x ∈ sw, x.1 = wd
  ·obtain ⟨x, hx, rfl⟩ := hxx
   obtain ⟨i, hi2⟩ := List.mem_iff_getElem?.mp hx
   have hids : i < ds.length := by have := Al hi2; rw [<- ed, List.length_map] at this; exact this
   obtain ⟨⟨x', q⟩, hi⟩ : ∃ z, ds[i]? = some z := ⟨_, List.getElem?_eq_getElem hids⟩
   have : x' = x := by
    rw [<- ed, List.getElem?_map, hi] at hi2
    exact Option.some.inj hi2
   subst this
   have oq := (hd i _ hi).2
   have hok := hw.sets x' hx
   have hv : valV (ds.map kR) (.inr x'.1) = some (.ref q) := B5 (Ej ed hw.2.2.1) (by rw [List.getElem?_map, hi]; rfl)
   have pl := Bj hi2 hw.2.2.1
   have uniq : ∀ y ∈ sw, y.1 = x'.1 -> y = x' := fun y hy e => by
    obtain ⟨j, hj⟩ := List.mem_iff_getElem?.mp hy
    have := Bj hj hw.2.2.1
    rw [e, pl] at this
    subst this
    rw [hi2] at hj
    exact (Option.some.inj hj).symm
   have gq : ∀ {H'}, Same H H' -> DGet H' s (.str x'.1) (some (.ref q)) := fun S => .inl ⟨_, .inr x'.1, .inl (S _ _ os), rfl, hv.symm⟩
   refine .inr ⟨_, gq (Same.refl _), ?_⟩
   refine ⟨a, ss, rfl, SqL.of ha, h29, hzs, fun H1 S1 => ?_⟩
   cases hb : (ss.all Gn && decide ss.Nodup) with
   | false =>
    refine Cp (σ := [some (.ref p), some (.str x'.1), some (.ref a)]) (Q := Q) Z (bad S1 fun ⟨_, o, _⟩ => ?_)
    rw [List.all_eq_true.mpr fun z hz => wordB_iff.mpr (o.1 z hz), decide_eq_true o.2.1] at hb
    cases hb
   | true =>
    rw [Bool.and_eq_true, List.all_eq_true, decide_eq_true_iff] at hb
    obtain ⟨hb1, hb2⟩ := hb
    refine ⟨by decide, fun e he => .inl ⟨a, e, _, _, rfl, rfl, (S1.trans (Same.upd he)).seqL (SqL.of ha), SqL.of Ac, B0 ss, rfl, Cc ?_ ?_⟩⟩
    ·exact He (by rw [List.length_map]; intro z; exact ne (List.length_eq_zero_iff.mp z))
    have S2 := S1.trans (Same.upd (o := .lst []) he)
    generalize upd H1 e (.lst []) = H2 at S2 ⊢
    refine .inl ⟨⟨_, S2.seqL (SqL.of ha)⟩, ?_⟩
    refine Jk (K := K) (σ := [none, some (.ref p), some (.str x'.1)]) (strB fun z => decide (z ∈ x'.2)) (A0 (ss.map V.str)) (fun σ => ∃ v, σ = [v, some (.ref p), some (.str x'.1)]) (fun H3 S3 => (S2.trans S3).seqL (SqL.of ha)) ?_ ⟨_, rfl⟩ (fun σ x ⟨v, e⟩ => ⟨some x, by rw [e]; rfl⟩) ?_ fun D3 H3 S3 q3 => ⟨_, q3, ?_⟩
    ·rw [List.length_map]; exact Nat.lt_of_le_of_lt h29 (by decide)
    ·rintro y σ H3 Q1 hy ⟨v, rfl⟩ S3 q1
     obtain ⟨z, hz, rfl⟩ := List.mem_map.mp hy
     have S := S2.trans S3
     refine Or.inl ⟨_, _, _, _, (S _ _ hp), cl, na, hs, ⟨.ref q, gq S, .inr ⟨_, .inl ⟨_, .inr z, .inl (S _ _ oq), rfl, rfl⟩, ?_⟩⟩⟩
     have q1 : ∀ H2, Same H3 H2 -> Q1 (.bl (decide (z ∈ x'.2))) H2 := q1
     by_cases hzx : z ∈ x'.2
     ·rw [decide_eq_true hzx] at q1
      rw [Nk hok.1.2.1 hzx]
      exact q1 H3 (Same.refl _)
     ·rw [decide_eq_false hzx] at q1
      rw [Wk hzx]
      exact q1 H3 (Same.refl _)
    ·rw [Ni]
     have S := S2.trans S3
     cases hc : ss.all fun z => decide (z ∈ x'.2) with
     | false =>
      refine Cp (σ := [some (.ref p), some (.str x'.1), some (.ref a)]) (Q := Q) Z (bad S fun ⟨_, _, y, hy, ey, hin⟩ => ?_)
      have := uniq y hy ey
      subst this
      rw [List.all_eq_true.mpr fun z hz => decide_eq_true (hin z hz)] at hc
      cases hc
     | true =>
      have hin : ∀ z ∈ ss, z ∈ x'.2 := fun z hz => of_decide_eq_true (List.all_eq_true.mp hc z hz)
      have hL : okL ss := ⟨fun z hz => hok.1.1 z (hin z hz), hb2, Nat.le_trans (Nf hb2 hin) (Nat.le_trans hok.2.2 (by decide))⟩
      have k : ∀ H', Same H H' -> Q (.int (Fl sw (x'.1, ss))) H' := k.elim (fun q => q.2) fun q => absurd ⟨ne, hL, x', hx, rfl, hin⟩ q.1
      refine .inl ⟨⟨_, S.seqL (SqL.of ha)⟩, fun D hD => ?_⟩
      refine K1 (A0 (ss.map V.str)) (fun σ => ∃ v, σ = [v, some (.ref p), some (.str x'.1)]) (fun _ => true) (fun v => match v with | .str z => .int (Cz (Ah sw) i z) | _ => .non) hD (fun H4 S4 => (S.trans S4).seqL (SqL.of ha)) ?_ ⟨_, rfl⟩ ?_ ?_
      ·rw [List.length_map]; exact Nat.lt_of_le_of_lt h29 (by decide)
      ·rintro y σ H4 hy ⟨v, rfl⟩ S4 Fin Skip hF hK
       obtain ⟨z, hz, rfl⟩ := List.mem_map.mp hy
       have S5 := S.trans S4
       refine (Or.inl ⟨_, _, _, _, (S5 _ _ hp), cl, na, hs, ⟨.ref q, gq S5, .int (Cz (Ah sw) i z), .inl ⟨_, .inr z, .inl (S5 _ _ oq), rfl, ?_⟩, ?_⟩⟩)
       ·rw [Nk hok.1.2.1 (hin z hz)]
       ·exact hF _ _ _ ⟨_, rfl⟩ (Same.refl _) rfl rfl
      ·intro H4 S4 eD
       refine ⟨D, ss.map (Cz (Ah sw) i), rfl, SqL.of (eD.trans ?_), ?_⟩
       ·rw [List.filter_eq_self.mpr (fun _ _ => rfl), List.map_map, List.map_map]; rfl
       ·have := k H4 (S.trans S4)
        unfold Fl at this
        rw [pl] at this
        exact this
  ·have hv : valV (ds.map kR) (.inr wd) = none := by
    refine B2 fun q => hxx ?_
    rw [K8, <- ed] at *
    obtain ⟨y, hy, e⟩ := List.mem_map.mp q
    cases e
    obtain ⟨z, hz, rfl⟩ := List.mem_map.mp hy
    exact ⟨z, hz, rfl⟩
   refine .inr ⟨_, .inl ⟨_, .inr wd, .inl os, rfl, rfl⟩, ?_⟩
   rw [hv]
   exact Cp (σ := [some (.ref p), some (.str wd), some (.ref a)]) (Q := Q) Z (bad (Same.refl _) fun ⟨_, _, y, hy, ey, _⟩ => hxx ⟨y, hy, ey⟩)
theorem an8 {f : Addr} {fd : FuncData} (Z : Ar K t) (F : FunD K "box" "Panel.box" s_zs f fd .none) (T : Tab P w K mg base 4 (gb_4 K t) bl) : FnOk P w K mg base (CXE P w) 5 f fd P_zs (Zy K t) := by
 refine F.okWX av3 az4 T (as5 K t) (fun vs H Q E h => ?_) (fun vs H Q E h => ?_)
 ·obtain ⟨p, r, l, s, sw, rule, rfl, _⟩ := h; rfl
 ·obtain ⟨p, r, l, s, sw, rule, rfl, hs, ht, hse, hw, ⟨ds, ed, ⟨_, od⟩, hd⟩, hr, k⟩ := h
  obtain ⟨dx, fs, ⟨np, hp⟩, _, _, hm⟩ := id hs
  have len : ds.length = rule.length := by rw [<- ed]; simp
  refine ⟨_, true, .of (.dK od), rfl, ⟨p, dx, fs, ⟨t.c_zas, i_zc K t⟩, rfl, .head _, hp, hm _ (by decide), ⟨Nat.le_of_ble_eq_true rfl, Nat.le_of_ble_eq_true rfl⟩, p, l, s, sw, rfl, hs.mono Kp.any, ht.mono Kp.any, hw.len, ?_⟩⟩
  refine .inr (.inr (.inl ⟨_, od, fun o => ?_⟩))
  have kf : Kp (· ≠ r) H (· ≠ r) (upd H r (.frz o (.dK (ds.map kR)))) := Kp.off (fun e => e rfl)
  have kf2 : ∀ b u, b ≠ r -> H b = some u -> upd H r (.frz o (.dK (ds.map kR))) b = some u := fun b u n e => by rw [Af n]; exact e
  have ef : upd H r (.frz o (.dK (ds.map kR))) r = some (.frz o (.dK (ds.map kR))) := Ac
  have hd2 : ∀ x ∈ ds, upd H r (.frz o (.dK (ds.map kR))) x.2 = some (lstO x.1.2) := fun x hx => by
   rw [Af (fun e => by have := (hd x hx).2; rw [e, od] at this; cases this)]
   exact (hd x hx).2
  show ForW (Itd r o (ds.map kR)) _ _ _ [some (.ref p), some (.ref r), some (.int (allM sw)), none] _
  generalize hHf : upd H r (.frz o (.dK (ds.map kR))) = Hf at kf kf2 ef hd2 ⊢
  refine Bh (G5 (ds.map kR)) (fun i σ H' => (∃ v3, σ = [some (.ref p), some (.ref r), some (.int ((rule.take i).foldl (fun c e => Builtin.bitAnd c (Fl sw e)) (allM sw))), v3]) /\ Same Hf H' /\ ∀ e ∈ rule.take i, B4 sw e) ⟨⟨_, rfl⟩, Same.refl _, fun e he => by cases he⟩ (fun i σ H' _ q => q.2.1 _ _ ef) ?_ ?_
  ·rintro i x σ H1 hx ⟨⟨v3, rfl⟩, S1, pre⟩
   obtain ⟨kv, hi0, rfl⟩ := Ak hx
   obtain ⟨⟨e, la⟩, hi, rfl⟩ := Ak hi0
   have hi2 : rule[i]? = some e := by rw [<- ed, List.getElem?_map, hi]; rfl
   have hv : valV (ds.map kR) (.inr e.1) = some (.ref la) := B5 (Ej ed hr.2.2.1) hi0
   have kn : Kp (· ≠ r) H any H1 := (kf.trans (Kp.same S1)).trans Kp.any
   obtain ⟨_, c1, c2, c3⟩ := hr.2.2.2 e (List.mem_of_getElem? hi2)
   refine ⟨p, dx, fs, ⟨t.c_zas, i_zn K t⟩, rfl, .head _, (kn _ _ ⟨np, hp⟩).2, hm _ (by decide), ⟨Nat.le_of_ble_eq_true rfl, Nat.le_of_ble_eq_true rfl⟩, .ref la, .inl ⟨_, .inr e.1, .inr ⟨o, S1 _ _ ef⟩, rfl, hv.symm⟩, ?_⟩
   refine ⟨p, la, l, s, e.1, e.2, sw, rfl, hs.mono kn, hse.mono kn, hw, S1 _ _ (hd2 _ (List.mem_of_getElem? hi)), c1, c2, c3, ?_⟩
   by_cases ok : B4 sw e
   ·refine .inl ⟨ok, fun H2 S2 => ?_⟩
    refine ⟨⟨_, congrArg (fun z => [some (V.ref p), some (V.ref r), some (V.int z), some (V.str e.1)]) (B9 hi2 (fun c e => Builtin.bitAnd c (Fl sw e)) (allM sw)).symm⟩, S1.trans S2, fun e' he' => ?_⟩
    rw [List.take_add_one, hi2] at he'
    rcases List.mem_append.mp he' with h | h
    ·exact pre e' h
    ·have : e' = e := by simpa using h
     rw [this]; exact ok
   ·refine .inr ⟨ok, fun H2 b S2 q => ⟨b, rfl, ?_⟩⟩
    rcases k with ⟨k, _⟩ | ⟨_, k⟩
    ·exact absurd (k e (List.mem_of_getElem? hi2)) ok
    ·exact k H2 b (fun c u n e => S2 _ _ (S1 _ _ (kf2 c u n e))) q
  ·rintro σ H1 ⟨⟨v3, rfl⟩, S1, pre⟩
   rw [List.length_map, List.length_map, len, List.take_length] at pre
   rw [List.length_map, List.length_map, len, List.take_length]
   rcases k with ⟨_, k⟩ | ⟨⟨e, he, n⟩, _⟩
   ·exact .inr ⟨r, o, _, od, S1 _ _ ef, k _ (Same.thaw od (hHf ▸ S1))⟩
   ·exact absurd (pre e he) n
theorem am6 {f : Addr} {fd : FuncData} (Z : Ar K t) (F : FunD K "read_rule" "Panel.read_rule" s_zg f fd .none) (T : Tab P w K mg base 5 (gb_5 K t) bl) : FnOk P w K mg base CX0 6 f fd P_zg (Zv K t) := by
 refine F.okW0 au1 ay2 T (ar3 K t) (fun vs H Q E h => ?_) (fun vs H Q E h => ?_)
 ·obtain ⟨p, r, l, s, sw, rule, rfl, _⟩ := h; rfl
 ·obtain ⟨p, r, l, s, sw, rule, rfl, hs, ht, hse, hw, hrl, hr, k⟩ := h
  obtain ⟨ds, ed, ⟨_, od⟩, hd⟩ := id hrl
  obtain ⟨dx, fs, ⟨np, hp⟩, _, _, hm⟩ := id hs
  have len : ds.length = rule.length := by rw [<- ed]; simp
  have pos : 0 < rule.length := List.length_pos_iff.mpr hr.1
  refine ⟨_, true, .of (.dK od), rfl, (.inr ⟨_, .inl od, Cc ?_ ?_⟩)⟩
  ·refine decide_eq_false fun e => ?_
   rw [List.length_map] at e
   omega
  refine ⟨p, dx, fs, ⟨t.c_zas, i_zs K t⟩, rfl, .head _, hp, hm _ (by decide), ⟨Nat.le_of_ble_eq_true rfl, Nat.le_of_ble_eq_true rfl⟩, p, r, l, s, sw, rule, rfl, hs, ht, hse, hw, hrl, Po hw hr, .inl ⟨hr.2.2.2, fun H1 S1 => ?_⟩⟩
  exact ⟨r, rule, rfl, hrl.mono (Kp.same S1), hr.2.2.1, hr.2.1, fun H2 c S2 R2 => k H2 c (S1.trans S2) (R2.mono (Kp.fresh S1))⟩
theorem am3 {f : Addr} {fd : FuncData} (Z : Ar K t) (F : FunD K "read_rules" "Panel.read_rules" s_zd f fd .none) (T : Tab P w K mg base 6 (gb_6 K t) bl) : FnOk P w K mg base CX0 7 f fd P_zd (Zu K t) := by
 refine F.okW0 at8 ax9 T (ar0 K t) (fun vs H Q E h => ?_) (fun vs H Q E h => ?_)
 ·obtain ⟨p, l, s, ok, v, sw, rules, rfl, _⟩ := h; rfl
 ·obtain ⟨p, l, s, ok, v, sw, rules, rfl, hs, ht, hse, hw, hv, hr, h8, k⟩ := h
  rcases hv with ⟨rfl, rfl⟩ | ⟨kk, rfl, ds, ed, ⟨nk, ok1⟩, hd⟩
  ·refine ⟨by decide, fun q hq => k _ q (Same.upd hq) ⟨[], rfl, ⟨hq, Ac⟩, fun x hx => by cases hx⟩⟩
  ·obtain ⟨dx, fs, ⟨op, hp⟩, _, _, hm⟩ := id hs
   have len : (ds.map fun x => V.ref x.2).length = rules.length := by rw [<- ed]; simp
   refine ⟨_, true, .sqL rfl (SqL.of ok1) rfl, rfl, (.inl ⟨_, .inl (SqL.of ok1), Cc ?_ ?_⟩)⟩
   ·refine decide_eq_false fun e => ?_
    rw [len] at e
    omega
   refine .inl ⟨⟨_, SqL.of ok1⟩, fun D hD => ?_⟩
   refine B8 (A0 (ds.map fun x => V.ref x.2)) (fun m σ H' => (∃ v, σ = [v, some (.ref p)]) /\ Same H H' /\ ∃ fs : List (Sw × Addr), fs.map (·.1) = rules.take m /\ H' D = some (.lst (fs.map fun x => .ref x.2)) /\ ∀ x ∈ fs, RuleAt (fun a => H a = none /\ a ≠ D) H' x.2 x.1)
    ⟨⟨_, rfl⟩, Same.upd hD, [], rfl, Ac, fun x hx => by cases hx⟩ (fun m σ H' _ q => q.2.1.seqL (SqL.of ok1)) ?_ ?_
   ·rintro m x σ H1 hx ⟨⟨v, rfl⟩, S1, gs, eg, eD, hg⟩
    obtain ⟨⟨rule, r⟩, hm2, rfl⟩ := Ak hx
    have hm3 : rules[m]? = some rule := by rw [<- ed, List.getElem?_map, hm2]; rfl
    have hrl := hd _ (List.mem_of_getElem? hm2)
    have nr : ¬ ok r := by obtain ⟨_, _, o, _⟩ := hrl; exact o.1
    have kw : Kp ok H (· ≠ r) H1 := (Kp.same S1).trans (Kp.weak fun a h e => nr (e ▸ h))
    refine ⟨p, dx, fs, ⟨t.c_zas, i_zg K t⟩, rfl, .head _, S1 _ _ hp, hm _ (by decide), ⟨Nat.le_of_ble_eq_true rfl, Nat.le_of_ble_eq_true rfl⟩, p, r, l, s, sw, rule, rfl, hs.mono kw, ht.mono kw, hse.mono kw, hw, hrl.mono ((Kp.same S1).trans Kp.any), hr rule (List.mem_of_getElem? hm3), fun H2 c S2 R2 => ?_⟩
    have eD2 := S2 _ _ eD
    refine ⟨_, eD2, ?_, ⟨_, rfl⟩, (S1.trans S2).set hD, gs ++ [(rule, c)], E9 eg hm3, ?_, ?_⟩
    ·rw [List.length_map]
     have := N0 eg
     exact Nat.lt_of_le_of_lt (show gs.length <= 8 by omega) (by decide)
    ·rw [Ac, List.map_append]; rfl
    ·have ko : Kp (fun a => H a = none /\ a ≠ D) H2 (fun a => H a = none /\ a ≠ D) (upd H2 D (.lst ((gs.map fun x => V.ref x.2) ++ [.ref c]))) := Kp.off (fun e => e.2 rfl)
     intro x hx
     rcases List.mem_append.mp hx with hx | hx
     ·exact (hg x hx).mono ((Kp.same S2).trans ko)
     ·have : x = (rule, c) := by simpa using hx
      subst this
      exact R2.mono ((Kp.weak fun a h => ⟨S1.free h, (Ae eD h).symm⟩).trans ko)
   ·rintro σ H1 ⟨_, S1, gs, eg, eD, hg⟩
    rw [len, List.take_length] at eg
    exact k H1 D S1 ⟨gs, eg, ⟨hD, eD⟩, fun x hx => (hg x hx).mono (Kp.weak fun a h => h.1)⟩
end
theorem _root_.Pn.PanAt.self {C p dx d l n s k b : Addr} {ok : Addr -> Prop} {H : Hp} {sw : Sw} {rules : List Sw} (h : PanAt C ok H p sw rules dx d l n s k b) : SelfAt C ok H p l s := by
 refine ⟨dx, _, h.ins, rfl, rfl, fun m hm => ?_⟩
 simp only [List.mem_cons, List.not_mem_nil, or_false] at hm
 rcases hm with rfl | rfl | rfl | rfl | rfl | rfl <;> rfl
section
variable {P : Program} {w : World} {K : PySem.W.Frag} {mg : Str -> Option Value} {base : Heap} {t : Adr}
theorem Eu {f : Str} {p C dx : Addr} {fs fs' : List (Str × V)} {y : V} {H : Hp} {N : Hp -> Prop} (hp : H p = some (.ins C dx fs)) (c : Cls K C) (n : NoAttr K C f) (l : fs.length < 1000) (e : putF f y fs = fs') (k : ∀ H', (∀ b, b ≠ p -> H' b = H b) -> H' p = some (.ins C dx fs') -> N H') : Vr K f (.ref p) y H N :=
 .inl ⟨C, dx, fs, hp, c, n, l, k _ (fun b hb => Af hb) (by rw [Ac, e])⟩
theorem Kp.but {ok : Addr -> Prop} {p : Addr} {H H' : Hp} (h : ∀ b, b ≠ p -> H' b = H b) (n : ¬ ok p) : Kp ok H ok H' := fun a o q => ⟨q.1, by rw [h a (fun e => n (e ▸ q.1))]; exact q.2⟩
theorem Off.but {p : Addr} {H H1 H2 : Hp} (h : Off p H H1) (e : ∀ b, b ≠ p -> H2 b = H1 b) : Off p H H2 := fun b u n q => by rw [e b n]; exact h b u n q
theorem Off.fr {p : Addr} {u : HO} {H H1 : Hp} (h : Off p H H1) (e : H1 p = some u) : ∀ b, H1 b = none -> H b = none := fun b q => h.free (fun z => by rw [z, e] at q; cases q) q
structure Pc (ok : Addr -> Prop) (H : Hp) (d l n s : Addr) (sw : Sw) : Prop where
 sws : SwAt ok H d sw
 tps : TupsAt ok H l (Ah sw)
 nms : NumAt ok H n (Ah sw)
 sts : SetsAt ok H s sw
theorem Pc.mono {ok ok' : Addr -> Prop} {H H' : Hp} {d l n s : Addr} {sw : Sw} (h : Pc ok H d l n s sw) (k : Kp ok H ok' H') : Pc ok' H' d l n s sw := ⟨h.sws.mono k, h.tps.mono k, h.nms.mono k, h.sts.mono k⟩
abbrev fl1 (d : Addr) : List (Str × V) := [("settings", .ref d)]
abbrev fl2 (d l : Addr) : List (Str × V) := [("settings", .ref d), ("tuples", .ref l)]
abbrev fl3 (d l n : Addr) : List (Str × V) := [("settings", .ref d), ("tuples", .ref l), ("numbers", .ref n)]
abbrev fl4 (d l n s : Addr) : List (Str × V) := [("settings", .ref d), ("tuples", .ref l), ("numbers", .ref n), ("sets", .ref s)]
abbrev fl5 (d l n s k : Addr) : List (Str × V) := [("settings", .ref d), ("tuples", .ref l), ("numbers", .ref n), ("sets", .ref s), ("kept_rules", .ref k)]
abbrev fl6 (d l n s k b : Addr) : List (Str × V) := [("settings", .ref d), ("tuples", .ref l), ("numbers", .ref n), ("sets", .ref s), ("kept_rules", .ref k), ("bars", .ref b)]
theorem Lf {fs : List (Str × V)} (h : fs.lookup ("all_choices" : Str) = none /\ fs.lookup ("box" : Str) = none /\ fs.lookup ("many" : Str) = none /\ fs.lookup ("term" : Str) = none /\ fs.lookup ("read_rule" : Str) = none /\ fs.lookup ("read_rules" : Str) = none) : ∀ m ∈ (["all_choices", "box", "many", "term", "read_rule", "read_rules"] : List Str), fs.lookup m = none := by
 intro m hm
 simp only [List.mem_cons, List.not_mem_nil, or_false] at hm
 rcases hm with rfl | rfl | rfl | rfl | rfl | rfl
 ·exact h.1
 ·exact h.2.1
 ·exact h.2.2.1
 ·exact h.2.2.2.1
 ·exact h.2.2.2.2.1
 ·exact h.2.2.2.2.2
theorem an1 {f : Addr} {fd : FuncData} (Z : Ar K t) (F : FunD K "__init__" "Panel.__init__" s_zl f fd t.dv_zl) (T : Tab P w K mg base 7 (gb_7 K t) bl) : FnOk P w K mg base CX0 8 f fd P_zl (V7 K t) := by
 refine F.okW0 au6 ay7 T (ar8 K t) (fun vs H Q E h => ?_) (fun vs H Q E h => ?_)
 ·obtain ⟨p, a, dx, v, sw, rules, rfl, _⟩ := h; rfl
 ·obtain ⟨p, a, dx, v, sw, rules, rfl, hp, hsw, hw, hrl, hr, h8, hf, k⟩ := h
  have cl := Z.pf.cl
  have na := Z.pf.na
  have nf : ¬ fresh H p := (Em hp)
  refine ⟨a, sw, rfl, hsw.mono Kp.any, hw, fun H1 d S1 A1 => ?_⟩
  refine Eu (S1 _ _ hp) cl (na _ (by simp)) (Nat.le_of_ble_eq_true rfl) (fs' := fl1 d) rfl fun H2 b2 p2 => ?_
  have O2 : Off p H H2 := fun b u n e => by rw [b2 b n]; exact S1 _ _ e
  have A2 := A1.mono (Kp.but b2 nf)
  refine Or.inl ⟨_, _, _, _, p2, cl, (na _ (by simp)), rfl, ⟨d, sw, rfl, A2.mono Kp.any, hw, fun H3 l S3 T3 => ?_⟩⟩
  refine Eu (S3 _ _ p2) cl (na _ (by simp)) (Nat.le_of_ble_eq_true rfl) (fs' := fl2 d l) rfl fun H4 b4 p4 => ?_
  have O4 := (O2.up S3).but b4
  have A4 := A2.mono ((Kp.same S3).trans (Kp.but b4 nf))
  have T4 := T3.mono ((Kp.weak (O2.fr p2)).trans (Kp.but b4 nf))
  refine Or.inl ⟨_, _, _, _, p4, cl, (na _ (by simp)), rfl, ⟨l, Ah sw, rfl, T4.mono Kp.any, (Lq hw.sets).1, hw.len, fun H5 n S5 N5 => ?_⟩⟩
  refine Eu (S5 _ _ p4) cl (na _ (by simp)) (Nat.le_of_ble_eq_true rfl) (fs' := fl3 d l n) rfl fun H6 b6 p6 => ?_
  have O6 := (O4.up S5).but b6
  have A6 := A4.mono ((Kp.same S5).trans (Kp.but b6 nf))
  have T6 := T4.mono ((Kp.same S5).trans (Kp.but b6 nf))
  have N6 := N5.mono ((Kp.weak (O4.fr p4)).trans (Kp.but b6 nf))
  refine Or.inl ⟨_, _, _, _, p6, cl, (na _ (by simp)), rfl, (Or.inl ⟨_, _, _, _, p6, cl, (na _ (by simp)), rfl, ⟨d, l, sw, rfl, A6.mono Kp.any, T6.mono Kp.any, hw, fun H7 s S7 E7 => ?_⟩⟩)⟩
  refine Eu (S7 _ _ p6) cl (na _ (by simp)) (Nat.le_of_ble_eq_true rfl) (fs' := fl4 d l n s) rfl fun H8 b8 p8 => ?_
  have O8 := (O6.up S7).but b8
  have k78 := (Kp.same (ok := fresh H) S7).trans (Kp.but b8 nf)
  have P8 : Pc (fresh H) H8 d l n s sw := ⟨A6.mono k78, T6.mono k78, N6.mono k78, E7.mono ((Kp.weak (O6.fr p6)).trans (Kp.but b8 nf))⟩
  have P8' : Pc (fun b => H b = none /\ H8 b ≠ none) H8 d l n s sw := P8.mono fun b o q => ⟨⟨q.1, by rw [q.2]; exact fun z => nomatch z⟩, q.2⟩
  have w8 : Kp (fresh H) H8 (fun b => b = p \/ H b = none) H8 := Kp.weak fun b e => .inr e
  have RI : Cw (fun b => ¬ (b = p \/ H b = none)) H8 v rules := by
   rcases hrl with h | ⟨kk, e, R⟩
   ·exact .inl h
   ·refine .inr ⟨kk, e, R.mono fun b o q => ⟨fun z => ?_, O8 _ _ q.1 q.2⟩⟩
    rcases z with z | z
    ·exact q.1 z
    ·have := q.2; rw [z] at this; cases this
  refine ⟨p, dx, _, ⟨t.c_zas, i_zd K t⟩, rfl, .head _, p8, rfl, ⟨Nat.le_of_ble_eq_true rfl, Nat.le_of_ble_eq_true rfl⟩, p, l, s, (fun b => b = p \/ H b = none), v, sw, rules, rfl, ⟨dx, _, ⟨.inl rfl, p8⟩, rfl, rfl, Lf ⟨rfl, rfl, rfl, rfl, rfl, rfl⟩⟩, P8.tps.mono w8, P8.sts.mono w8, hw, RI, hr, h8, fun H9 kk S9 R9 => ?_⟩
  refine Eu (S9 _ _ p8) cl (na _ (by simp)) (Nat.le_of_ble_eq_true rfl) (fs' := fl5 d l n s kk) rfl fun H10 b10 p10 => ?_
  have O10 := (O8.up S9).but b10
  have n8 : ¬ fresh H8 p := (Em p8)
  have R10 := R9.mono (Kp.but b10 n8)
  have P10 : Pc (fun b => H b = none /\ H8 b ≠ none) H10 d l n s sw := P8'.mono ((Kp.same S9).trans (Kp.but b10 (fun e => nf e.1)))
  obtain ⟨rs, er, ⟨fk, ok⟩, hrs⟩ := id R10
  have lenr : (rs.map fun x => V.ref x.2).length = rules.length := by rw [<- er]; simp
  refine Or.inl ⟨_, _, _, _, p10, cl, (na _ (by simp)), rfl, (.inl ⟨⟨_, SqL.of ok⟩, fun D hD => ?_⟩)⟩
  have fD : H D = none := O10.fr p10 D hD
  refine B8 (A0 (rs.map fun x => V.ref x.2)) (fun m σ H' => (∃ v, σ = [v, some (.ref p)]) /\ Same H10 H' /\ H' D = some (.lst ((F9 sw (rules.take m)).map V.int))) ⟨⟨_, rfl⟩, Same.upd hD, Ac⟩ (fun m σ H' _ q => q.2.1.seqL (SqL.of ok)) ?_ ?_
  ·rintro m x σ H11 hx ⟨⟨v, rfl⟩, S11, eD⟩
   obtain ⟨⟨rule, r⟩, hm2, rfl⟩ := Ak hx
   have hm3 : rules[m]? = some rule := by rw [<- er, List.getElem?_map, hm2]; rfl
   have hrl2 := hrs _ (List.mem_of_getElem? hm2)
   have nr : H8 r = none := by obtain ⟨_, _, o, _⟩ := hrl2; exact o.1
   have npr : p ≠ r := Ae p8 nr
   have kw : Kp (fun b => H b = none /\ H8 b ≠ none) H10 (· ≠ r) H11 := (Kp.same S11).trans (Kp.weak fun b h e => h.2 (e ▸ nr))
   refine ⟨p, dx, _, ⟨t.c_zas, i_zs K t⟩, rfl, .head _, S11 _ _ p10, rfl, ⟨Nat.le_of_ble_eq_true rfl, Nat.le_of_ble_eq_true rfl⟩, p, r, l, s, sw, rule, rfl, ⟨dx, _, ⟨npr, S11 _ _ p10⟩, rfl, rfl, Lf ⟨rfl, rfl, rfl, rfl, rfl, rfl⟩⟩, P10.tps.mono kw, P10.sts.mono kw, hw, hrl2.mono ((Kp.same S11).trans Kp.any), Po hw (hr rule (List.mem_of_getElem? hm3)), .inl ⟨(hr rule (List.mem_of_getElem? hm3)).2.2.2, fun H12 S12 => ?_⟩⟩
   refine ⟨_, S12 _ _ eD, ?_, ⟨_, rfl⟩, (S11.trans S12).set hD, ?_⟩
   ·rw [List.length_map]
    unfold F9
    rw [List.length_map, List.length_take]
    exact Nat.lt_of_le_of_lt (show min m rules.length <= 8 by omega) (by decide)
   ·rw [Ac]
    unfold F9
    rw [A7 hm3, List.map_append]
    rfl
  rintro σ H11 ⟨_, S11, eD⟩
  rw [lenr, List.take_length] at eD
  refine Eu (S11 _ _ p10) cl (na _ (by simp)) (Nat.le_of_ble_eq_true rfl) (fs' := fl6 d l n s kk D) rfl fun H12 b12 p12 => ?_
  have O12 := (O10.up S11).but b12
  have nDp : D ≠ p := (Ae p10 hD).symm
  have B12 : H12 D = some (.lst ((F9 sw rules).map V.int)) := by rw [b12 D nDp]; exact eD
  have k12 : ∀ {ok : Addr -> Prop}, ¬ ok p -> Kp ok H10 ok H12 := fun h => (Kp.same S11).trans (Kp.but b12 h)
  have P12 := P10.mono (k12 fun e => nf e.1)
  have R12 := R10.mono (k12 n8)
  refine ⟨p, dx, _, ⟨t.c_zas, i_zc K t⟩, rfl, .head _, p12, rfl, ⟨Nat.le_of_ble_eq_true rfl, Nat.le_of_ble_eq_true rfl⟩, p, l, s, sw, rfl, ⟨dx, _, ⟨trivial, p12⟩, rfl, rfl, Lf ⟨rfl, rfl, rfl, rfl, rfl, rfl⟩⟩, P12.tps.mono Kp.any, hw.len, Or.inl ⟨_, _, _, _, p12, cl, (na _ (by simp)), rfl, ⟨D, F9 sw rules, rfl, SqL.of B12, ?_⟩⟩⟩
  refine Eu p12 cl (na _ (by simp)) (Nat.le_of_ble_eq_true rfl) (fs' := flds d l n s kk D (Er sw rules)) rfl fun H14 b14 p14 => ?_
  refine Or.inl ⟨_, _, _, _, p14, cl, (na _ (by simp)), rfl, (Cc (decide_eq_false hf) ?_)⟩
  have kk14 : ∀ {ok : Addr -> Prop}, ¬ ok p -> (∀ b, ok b -> H b = none) -> Kp ok H12 (fun b => b = p \/ H b = none) H14 := fun h g => (Kp.but b14 h).trans (Kp.weak fun b e => .inr (g b e))
  have P14 := P12.mono (kk14 (fun e => nf e.1) fun b e => e.1)
  refine k H14 ((O12.but b14)) ⟨dx, d, l, n, s, kk, D, ⟨.inl rfl, p14⟩, P14.sws, P14.tps, P14.nms, P14.sts, R12.mono (kk14 n8 (O8.fr p8)), ⟨.inr fD, ?_⟩⟩
  rw [b14 D nDp]; exact B12
theorem Kn : (("&" : Str)) = ⟨#[38]⟩ := by decide +kernel
theorem s_eq : (("=" : Str)) = ⟨#[61]⟩ := by decide +kernel
theorem M9 : (("," : Str)) = ⟨#[44]⟩ := by decide +kernel
theorem Ko : (("|" : Str)) = ⟨#[124]⟩ := by decide +kernel
def Pj (acc : Sw) : Prop := (acc.map (·.1)).Nodup /\ ∀ e ∈ acc, e.1.length <= 1000 /\ e.2 ≠ [] /\ e.2.length <= 29 /\ ∀ z ∈ e.2, z.length <= 1000
theorem Ti {acc : Sw} {q a b : Str} (h : Pj acc) (hq : fewP q) (e : Txt.split q "=" = [a, b]) (na : a ∉ acc.map (·.1)) : Pj (acc ++ [(a, Txt.split b ",")]) := by
 rw [s_eq] at e
 have ha : a ∈ Txt.split q ⟨#[61]⟩ := by rw [e]; simp
 have hb : b ∈ Txt.split q ⟨#[61]⟩ := by rw [e]; simp
 have lb := Nat.le_trans (Bq hb) hq.1
 have cb := Nat.le_trans (Db (d := 44) (by decide) hb) hq.2
 refine ⟨?_, fun x hx => ?_⟩
 ·rw [List.map_append]
  refine List.nodup_append.mpr ⟨h.1, by simp, fun x hx y hy e => na ?_⟩
  have : y = a := by simpa using hy
  rw [<- this, <- e]; exact hx
 ·rcases List.mem_append.mp hx with hx | hx
  ·exact h.2 x hx
  ·have : x = (a, Txt.split b ",") := by simpa using hx
   subst this
   rw [M9]
   exact ⟨Nat.le_trans (Bq ha) hq.1, Ea, by rw [Sj]; omega, fun z hz => Nat.le_trans (Bq hz) lb⟩
theorem Hx : ∀ (ts : List Str) (acc rule : Sw), (∀ q ∈ ts, fewP q) -> Pj acc -> Ao ts acc = some rule -> Pj rule /\ rule.length = acc.length + ts.length
 | [], acc, rule, _, h, e => by cases e; exact ⟨h, rfl⟩
 | q :: ts, acc, rule, hq, h, e => by
  unfold Ao at e
  split at e
  ·rename_i a b es
   split at e
   ·cases e
   ·rename_i na
    obtain ⟨h1, h2⟩ := Hx ts _ rule (fun x hx => hq x (List.mem_cons_of_mem _ hx)) (Ti h (hq q List.mem_cons_self) es na) e
    refine ⟨h1, ?_⟩
    rw [h2, List.length_append, List.length_cons, List.length_cons, List.length_nil]
    omega
  ·cases e
theorem Fr {z : Str} (h : fewP z) : ∀ q ∈ Txt.split z "&", fewP q := fun q hq => by
 rw [Kn] at hq
 exact ⟨Nat.le_trans (Bq hq) h.1, Nat.le_trans (Db (d := 44) (by decide) hq) h.2⟩
theorem Hb {z : Str} {rule : Sw} (h : fewP z) (e : C6 z = some rule) : Pm rule := by
 obtain ⟨⟨h1, h2⟩, h3⟩ := Hx _ [] rule (Fr h) ⟨List.nodup_nil, fun e he => by cases he⟩ e
 rw [Kn] at h3
 have l := Cu (z := z) (c := 38)
 have n : Txt.split z ⟨#[38]⟩ ≠ [] := Ea
 have l0 := List.length_pos_iff.mpr n
 have := h.1
 rw [List.length_nil] at h3
 exact ⟨fun q => by rw [q] at h3; simp at h3; omega, by omega, h1, h2⟩
theorem Jv {z : Str} (h : fewT z) : ∀ q ∈ Txt.split z "|", fewP q := fun q hq => by
 refine ⟨?_, h.2 q hq⟩
 rw [Ko] at hq
 exact Nat.le_trans (Bq hq) h.1
theorem Mm {α : Type} {l : List α} {i : Nat} {x : α} (h : l[i]? = some x) : l.drop i = x :: l.drop (i + 1) := by
 obtain ⟨hi, e⟩ := List.getElem?_eq_some_iff.mp h
 rw [List.drop_eq_getElem_cons hi, e]
theorem Fw {q a b : Str} {r : List Str} {acc : Sw} (e : Txt.split q "=" = [a, b]) : Ao (q :: r) acc = if a ∈ acc.map (·.1) then none else Ao r (acc ++ [(a, Txt.split b ",")]) := by
 rw [Ao, e]
theorem Ki {q : Str} {r : List Str} {acc : Sw} (h : (Txt.split q "=").length ≠ 2) : Ao (q :: r) acc = none := by
 rw [Ao]
 split
 ·rename_i a b e
  rw [e] at h
  exact absurd rfl h
 ·rfl
theorem Jd {κ : Type} [DecidableEq κ] : ∀ {kvs : List (κ × V)} {k : κ}, k ∈ kvs.map (·.1) -> ∃ v, valV kvs k = some v
 | [], _, h => by cases h
 | p :: r, k, h => by
  by_cases e : p.1 = k
  ·exact ⟨_, Ed e⟩
  ·rw [Dd e]
   rw [List.map_cons] at h
   exact Jd ((List.mem_cons.mp h).resolve_left fun z => e z.symm)
theorem Wi {q : Str} (h : (Txt.split q "=").length = 2) : ∃ a b, Txt.split q "=" = [a, b] := by
 match Txt.split q "=", h with
 | [a, b], _ => exact ⟨a, b, rfl⟩
theorem ab2 {f : Addr} {fd : FuncData} (Z : Ar K t) (F : FunD K "read_box" "read_box" Il f fd .none) (T : Tab P w K mg base 0 (gb_0 K t) bl) : FnOk P w K mg base (CXE P w) 1 f fd L6 (Ow K t) := by
 refine F.okWX ai6 ak0 T (ah6 K t) (fun vs H Q E h => ?_) (fun vs H Q E h => ?_)
 ·obtain ⟨z, rfl, _⟩ := h; rfl
 ·obtain ⟨z, rfl, hf, k⟩ := h
  intro d hd0
  refine .inl ⟨rfl, z, "&", rfl, rfl, by decide +kernel, Nat.le_trans hf.1 (by decide), fun S hS => ?_⟩
  have fS : H S = none := (Same.upd hd0).free hS
  have nSd : d ≠ S := Ae Ac hS
  have hfew := Fr hf
  have many : (Txt.split z "&").length <= 1001 := by rw [Kn]; exact Nat.le_trans Cu (by have := hf.1; omega)
  have hk : (∃ rule, Ao (Txt.split z "&") [] = some rule /\ ∀ H' d, Same H H' -> RuleAt (fresh H) H' d rule -> Q (.ref d) H') \/ (Ao (Txt.split z "&") [] = none /\ BadC t H E) := k.imp (fun ⟨r, a, _, b⟩ => ⟨r, a, b⟩) id
  generalize Txt.split z "&" = ts at hfew many hk hS ⊢
  have S0 := (Same.upd (o := .dK []) hd0).trans (Same.upd (o := .lst (ts.map V.str)) hS)
  have ed : upd (upd H d (.dK [])) S (.lst (ts.map V.str)) d = some (.dK []) := by rw [Af nSd, Ac]
  have eS : upd (upd H d (.dK [])) S (.lst (ts.map V.str)) S = some (.lst (ts.map V.str)) := Ac
  refine .inl ⟨⟨_, SqL.of eS⟩, ?_⟩
  show ForW (Itl K S) _ _ _ [some (.str z), some (.ref d), none, none] (upd (upd H d (.dK [])) S (.lst (ts.map V.str)))
  generalize upd (upd H d (.dK [])) S (.lst (ts.map V.str)) = H0 at S0 ed eS ⊢
  refine Bh (A0 (ts.map V.str)) (fun i σ H' => (∃ v2 v3, σ = [some (.str z), some (.ref d), v2, v3]) /\ Same H H' /\ H' S = some (.lst (ts.map V.str)) /\
    ∃ es : List ((Str × List Str) × Addr), Ao ts [] = Ao (ts.drop i) (es.map (·.1)) /\ es.length = i /\ H' d = some (.dK (es.map kR)) /\ ∀ x ∈ es, H x.2 = none /\ H' x.2 = some (lstO x.1.2))
   ⟨⟨_, _, rfl⟩, S0, eS, [], rfl, rfl, ed, fun x hx => by cases hx⟩ (fun i σ H' _ q => SqL.of q.2.2.1) ?_ ?_
  ·rintro i x σ H1 hx ⟨⟨v2, v3, rfl⟩, S1, e1S, es, ee, le, e1d, he⟩
   obtain ⟨q, hi, rfl⟩ := Ak hx
   have hq := hfew q (List.mem_of_getElem? hi)
   have lti := Al hi
   rw [Mm hi] at ee
   refine ⟨rfl, q, "=", rfl, rfl, by decide +kernel, Nat.le_trans hq.1 (by decide), fun T hT => ?_⟩
   have ST := Same.upd (o := .lst ((Txt.split q "=").map V.str)) hT
   have eT : upd H1 T (.lst ((Txt.split q "=").map V.str)) T = some (.lst ((Txt.split q "=").map V.str)) := Ac
   have out : Ao ts [] = none -> BadC t H E := fun h => hk.elim (fun ⟨r, e, _⟩ => by rw [e] at h; cases h) fun q => q.2
   show dSeq _ _ _ [some (.str z), some (.ref d), some (.str q), some (.ref T)] (upd H1 T (.lst ((Txt.split q "=").map V.str)))
   generalize upd H1 T (.lst ((Txt.split q "=").map V.str)) = H2 at ST eT ⊢
   have S2 := S1.trans ST
   have e2d := ST _ _ e1d
   refine .inl ⟨_, .inl (SqL.of eT), ?_⟩
   rw [List.length_map]
   by_cases h2 : (Txt.split q "=").length = 2
   ·obtain ⟨a, b, eab⟩ := Wi h2
    rw [Fw eab] at ee
    rw [eab] at eT ⊢
    have qT := SqL.of (K := K) eT
    refine ⟨_, _, .inl qT, rfl, .inr ⟨_, DGet.k (k := .inr a) e2d, ?_⟩⟩
    by_cases hin : a ∈ (es.map (·.1)).map (·.1)
    ·have hs : ∃ v, valV (es.map kR) (.inr a) = some v := by
      rw [List.map_map] at hin
      obtain ⟨x, hx, ex⟩ := List.mem_map.mp hin
      refine Jd ?_
      rw [List.map_map]
      exact List.mem_map.mpr ⟨x, hx, by show (Sum.inr x.1.1 : Key) = _; rw [<- ex]; rfl⟩
     obtain ⟨v, hv⟩ := hs
     rw [hv]
     have ee : Ao ts [] = none := by rw [ee]; exact if_pos hin
     exact Cp (σ := [some (.str z), some (.ref d), some (.str q), some (.ref T)]) (Q := Q) Z (Np S2 (out ee))
    ·have nk : valV (es.map kR) (.inr a) = none := by
      refine B2 fun h => hin ?_
      rw [List.map_map] at h ⊢
      obtain ⟨x, hx, ex⟩ := List.mem_map.mp h
      cases ex
      exact List.mem_map.mpr ⟨x, hx, rfl⟩
     rw [nk]
     have ee : Ao ts [] = Ao (ts.drop (i + 1)) (es.map (·.1) ++ [(a, Txt.split b ",")]) := by rw [ee]; exact if_neg hin
     have hb : b.length <= 1000 := by
      rw [s_eq] at eab
      exact Nat.le_trans (Bq (c := 61) (by rw [eab]; simp)) hq.1
     refine ⟨_, _, .inl qT, rfl, rfl, b, ",", rfl, rfl, by decide +kernel, Nat.le_trans hb (by decide), fun L hL => ?_⟩
     have SL := Same.upd (o := lstO (Txt.split b ",")) hL
     have eL : upd H2 L (lstO (Txt.split b ",")) L = some (lstO (Txt.split b ",")) := Ac
     have fL : H L = none := S2.free hL
     have ndL : d ≠ L := Ae e2d hL
     show Cq K (dVar 1) (dBin (rIxD K) (dVar 3) (dC (.int 0))) (.ref L) [some (.str z), some (.ref d), some (.str q), some (.ref T)] (upd H2 L (lstO (Txt.split b ","))) _
     generalize upd H2 L (lstO (Txt.split b ",")) = H3 at SL eL ⊢
     refine ⟨_, _, .inl (SL.seqL qT), rfl, _, DPut.k (k := .inr a) (SL _ _ e2d) ?_, ?_⟩
     ·rw [List.length_map]
      exact Nat.lt_of_le_of_lt (show es.length <= 1001 by omega) (by decide)
     rw [Gz (e := (a, Txt.split b ",")) nk]
     refine ⟨⟨_, _, rfl⟩, (S2.trans SL).set hd0, ?_, es ++ [((a, Txt.split b ","), L)], ?_, ?_, Ac, fun x hx => ?_⟩
     ·rw [Af (Ne.symm nSd)]; exact (ST.trans SL) _ _ e1S
     ·rw [List.map_append]; exact ee
     ·rw [List.length_append, le]; rfl
     ·rcases List.mem_append.mp hx with hx | hx
      ·obtain ⟨a1, a2⟩ := he x hx
       refine ⟨a1, ?_⟩
       rw [Af (fun z => by rw [z, e1d] at a2; cases a2)]
       exact (ST.trans SL) _ _ a2
      ·have : x = ((a, Txt.split b ","), L) := by simpa using hx
       subst this
       exact ⟨fL, by rw [Af (Ne.symm ndL)]; exact eL⟩
   ·have ee : Ao ts [] = none := ee.trans (Ki h2)
    refine Fb (by simp; omega) ?_
    exact Cp (σ := [some (.str z), some (.ref d), some (.str q), some (.ref T)]) (Q := Q) Z (Np S2 (out ee))
  ·rintro σ H1 ⟨⟨v2, v3, rfl⟩, S1, e1S, es, ee, le, e1d, he⟩
   rw [List.length_map, List.drop_length] at ee
   refine .inl (hk.elim (fun ⟨rule, e, k⟩ => ?_) fun ⟨e, _⟩ => by rw [e] at ee; cases ee)
   rw [e] at ee
   have ee : rule = es.map (·.1) := Option.some.inj ee
   subst ee
   exact k H1 d S1 ⟨es, rfl, ⟨hd0, e1d⟩, he⟩
theorem Kl (sw : Sw) : Cf sw "*" = some (allM sw) := by unfold Cf; rw [if_pos rfl]
theorem Ib (sw : Sw) : Cf sw "-" = some 0 := by unfold Cf; rw [if_neg (by decide +kernel), if_pos rfl]
theorem Ic {sw : Sw} {z : Str} (n1 : z ≠ "*") (n2 : z ≠ "-") (h : Dm sw z) : Cf sw z = some (Bs ((Txt.split z "|").map (Ce sw))) := by unfold Cf; rw [if_neg n1, if_neg n2, if_pos h]
theorem M8 {sw : Sw} {z : Str} (n1 : z ≠ "*") (n2 : z ≠ "-") (h : ¬ Dm sw z) : Cf sw z = none := by unfold Cf; rw [if_neg n1, if_neg n2, if_neg h]
theorem F8 {α : Type} {l : List α} {m : Nat} {x : α} {p : α -> Prop} (hi : l[m]? = some x) (h : ∀ q ∈ l.take m, p q) (hx : p x) : ∀ q ∈ l.take (m + 1), p q := fun q hq => by
 rw [List.take_add_one, hi] at hq
 rcases List.mem_append.mp hq with hq | hq
 ·exact h q hq
 ·have : q = x := by simpa using hq
  rw [this]; exact hx
theorem ao3 {f : Addr} {fd : FuncData} (Z : Ar K t) (F : FunD K "read_cond" "read_cond" s_zx f fd .none) (T : Tab P w K mg base 5 (gb_5 K t) bl) : FnOk P w K mg base (CXE P w) 6 f fd P_zx (Qm K t) := by
 refine F.okWX av8 az9 T (at0 K t) (fun vs H Q E h => ?_) (fun vs H Q E h => ?_)
 ·obtain ⟨p, v, sw, rules, rfl, _⟩ := h; rfl
 ·obtain ⟨p, v, sw, rules, rfl, hP, hw, hz⟩ := h
  obtain ⟨dx, d, l, n, s, kk, b, h⟩ := id hP
  rcases hz with ⟨hn, k⟩ | ⟨z, rfl, hf, k⟩
  ·rcases hn with rfl | ⟨i, rfl⟩ | ⟨b', rfl⟩ | ⟨a, rfl, ⟨xs, e⟩ | ⟨xs, e⟩ | ⟨kvs, e⟩⟩
   ·exact ⟨rfl, Cp (σ := [some (.ref p), some .non]) (Q := Q) Z k⟩
   ·exact ⟨rfl, Cp (σ := [some (.ref p), some (.int i)]) (Q := Q) Z k⟩
   ·exact ⟨rfl, Cp (σ := [some (.ref p), some (.bl b')]) (Q := Q) Z k⟩
   ·exact ⟨_, false, .sqL rfl (SqL.of e) rfl, rfl, Cp (σ := [some (.ref p), some (.ref a)]) (Q := Q) Z k⟩
   ·exact ⟨_, false, .sqT rfl (SqT.of e) rfl, rfl, Cp (σ := [some (.ref p), some (.ref a)]) (Q := Q) Z k⟩
   ·exact ⟨_, false, .of (.dK e), rfl, Cp (σ := [some (.ref p), some (.ref a)]) (Q := Q) Z k⟩
  ·by_cases n1 : z = "*"
   ·subst n1
    rw [Kl] at k
    have k : ∀ H', Same H H' -> Q (.int (allM sw)) H' := k.elim (fun ⟨m, e, q⟩ => by cases e; exact q) fun q => by cases q.1
    exact ⟨rfl, p, dx, _, ⟨t.c_zas, i_zc K t⟩, rfl, .head _, h.ins.2, rfl, ⟨Nat.le_of_ble_eq_true rfl, Nat.le_of_ble_eq_true rfl⟩, p, l, s, sw, rfl, h.self, h.tps, hw.len, k H (Same.refl _)⟩
   by_cases n2 : z = "-"
   ·subst n2
    rw [Ib] at k
    have k : ∀ H', Same H H' -> Q (.int 0) H' := k.elim (fun ⟨m, e, q⟩ => by cases e; exact q) fun q => by cases q.1
    exact ⟨rfl, k H (Same.refl _)⟩
   have k1 : Dm sw z -> ∀ H', Same H H' -> Q (.int (Bs ((Txt.split z "|").map (Ce sw)))) H' := fun q => by
    rw [Ic n1 n2 q] at k
    exact k.elim (fun ⟨m, e, q⟩ => by cases e; exact q) fun q => by cases q.1
   have k2 : ¬ Dm sw z -> BadC t H E := fun q => by
    rw [M8 n1 n2 q] at k
    exact k.elim (fun ⟨m, e, q⟩ => by cases e) fun q => q.2
   have hfew := Jv hf
   have many : (Txt.split z "|").length <= 1001 := by rw [Ko]; exact Nat.le_trans Cu (by have := hf.1; omega)
   unfold Dm at k1 k2
   refine ⟨rfl, ?_⟩
   show if decide (z = "*") = true then _ else _
   refine Cc (decide_eq_false n1) ?_
   show if decide (z = "-") = true then _ else _
   refine Cc (decide_eq_false n2) ?_
   refine ⟨rfl, z, "|", rfl, rfl, by decide +kernel, Nat.le_trans hf.1 (by decide), fun S hS => ?_⟩
   generalize Txt.split z "|" = ps at k1 k2 hfew many hS ⊢
   have S0 := Same.upd (o := .lst (ps.map V.str)) hS
   have eS : upd H S (.lst (ps.map V.str)) S = some (.lst (ps.map V.str)) := Ac
   refine .inl ⟨⟨_, SqL.of eS⟩, fun D hD => ?_⟩
   generalize upd H S (.lst (ps.map V.str)) = H0 at S0 eS hD ⊢
   refine B8 (A0 (ps.map V.str)) (fun m σ H' => (∃ v, σ = [v, some (.ref p)]) /\ Same H0 H' /\ H' D = some (.lst (((ps.take m).map (Ce sw)).map V.int)) /\ ∀ q ∈ ps.take m, Cj sw q) ⟨⟨_, rfl⟩, Same.upd hD, Ac, fun q hq => by cases hq⟩ (fun m σ H' _ q => q.2.1.seqL (SqL.of eS)) ?_ ?_
   ·rintro m x σ H1 hx ⟨⟨v, rfl⟩, S1, eD, pre⟩
    obtain ⟨q, hi, rfl⟩ := Ak hx
    have hq := hfew q (List.mem_of_getElem? hi)
    have S01 := S0.trans S1
    have no : ¬ Cj sw q -> BadC t H E := fun z => k2 fun y => z (y q (List.mem_of_getElem? hi))
    refine ⟨p, dx, _, ⟨t.c_zas, i_zs K t⟩, rfl, .head _, S01 _ _ h.ins.2, rfl, ⟨Nat.le_of_ble_eq_true rfl, Nat.le_of_ble_eq_true rfl⟩, ?_⟩
    refine ⟨q, rfl, hq, ?_⟩
    cases hp : C6 q with
    | none => exact .inr ⟨rfl, fun H' e S' fl => ⟨e, rfl, no (fun ⟨r, z, _⟩ => by rw [hp] at z; cases z) H' e (S01.trans S') fl⟩⟩
    | some rule =>
     refine .inl ⟨rule, rfl, Hb hq hp, fun H2 r S2 R2 => ?_⟩
     have hr : H1 r = none := by obtain ⟨_, _, o, _⟩ := R2; exact o.1
     have kr : Kp any H (· ≠ r) H2 := fun a o q => ⟨Ae (S01 _ _ q.2) hr, (S01.trans S2) _ _ q.2⟩
     refine ⟨p, r, l, s, sw, rule, rfl, h.self.mono kr, h.tps.mono kr, h.sts.mono kr, hw, R2.mono Kp.any, Hb hq hp, ?_⟩
     by_cases ok : ∀ e ∈ rule, B4 sw e
     ·refine .inl ⟨ok, fun H3 S3 => ?_⟩
      have ep : boxM sw rule = Ce sw q := by unfold Ce; rw [hp]; rfl
      rw [ep]
      refine ⟨_, (S2.trans S3) _ _ eD, ?_, ⟨_, rfl⟩, (S1.trans (S2.trans S3)).set hD, ?_, F8 hi pre ⟨rule, hp, ok⟩⟩
      ·rw [List.length_map, List.length_map, List.length_take]
       exact Nat.lt_of_le_of_lt (show min m ps.length <= 1001 by omega) (by decide)
      ·rw [Ac, A7 hi, List.map_append]; rfl
     ·have ex : ∃ e ∈ rule, ¬ B4 sw e := Classical.byContradiction fun c => ok fun e he => Classical.byContradiction fun c2 => c ⟨e, he, c2⟩
      refine .inr ⟨ex, fun H' e O fl => ⟨e, rfl, no (fun ⟨r', z, y⟩ => ?_) H' e (fun a o z => ?_) fl⟩⟩
      ·rw [hp] at z
       cases z
       exact ok y
      ·exact O a o (Ae (S01 _ _ z) hr) (S2 _ _ (S01 _ _ z))
   ·rintro σ H1 ⟨_, S1, eD, pre⟩
    rw [List.length_map, List.take_length] at eD pre
    exact ⟨D, _, rfl, SqL.of eD, k1 pre H1 (S0.trans S1)⟩
theorem ao4 {f : Addr} {fd : FuncData} (Z : Ar K t) (F : FunD K "_law_cell" "_law_cell" s_zy f fd .none) (T : Tab P w K mg base 0 (gb_0 K t) bl) : FnOk P w K mg base CX0 1 f fd P_zy (Ct K t) := by
 refine F.okW0 av9 a00 T (at3 K t) (fun vs H Q E h => ?_) (fun vs H Q E h => ?_)
 ·obtain ⟨a, ns, k, rfl, _⟩ := h; rfl
 ·obtain ⟨a, ns, k, rfl, hS, q⟩ := h
  refine .inl ⟨_, .inl hS, ?_⟩
  refine ite2 (fun e => ?_) (fun e => ?_)
  ·have e : (k : Int) < ((ns.map V.int).length : Int) := by simpa using e
   have hk : k < ns.length := by rw [List.length_map] at e; omega
   refine ⟨_, _, .inl hS, Aq (j := k) (by rw [List.getElem?_map, List.getElem?_eq_getElem hk]; rfl), ?_⟩
   have : Am ns k = ns[k] := by unfold Am; rw [List.getD_eq_getElem?_getD, List.getElem?_eq_getElem hk]; rfl
   rw [this] at q
   exact q
  ·have e : ¬ (k : Int) < ((ns.map V.int).length : Int) := by simpa using e
   have hk : ns.length <= k := by rw [List.length_map] at e; omega
   refine ⟨.inr ⟨by decide, by decide⟩, ?_⟩
   have : Am ns k = ((k : Int) + 3) * 7919 := by unfold Am; rw [List.getD_eq_getElem?_getD, List.getElem?_eq_none hk]; rfl
   rw [this] at q
   exact q
theorem and3 {c1 c2 c3 : Bool} {A B : Prop} (a : A) (b : B) : if c1 = true then (if c2 = true then (if c3 = true then A else B) else (if false = true then A else B)) else (if false = true then A else B) := by
 cases c1 <;> cases c2 <;> cases c3 <;> first | exact iteF (iteF b) | exact iteF b | exact iteT (iteF (iteF b)) | exact iteT (iteT (iteF b)) | exact iteT (iteT (iteT a))
theorem an7 {f : Addr} {fd : FuncData} (Z : Ar K t) (F : FunD K "_law_stream" "_law_stream" s_zr f fd .none) (T : Tab P w K mg base 0 (gb_0 K t) bl) : FnOk P w K mg base CX0 1 f fd P_zr (Qk K t) := by
 refine F.okW0 av2 az3 T (as4 K t) (fun vs H Q E h => ?_) (fun vs H Q E h => ?_)
 ·obtain ⟨c, n, rfl, _⟩ := h; rfl
 ·obtain ⟨c, n, rfl, hn, k⟩ := h
  refine ⟨by decide, fun l hl => ⟨⟨by decide, by decide⟩, by decide, ⟨by omega, by omega⟩, ?_⟩⟩
  rw [Int.toNat_natCast]
  have m1 := Int.emod_nonneg c (show (2147483629 : Int) ≠ 0 by decide)
  have m2 := Int.emod_lt_of_pos c (show (0 : Int) < 2147483629 by decide)
  refine Bh (Ch 0 n) (fun i σ H' => (∃ left num v, σ = [some (.int c), some (.int n), some (.ref l), some (.int left), some (.int num), v] /\ 0 <= num /\ num < 4294967296) /\ Same H H' /\ ∃ ns : List Int, ns.length = i /\ H' l = some (.lst (ns.map V.int)) /\ ∀ z ∈ ns, 0 <= z)
   ⟨⟨_, _, _, rfl, by omega, by omega⟩, Same.upd hl, [], rfl, Ac, (fun z hz => by cases hz)⟩ (fun _ _ _ _ _ => True.intro) ?_ ?_
  ·rintro i x σ H' hx ⟨⟨left, num, v, rfl, u1, u2⟩, S, ns, e1, e2, e3⟩
   obtain ⟨hi, rfl⟩ := Ez hx
   refine ⟨.inr ⟨by decide, by decide⟩, .inl ⟨by decide, by decide⟩, by decide, by decide, ?_⟩
   have w1 := Int.emod_nonneg (num * 48271 + 7919 * (i : Int) + 1) (show (2147483647 : Int) ≠ 0 by decide)
   have w2 := Int.emod_lt_of_pos (num * 48271 + 7919 * (i : Int) + 1) (show (0 : Int) < 2147483647 by decide)
   generalize (num * 48271 + 7919 * (i : Int) + 1) % 2147483647 = nu at w1 w2 ⊢
   have put : ∀ y : Int, 0 <= y -> Same H (upd H' l (.lst (ns.map V.int ++ [.int y]))) /\ ∃ ns2 : List Int, ns2.length = i + 1 /\ upd H' l (.lst (ns.map V.int ++ [.int y])) l = some (.lst (ns2.map V.int)) /\ ∀ z ∈ ns2, 0 <= z := fun y y1 =>
    ⟨S.set hl, ns ++ [y], by rw [List.length_append, e1]; rfl, by rw [Ac, List.map_append]; rfl, fun z hz => by
     rcases List.mem_append.mp hz with h | h
     ·exact e3 z h
     ·have : z = y := by simpa using h
      subst this; exact y1⟩
   have hsz : (ns.map V.int).length < sizeLine := by rw [List.length_map, e1]; exact Nat.lt_of_lt_of_le (show i < 100 by omega) (by decide)
   refine and3 ?_ ?_
   ·have y1 := Int.emod_nonneg left (show (268435456 : Int) ≠ 0 by decide)
    exact ⟨.inl ⟨rfl, _, SqL.of e2⟩, by decide, l, _, _, rfl, rfl, e2, hsz, ⟨by decide, by decide⟩, ⟨_, _, _, rfl, by omega, by omega⟩, put _ y1⟩
   ·have y1 := Int.emod_nonneg (nu * nu % 2147483629 * 16807 + (i : Int)) (show (2147483587 : Int) ≠ 0 by decide)
    exact ⟨.inl ⟨rfl, _, SqL.of e2⟩, .inl ⟨by omega, by omega⟩, by decide, .inr ⟨by decide, by decide⟩, by decide, ⟨by decide, by decide⟩, l, _, _, rfl, rfl, e2, hsz, ⟨_, _, _, rfl, by omega, by omega⟩, put _ (by omega)⟩
  ·rintro σ H' ⟨⟨left, num, v, rfl, _⟩, S, ns, e1, e2, e3⟩
   rw [Be] at e1
   exact .inl (k _ l ns S hl e2 e1 e3)
abbrev lettersS : Str := "abcdefghijklmnopqrstuvwxyz"
theorem Rl : lettersS.cps.toList = (List.range 26).map (97 + ·) := by decide +kernel
theorem Ek {i : Int} (h0 : 0 <= i) (h : i < 26) : atI lettersS.cps.toList i = some (97 + i.toNat) := by
 have e : i = ((i.toNat : Nat) : Int) := by omega
 rw [e, Int.toNat_natCast]
 refine Aq ?_
 rw [Rl, List.getElem?_map, List.getElem?_range (by omega)]
 rfl
theorem K7 (l : List Nat) : Txt.join (Str.ofString "") (l.map fun k => (⟨#[k]⟩ : Str)) = ⟨l.toArray⟩ := by
 show Builtin.Str.glued (Str.ofString "") _ = _
 rw [StrLaws.glued_eq_join, show Str.ofString "" = (⟨#[]⟩ : Str) from by decide +kernel]
 exact PyProof.Rows.join_ones l
theorem Ng (l : List Nat) : ((l.map fun k => (⟨#[k]⟩ : Str)).map (·.length)).sum + (l.map fun k => (⟨#[k]⟩ : Str)).length * (Str.ofString "").length = l.length := by
 rw [show (Str.ofString "").length = 0 from by decide +kernel, Nat.mul_zero, Nat.add_zero]
 induction l with
 | nil => rfl
 | cons a l ih => rw [List.map_cons, List.map_cons, List.sum_cons, ih, List.length_cons, show (⟨#[a]⟩ : Str).length = 1 from rfl, Nat.add_comm]
theorem Ho {i : Int} (h0 : 0 <= i) (h : i < 26) : Ax (97 + i.toNat) = true := by
 unfold Ax
 simp
 omega
theorem Wu {l : List Nat} {g : Nat -> Nat} (h : ∀ j, Ax (g j) = true) : (l.map g).all Ax = true := by rw [List.all_map, List.all_eq_true]; exact fun _ _ => h _
theorem Yq {lo : Int} {n i : Nat} {x : V} (h : (rngV lo n)[i]? = some x) : i < n /\ x = .int (lo + (i : Int)) := by
 have hi := Al h
 rw [Be] at hi
 rw [Ie hi] at h
 exact ⟨hi, by simpa using h.symm⟩
theorem Uk {E : EK} {te : DE} {lo : Int} {n : Nat} {g : Nat -> Nat} {rest : St} {H : Hp} {R : Hp -> Addr -> Prop} (hn : n <= 8) (he : ∀ (j : Nat) (H1 : Hp) (Q1 : VK), j < n -> (∀ H2, Same H1 H2 -> Q1 (.str ⟨#[g j]⟩) H2) -> te (some (.int (lo + (j : Int))) :: rest) H1 Q1 E)
  (k : ∀ D H', Same H H' -> H D = none -> H' D = some (.lst ((((List.range n).map g).map fun c => (⟨#[c]⟩ : Str)).map V.str)) -> R H' D) : ∀ D, H D = none -> CmpW (Itr lo n) (gdN 0) dYes te D (fun H' => R H' D) (none :: rest) (upd H D (.lst [])) E := by
 intro D hD
 refine B8 (Ch lo n) (fun m σ H' => (∃ v, σ = v :: rest) /\ Same H H' /\ H' D = some (.lst ((((List.range m).map g).map fun c => (⟨#[c]⟩ : Str)).map V.str))) ⟨⟨_, rfl⟩, Same.upd hD, Ac⟩ (fun _ _ _ _ _ => True.intro) ?_ ?_
 ·rintro m x σ H1 hx ⟨⟨v, rfl⟩, S1, eD⟩
  obtain ⟨hm, rfl⟩ := Yq hx
  refine (he m H1 _ hm fun H2 S2 => ⟨_, S2 _ _ eD, ?_, ⟨_, rfl⟩, (S1.trans S2).set hD, ?_⟩)
  ·rw [List.length_map, List.length_map, List.length_map, List.length_range]
   exact Nat.lt_of_lt_of_le (show m < 8 by omega) (by decide)
  ·rw [Ac, List.range_succ, List.map_append, List.map_append, List.map_append]; rfl
 ·rintro σ H1 ⟨_, S1, eD⟩
  rw [Be] at eD
  exact k D H1 S1 hD eD
theorem Fj {l : List Nat} {n : Int} (h0 : 0 <= n) (h : n.toNat <= l.length) : Txt.slice ⟨l.toArray⟩ none (some n) = ⟨(l.take n.toNat).toArray⟩ := by
 have e := eq_of_beq (PyProof.Rows.slice_closes_to (x := ⟨l.toArray⟩) (j := n) ⟨h0, by show n <= (l.length : Int); omega⟩)
 rw [e, Int.sub_zero]
 rfl
theorem Do {l : List Nat} {n : Int} (h0 : 0 <= n) (h : n.toNat <= l.length) : Txt.slice ⟨l.toArray⟩ (some n) none = ⟨(l.drop n.toNat).toArray⟩ := by
 have e := eq_of_beq (PyProof.Rows.slice_closes_from (x := ⟨l.toArray⟩) (i := n) ⟨h0, by show n <= (l.length : Int); omega⟩)
 rw [e]
 show (⟨((l.drop n.toNat).take ((l.length : Int) - n).toNat).toArray⟩ : Str) = _
 rw [List.take_of_length_le (by rw [List.length_drop]; omega)]
theorem Gr (a b : List Nat) : ((⟨a.toArray⟩ : Str) ++ ⟨b.toArray⟩) = ⟨(a ++ b).toArray⟩ := by
 apply En
 rw [Str.cps_append]
 simp
abbrev Cv (c : Int) : List Nat := (List.range 7).map (Qq c)
abbrev Dt (c : Int) : Nat := (1 + c / 4 % 8).toNat
abbrev atB (c : Int) : Nat := (c / 32 % (1 + c / 4 % 8)).toNat
abbrev Bi (c : Int) : List Nat := ([97 + (c / 256 % 26).toNat] ++ Cv c).take (Dt c)
theorem G3 {c : Int} (h : c % 4 = 3) (k : Nat) : Bc c k = ⟨([97 + ((c / 4 + (k : Int) / 8) % 26).toNat] ++ (Cv c).take (k % 8)).toArray⟩ := by unfold Bc; rw [if_pos h]
theorem G4 {c : Int} (h : ¬ c % 4 = 3) (k : Nat) : Bc c k = ⟨((Bi c).take (atB c) ++ [97 + ((c / 6656 + (k : Int)) % 26).toNat] ++ (Bi c).drop (atB c + 1)).toArray⟩ := by unfold Bc; rw [if_neg h]
theorem Eo (c : Int) : (Cv c).length = 7 := by simp
theorem Vz (c : Int) : 1 <= Dt c /\ Dt c <= 8 /\ atB c < Dt c /\ (Bi c).length = Dt c := by
 have h1 : 0 <= c / 32 % (1 + c / 4 % 8) /\ c / 32 % (1 + c / 4 % 8) < 1 + c / 4 % 8 := ⟨Int.emod_nonneg _ (by omega), Int.emod_lt_of_pos _ (by omega)⟩
 have hs : 1 <= Dt c /\ Dt c <= 8 := by show 1 <= (1 + c / 4 % 8).toNat /\ (1 + c / 4 % 8).toNat <= 8; omega
 refine ⟨hs.1, hs.2, ?_, ?_⟩
 ·show (c / 32 % (1 + c / 4 % 8)).toNat < (1 + c / 4 % 8).toNat
  omega
 ·show (([97 + (c / 256 % 26).toNat] ++ Cv c).take (Dt c)).length = _
  rw [List.length_take, List.length_append, Eo]
  show min (Dt c) (1 + 7) = _
  omega
theorem Nj (c : Int) : (Cv c).all Ax = true := Wu fun j => Ho (Int.emod_nonneg _ (by decide)) (Int.emod_lt_of_pos _ (by decide))
theorem G8 {l : List Nat} {n : Nat} (h : l.all Ax = true) : (l.take n).all Ax = true := List.all_eq_true.mpr fun x hx => List.all_eq_true.mp h x (List.mem_of_mem_take hx)
theorem Tj {l : List Nat} {n : Nat} (h : l.all Ax = true) : (l.drop n).all Ax = true := List.all_eq_true.mpr fun x hx => List.all_eq_true.mp h x (List.mem_of_mem_drop hx)
theorem Li (i : Int) : ([97 + (i % 26).toNat] : List Nat).all Ax = true := by
 rw [List.all_cons, Ho (Int.emod_nonneg _ (by decide)) (Int.emod_lt_of_pos _ (by decide))]
 rfl
theorem Y1 (c : Int) (k : Nat) : okW (Bc c k) := by
 by_cases h : c % 4 = 3
 ·rw [G3 h]
  have e : ([97 + ((c / 4 + (k : Int) / 8) % 26).toNat] ++ (Cv c).take (k % 8)).length = 1 + k % 8 := by
   rw [List.length_append, List.length_take, Eo]
   show 1 + min (k % 8) 7 = _
   omega
  refine ⟨?_, ?_, ?_⟩
  ·show 1 <= ([97 + ((c / 4 + (k : Int) / 8) % 26).toNat] ++ (Cv c).take (k % 8)).toArray.size
   rw [List.size_toArray, e]; omega
  ·show ([97 + ((c / 4 + (k : Int) / 8) % 26).toNat] ++ (Cv c).take (k % 8)).toArray.size <= 8
   rw [List.size_toArray, e]; omega
  ·show ([97 + ((c / 4 + (k : Int) / 8) % 26).toNat] ++ (Cv c).take (k % 8)).all Ax = true
   rw [List.all_append, Li, G8 (Nj c)]; rfl
 ·rw [G4 h]
  obtain ⟨s1, s2, s3, s4⟩ := Vz c
  have hb : (Bi c).all Ax = true := G8 (by rw [List.all_append, Li, Nj]; rfl)
  have e : ((Bi c).take (atB c) ++ [97 + ((c / 6656 + (k : Int)) % 26).toNat] ++ (Bi c).drop (atB c + 1)).length = Dt c := by
   rw [List.length_append, List.length_append, List.length_take, List.length_drop, s4]
   show min (atB c) (Dt c) + 1 + (Dt c - (atB c + 1)) = _
   omega
  refine ⟨?_, ?_, ?_⟩
  ·show 1 <= ((Bi c).take (atB c) ++ [97 + ((c / 6656 + (k : Int)) % 26).toNat] ++ (Bi c).drop (atB c + 1)).toArray.size
   rw [List.size_toArray, e]; exact s1
  ·show ((Bi c).take (atB c) ++ [97 + ((c / 6656 + (k : Int)) % 26).toNat] ++ (Bi c).drop (atB c + 1)).toArray.size <= 8
   rw [List.size_toArray, e]; exact s2
  ·show ((Bi c).take (atB c) ++ [97 + ((c / 6656 + (k : Int)) % 26).toNat] ++ (Bi c).drop (atB c + 1)).all Ax = true
   rw [List.all_append, List.all_append, Li, G8 hb, Tj hb]; rfl
theorem Wq {c : Int} {i j : Nat} (hi : i <= 8) (hj : j <= 8) (h : Bc c i = Bc c j) : i = j := by
 have h := congrArg (fun z : Str => z.cps.toList) h
 by_cases hc : c % 4 = 3
 ·rw [G3 hc, G3 hc] at h
  have h : [97 + ((c / 4 + (i : Int) / 8) % 26).toNat] ++ (Cv c).take (i % 8) = [97 + ((c / 4 + (j : Int) / 8) % 26).toNat] ++ (Cv c).take (j % 8) := h
  have h1 : 97 + ((c / 4 + (i : Int) / 8) % 26).toNat = 97 + ((c / 4 + (j : Int) / 8) % 26).toNat := (List.cons.inj h).1
  have h2 : ((Cv c).take (i % 8)).length = ((Cv c).take (j % 8)).length := congrArg List.length (List.cons.inj h).2
  rw [List.length_take, List.length_take, Eo] at h2
  omega
 ·rw [G4 hc, G4 hc] at h
  obtain ⟨s1, s2, s3, s4⟩ := Vz c
  have h : (Bi c).take (atB c) ++ [97 + ((c / 6656 + (i : Int)) % 26).toNat] ++ (Bi c).drop (atB c + 1) = (Bi c).take (atB c) ++ [97 + ((c / 6656 + (j : Int)) % 26).toNat] ++ (Bi c).drop (atB c + 1) := h
  have h1 := List.append_cancel_right h
  have h2 := List.append_cancel_left h1
  have h3 : 97 + ((c / 6656 + (i : Int)) % 26).toNat = 97 + ((c / 6656 + (j : Int)) % 26).toNat := (List.cons.inj h2).1
  omega
theorem ab1 {f : Addr} {fd : FuncData} (Z : Ar K t) (F : FunD K "_law_word" "_law_word" Ik f fd .none) (T : Tab P w K mg base 0 (gb_0 K t) bl) : FnOk P w K mg base CX0 1 f fd Lz (F7 K t) := by
 refine F.okW0 ai5 aj9 T (ah5 K t) (fun vs H Q E h => ?_) (fun vs H Q E h => ?_)
 ·obtain ⟨c, k, rfl, _⟩ := h; rfl
 ·obtain ⟨c, k, rfl, hk, q⟩ := h
  have big : (100 : Nat) <= sizeLine := by decide
  refine ⟨rfl, ⟨by decide, by decide, by decide, by decide⟩, ?_⟩
  refine Uk (lo := 1) (n := 7) (g := Qq c) (rest := [some (.int c), some (.str lettersS)]) (by decide) (fun j H2 Q1 hj q => ?_) fun D H2 S2 hD eD => ?_
  ·exact ⟨⟨by decide, by decide⟩, .inl ⟨by decide, by decide⟩, .inl ⟨by omega, by omega⟩, by decide, by decide, _, Ek (Int.emod_nonneg _ (by decide)) (Int.emod_lt_of_pos _ (by decide)), q H2 (Same.refl _)⟩
  ·refine ⟨_, D, _, rfl, rfl, SqL.of eD, ?_, ?_⟩
   ·rw [Ng, List.length_map, List.length_range]; decide
   rw [K7]
   have q := q H2 S2
   have tl := Eo c
   refine ⟨by decide, ite2 (fun hc => ?_) (fun hc => ?_)⟩
   ·have hc : c % 4 = 3 := by simpa using hc
    refine ⟨⟨by decide, by decide⟩, ⟨by decide, by decide⟩, by decide, by decide, _, Ek (Int.emod_nonneg _ (by decide)) (Int.emod_lt_of_pos _ (by decide)), by decide, (show 7 <= sizeLine by decide), ?_⟩
    rw [Fj (by omega) (by rw [tl]; omega)]
    have e : ((k : Int) % 8).toNat = k % 8 := by omega
    rw [e]
    refine ⟨Nat.le_trans (Nat.add_le_add_left (show ((Cv c).take (k % 8)).toArray.size <= 7 by rw [List.size_toArray, List.length_take, tl]; omega) _) (show 1 + 7 <= sizeLine by decide), ?_⟩
    rw [G3 hc, <- Gr] at q
    exact q
   ·have hc : ¬ c % 4 = 3 := by simpa using hc
    obtain ⟨s1, s2, s3, s4⟩ := Vz c
    have h1 : 0 <= c / 32 % (1 + c / 4 % 8) /\ c / 32 % (1 + c / 4 % 8) < 1 + c / 4 % 8 := ⟨Int.emod_nonneg _ (by omega), Int.emod_lt_of_pos _ (by omega)⟩
    refine ⟨⟨by decide, by decide⟩, by decide, ⟨by decide, by decide⟩, by omega, ⟨by decide, by decide⟩, by decide, by decide, _, Ek (Int.emod_nonneg _ (by decide)) (Int.emod_lt_of_pos _ (by decide)), (show 1 + 7 <= sizeLine by decide), (show 8 <= sizeLine by decide), ?_⟩
    have eb : Txt.slice ((⟨#[97 + (c / 256 % 26).toNat]⟩ : Str) ++ ⟨(Cv c).toArray⟩) none (some (1 + c / 4 % 8)) = ⟨(Bi c).toArray⟩ := by
     rw [show (#[97 + (c / 256 % 26).toNat] : Array Nat) = [97 + (c / 256 % 26).toNat].toArray from rfl, Gr, Fj (by omega) (by rw [List.length_append, tl]; show _ <= 1 + 7; omega)]
    rw [eb]
    have lb : (⟨(Bi c).toArray⟩ : Str).length <= 8 := by
     show (Bi c).toArray.size <= 8
     rw [List.size_toArray, s4]; exact s2
    have ea : Txt.slice ⟨(Bi c).toArray⟩ none (some (c / 32 % (1 + c / 4 % 8))) = ⟨((Bi c).take (atB c)).toArray⟩ := Fj h1.1 (by rw [s4]; exact Nat.le_of_lt s3)
    have ed : Txt.slice ⟨(Bi c).toArray⟩ (some (c / 32 % (1 + c / 4 % 8) + 1)) none = ⟨((Bi c).drop (atB c + 1)).toArray⟩ := by
     rw [Do (by omega) (by rw [s4]; show (c / 32 % (1 + c / 4 % 8) + 1).toNat <= (1 + c / 4 % 8).toNat; omega), show (c / 32 % (1 + c / 4 % 8) + 1).toNat = atB c + 1 by show _ = (c / 32 % (1 + c / 4 % 8)).toNat + 1; omega]
    have la := Txt.slice_le (⟨(Bi c).toArray⟩ : Str) none (some (c / 32 % (1 + c / 4 % 8)))
    have ld := Txt.slice_le (⟨(Bi c).toArray⟩ : Str) (some (c / 32 % (1 + c / 4 % 8) + 1)) none
    refine ⟨by omega, ⟨by decide, by decide⟩, by decide, by decide, _, Ek (Int.emod_nonneg _ (by decide)) (Int.emod_lt_of_pos _ (by decide)), Nat.le_trans (Nat.add_le_add_right (Nat.le_trans la lb) _) (show 8 + 1 <= sizeLine by decide), by omega, ?_, ?_⟩
    ·rw [Ap]
     exact Nat.le_trans (Nat.add_le_add (Nat.add_le_add_right (Nat.le_trans la lb) _) (Nat.le_trans ld lb)) (show 8 + 1 + 8 <= sizeLine by decide)
    ·rw [G4 hc, <- Gr, <- Gr] at q
     rw [ea, ed]
     exact q
structure SwL (H H' : Hp) (ls : Addr) (ds : List (((Str × List Str) × Addr) × Addr)) : Prop where
 at_ : H' ls = some (.lst (ds.map fun x => .ref x.2))
 tup : ∀ x ∈ ds, H' x.2 = some (.tup [.str x.1.1.1, .ref x.1.2])
 lst : ∀ x ∈ ds, H' x.1.2 = some (lstO x.1.1.2)
 ne : ∀ x ∈ ds, x.1.2 ≠ ls /\ H x.1.2 = none
theorem SwL.up {H H1 H2 : Hp} {ls : Addr} {ds : List (((Str × List Str) × Addr) × Addr)} (h : SwL H H1 ls ds) (S : Same H1 H2) : SwL H H2 ls ds := ⟨S _ _ h.at_, fun x hx => S _ _ (h.tup x hx), fun x hx => S _ _ (h.lst x hx), h.ne⟩
theorem SwL.snoc {H H1 : Hp} {ls : Addr} {ds : List (((Str × List Str) × Addr) × Addr)} (h : SwL H H1 ls ds) {e : Str × List Str} {la ta : Addr} (ht : H1 ta = some (.tup [.str e.1, .ref la])) (hl : H1 la = some (lstO e.2)) (nl : la ≠ ls) (fl : H la = none) :
  SwL H (upd H1 ls (.lst ((ds.map fun x => V.ref x.2) ++ [.ref ta]))) ls (ds ++ [((e, la), ta)]) := by
 have nt : ∀ {a : Addr} {xs : List V}, H1 a = some (.tup xs) -> a ≠ ls := fun q z => by rw [z, h.at_] at q; cases q
 refine ⟨by rw [Ac, List.map_append]; rfl, fun x hx => ?_, fun x hx => ?_, fun x hx => ?_⟩
 ·rcases List.mem_append.mp hx with hx | hx
  ·rw [Af (nt (h.tup x hx))]; exact h.tup x hx
  ·have : x = ((e, la), ta) := by simpa using hx
   subst this
   rw [Af (nt ht)]; exact ht
 ·rcases List.mem_append.mp hx with hx | hx
  ·rw [Af (h.ne x hx).1]; exact h.lst x hx
  ·have : x = ((e, la), ta) := by simpa using hx
   subst this
   rw [Af nl]; exact hl
 ·rcases List.mem_append.mp hx with hx | hx
  ·exact h.ne x hx
  ·have : x = ((e, la), ta) := by simpa using hx
   subst this
   exact ⟨nl, fl⟩
theorem Op (sw : Sw) (e : Str × List Str) : Ba (sw ++ [e]) = Ba sw * e.2.length := by unfold Ba; rw [List.foldl_append]; rfl
theorem SwL.swIn {H H' : Hp} {ls : Addr} {ds : List (((Str × List Str) × Addr) × Addr)} (h : SwL H H' ls ds) : SwIn any H' ls (ds.map (·.1.1)) := ⟨ds, rfl, ⟨trivial, h.at_⟩, fun x hx => ⟨⟨trivial, h.tup x hx⟩, trivial, h.lst x hx⟩⟩
theorem a02 (b : Bool) : ∃ m : Int, atI [V.int 24, .int 256] (if b = true then 1 else 0) = some (.int m) /\ 4 <= m /\ m <= 256 := by
 cases b
 ·exact ⟨24, rfl, by decide, by decide⟩
 ·exact ⟨256, rfl, by decide, by decide⟩
theorem Nm {c : Int} {s n : Nat} (h : s + n <= 9) : ((List.range n).map fun j => Bc c (s + j)).Nodup := by
 refine List.pairwise_iff_getElem.mpr fun i j hi hj hij => ?_
 rw [List.length_map, List.length_range] at hi hj
 rw [List.getElem_map, List.getElem_map, List.getElem_range, List.getElem_range]
 intro e
 have := Wq (by omega) (by omega) e
 omega
theorem Nn {c : Int} {f : Nat -> Nat} {n : Nat} : ∀ z ∈ (List.range n).map (fun j => Bc c (f j)), okW z := fun z hz => by
 obtain ⟨j, _, rfl⟩ := List.mem_map.mp hz
 exact Y1 _ _
theorem am9 {f : Addr} {fd : FuncData} (Z : Ar K t) (F : FunD K "_law_switches" "_law_switches" s_zj f fd .none) (T : Tab P w K mg base 1 (gb_1 K t) bl) : FnOk P w K mg base CX0 2 f fd P_zj (V5 K t) := by
 refine F.okW0 au4 ay5 T (ar6 K t) (fun vs H Q E h => ?_) (fun vs H Q E h => ?_)
 ·obtain ⟨a, ns, rfl, _⟩ := h; rfl
 ·obtain ⟨a, ns, rfl, hS, k⟩ := h
  refine ⟨a, ns, 0, rfl, hS, (show 2 <= sizeLine by decide), fun q hq => ⟨⟨by decide, by decide⟩, by decide, ?_⟩⟩
  obtain ⟨m, hm, hm4, hm256⟩ := a02 (decide (Am ns 0 / 5 % 8 = 3))
  refine ⟨_, .int m, .inl (SqL.of Ac), hm, ?_⟩
  have S1 := Same.upd (o := .lst [.int 24, .int 256]) hq
  generalize upd H q (.lst [.int 24, .int 256]) = H1 at S1 ⊢
  refine ⟨a, ns, 1, rfl, S1.seqL hS, ⟨by decide, by decide⟩, by decide, .inr ⟨by decide, by decide⟩, by decide, fun ls hls => ?_⟩
  have S2 := S1.trans (Same.upd (o := .lst []) hls)
  have fls := S1.free hls
  have L2 : SwL H (upd H1 ls (.lst [])) ls [] := ⟨Ac, fun x hx => (by cases hx), fun x hx => (by cases hx), fun x hx => (by cases hx)⟩
  generalize upd H1 ls (.lst []) = H2 at S2 L2 ⊢
  obtain ⟨sh, hsh, hsh2⟩ : ∃ sh : Nat, Am ns 1 / 3 % 2 * 5 = (sh : Int) /\ (sh = 0 \/ sh = 5) := ⟨(Am ns 1 / 3 % 2 * 5).toNat, by omega, by omega⟩
  have hN : 0 <= 1 + Am ns 0 % 5 /\ 1 <= (1 + Am ns 0 % 5).toNat /\ (1 + Am ns 0 % 5).toNat <= 5 := by omega
  refine ⟨by decide, Am ns 0, (1 + Am ns 0 % 5).toNat, by rw [show (((1 + Am ns 0 % 5).toNat : Nat) : Int) = 1 + Am ns 0 % 5 by omega]; rfl, by omega, fun H3 lx xs S3 hlx elx lxs pos => .inl ⟨⟨_, SqL.of elx⟩, ?_⟩⟩
  have nlx : lx ≠ ls := (Ae L2.at_ hlx).symm
  have hq' : ∀ {H'}, Same H H' -> SqL K H' a (ns.map V.int) := fun S => S.seqL hS
  refine Bh (A0 (xs.map V.int)) (fun i σ H' => ∃ ds : List (((Str × List Str) × Addr) × Addr), (∃ v6 v7 v8, σ = [some (.ref a), some (.int (Am ns 0)), some (.int m), some (.int (Am ns 1 / 3 % 2 * 5)), some (.ref ls), some (.int (Ba (ds.map (·.1.1)) : Nat)), v6, v7, v8]) /\ Same H H' /\ H' lx = some (.lst (xs.map V.int)) /\ SwL H H' ls ds /\
    ds.map (·.1.1.1) = (List.range ds.length).map (fun j => Bc (Am ns 1) (0 + j)) /\ ds.length <= i /\ (∀ x ∈ ds, Ff x.1.1.2) /\ (Ba (ds.map (·.1.1)) : Int) <= m /\ (i = 0 -> ds = []) /\ (1 <= i -> ds ≠ []))
   ⟨[], ⟨_, _, _, rfl⟩, S2.trans S3, elx, L2.up S3, rfl, Nat.le_refl _, fun x hx => (by cases hx), (show ((1 : Nat) : Int) <= m by omega), fun _ => rfl, fun h => (by omega)⟩ (fun i σ H' _ q => by obtain ⟨_, _, _, q, _⟩ := q; exact SqL.of q) ?_ ?_
  ·rintro i x σ H4 hx ⟨ds, ⟨v6, v7, v8, rfl⟩, S4, elx4, L4, nm, dl, oks, pm, z0, z1⟩
   obtain ⟨xi, hxi, rfl⟩ := Ak hx
   have hi5 := Al hxi
   have hp0 : 1 <= Ba (ds.map (·.1.1)) := Bv (Nat.le_refl 1) (fun y hy => by obtain ⟨x, hx, rfl⟩ := List.mem_map.mp hy; exact oks x hx)
   refine ⟨by decide, ?_⟩
   have hs : 2 <= 2 + xi % 3 /\ 2 + xi % 3 <= 4 := by omega
   have rest : ∀ sz : Int, 2 <= sz -> sz <= 4 -> (i = 0 -> (Ba (ds.map (·.1.1)) : Int) * sz <= m) -> ∀ D : Outs, D.nx = (fun σ H' => ∃ ds : List (((Str × List Str) × Addr) × Addr), (∃ v6 v7 v8, σ = [some (.ref a), some (.int (Am ns 0)), some (.int m), some (.int (Am ns 1 / 3 % 2 * 5)), some (.ref ls), some (.int (Ba (ds.map (·.1.1)) : Nat)), v6, v7, v8]) /\ Same H H' /\ H' lx = some (.lst (xs.map V.int)) /\ SwL H H' ls ds /\
     ds.map (·.1.1.1) = (List.range ds.length).map (fun j => Bc (Am ns 1) (0 + j)) /\ ds.length <= i + 1 /\ (∀ x ∈ ds, Ff x.1.1.2) /\ (Ba (ds.map (·.1.1)) : Int) <= m /\ (i + 1 = 0 -> ds = []) /\ (1 <= i + 1 -> ds ≠ [])) ->
     (dSeq (dIf (dTst (dBin rLeD (dBin Bw (dVar 5) (dVar 7)) (dVar 2))) (dSeq (dSet 5 (dBin Bw (dVar 5) (dVar 7)))
   (dSeq (dSet 8 (Bm [none, some 0, some 3] (iRng (Aa (dVar 7) dNil)) (gdN 0) dYes (dFn (spE (F7 K t) []) (Aa (dFn (spE (Ct K t) []) (Aa (dVar 1) (Aa (dC (.int 1)) dNil))) (Aa (dBin (Aj K) (dVar 2) (dVar 0)) dNil)))))
   (dSeq (Dq (dMt (rMt K [⟨"list", "list.append", Cb⟩]) (dVar 4) (Aa (dTup (Aa (dFn (spE (F7 K t) []) (Aa (dFn (spE (Ct K t) []) (Aa (dVar 0) (Aa (dC (.int 1)) dNil))) (Aa (dFn (fun vs H Q _ => (rLen K) vs H Q) (Aa (dVar 4) dNil)) dNil))) (Aa (dVar 8) dNil))) dNil)))
   Ad))) Ad) Ad) D [some (.ref a), some (.int (Am ns 0)), some (.int m), some (.int (Am ns 1 / 3 % 2 * 5)), some (.ref ls), some (.int (Ba (ds.map (·.1.1)) : Nat)), some (.int xi), some (.int sz), v8] H4 := by
    intro sz h2 h4 hz D hD
    have cm : CMul (Ba (ds.map (·.1.1)) : Nat) sz := .inr ⟨by omega, by omega⟩
    refine ⟨cm, ite2 (fun e => ⟨cm, ⟨by omega, by omega⟩, fun L hL => ?_⟩) (fun e => ?_)⟩
    ·have e : ((Ba (ds.map (·.1.1)) : Nat) : Int) * sz <= m := by simpa using e
     have fL := S4.free hL
     have nLs : L ≠ ls := (Ae L4.at_ hL).symm
     refine B8 (Ch 0 sz.toNat) (fun g σ H' => (∃ v, σ = [v, some (.ref a), some (.int (Am ns 1 / 3 % 2 * 5))]) /\ Same H4 H' /\ H' L = some (lstO ((List.range g).map fun j => Bc (Am ns 1) (sh + j)))) ⟨⟨_, rfl⟩, Same.upd hL, Ac⟩ (fun _ _ _ _ _ => True.intro) ?_ ?_
     ·rintro g y σ H5 hy ⟨⟨v, rfl⟩, S5, eL⟩
      obtain ⟨hg, rfl⟩ := Ez hy
      refine ⟨a, ns, 1, rfl, hq' (S4.trans S5), ?_⟩
      refine ⟨Am ns 1, sh + g, by rw [hsh, show ((sh : Int) + (g : Int)) = ((sh + g : Nat) : Int) by omega]; rfl, by omega, fun H6 S6 => ?_⟩
      refine ⟨_, S6 _ _ eL, ?_, ⟨_, rfl⟩, (S5.trans S6).set hL, ?_⟩
      ·rw [List.length_map, List.length_map, List.length_range]
       exact Nat.lt_of_lt_of_le (show g < 4 by omega) (by decide)
      ·rw [Ac, lstO, List.range_succ, List.map_append, List.map_append]; rfl
     ·rintro σ H5 ⟨_, S5, eL⟩
      rw [Be] at eL
      have L5 := L4.up S5
      have lds : ds.length <= 4 := by omega
      refine ⟨.inl ⟨rfl, _, SqL.of L5.at_⟩, a, ns, 1, rfl, hq' (S4.trans S5), .inl ⟨_, .inl (SqL.of L5.at_), ?_⟩⟩
      rw [List.length_map]
      refine ⟨Am ns 1, ds.length, rfl, by omega, fun H6 S6 => ⟨(show 2 <= sizeLine by decide), fun ta hta => ?_⟩⟩
      have ST := Same.upd (o := .tup [.str (Bc (Am ns 1) ds.length), .ref L]) hta
      have et : upd H6 ta (.tup [.str (Bc (Am ns 1) ds.length), .ref L]) ta = some (.tup [.str (Bc (Am ns 1) ds.length), .ref L]) := Ac
      generalize upd H6 ta (.tup [.str (Bc (Am ns 1) ds.length), .ref L]) = H7 at ST et ⊢
      have S7 := S6.trans ST
      have L7 := L5.up S7
      refine ⟨ls, _, _, rfl, rfl, L7.at_, ?_, ?_⟩
      ·rw [List.length_map]; exact Nat.lt_of_le_of_lt lds (by decide)
      show D.nx _ _
      rw [hD]
      have lss : ((List.range sz.toNat).map fun j => Bc (Am ns 1) (sh + j)).length = sz.toNat := by simp
      have pe : ((Ba ((ds ++ [(((Bc (Am ns 1) ds.length, (List.range sz.toNat).map fun j => Bc (Am ns 1) (sh + j)), L), ta)]).map (·.1.1)) : Nat) : Int) = (Ba (ds.map (·.1.1)) : Nat) * sz := by
       rw [List.map_append]
       show ((Ba (_ ++ [(Bc (Am ns 1) ds.length, (List.range sz.toNat).map fun j => Bc (Am ns 1) (sh + j))]) : Nat) : Int) = _
       rw [Op, Int.natCast_mul, lss, show ((sz.toNat : Nat) : Int) = sz by omega]
      refine ⟨ds ++ [(((Bc (Am ns 1) ds.length, (List.range sz.toNat).map fun j => Bc (Am ns 1) (sh + j)), L), ta)], ⟨_, _, _, congrArg (fun z => [some (V.ref a), some (V.int (Am ns 0)), some (V.int m), some (V.int (Am ns 1 / 3 % 2 * 5)), some (V.ref ls), some (V.int z), some (V.int xi), some (V.int sz), some (V.ref L)]) pe.symm⟩, (S4.trans (S5.trans S7)).set fls, ?_, L7.snoc et (S7 _ _ eL) nLs fL, ?_, ?_, ?_, by rw [pe]; exact e, fun h => (by omega), fun _ h => by simp at h⟩
      ·rw [Af nlx]
       exact (S5.trans S7) _ _ elx4
      ·rw [List.map_append, nm, List.length_append]
       show _ = (List.range (ds.length + 1)).map _
       rw [List.range_succ, List.map_append]
       show _ ++ [Bc (Am ns 1) ds.length] = _ ++ [Bc (Am ns 1) (0 + ds.length)]
       rw [Nat.zero_add]
      ·rw [List.length_append]
       show ds.length + 1 <= _
       omega
      ·intro x hx
       rcases List.mem_append.mp hx with hx | hx
       ·exact oks x hx
       ·have : x = (((Bc (Am ns 1) ds.length, (List.range sz.toNat).map fun j => Bc (Am ns 1) (sh + j)), L), ta) := by simpa using hx
        subst this
        exact ⟨⟨Nn, Nm (by omega), by rw [lss]; omega⟩, by rw [lss]; omega, by rw [lss]; omega⟩
    ·have e : ¬ ((Ba (ds.map (·.1.1)) : Nat) : Int) * sz <= m := by simpa using e
     show D.nx _ _
     rw [hD]
     have hi0 : i ≠ 0 := fun z => e (hz z)
     exact ⟨ds, ⟨_, _, _, rfl⟩, S4, elx4, L4, nm, by omega, oks, pm, fun h => (by omega), fun _ => z1 (by omega)⟩
   refine ⟨.inr ⟨by omega, by omega⟩, ite2 (fun e => ?_) (fun e => ?_)⟩
   ·refine rest 2 (by decide) (by decide) (fun hz => ?_) _ (by rfl)
    rw [z0 hz]
    show ((1 : Nat) : Int) * 2 <= m
    omega
   ·refine rest (2 + xi % 3) hs.1 hs.2 (fun hz => ?_) _ (by rfl)
    rw [z0 hz]
    show ((1 : Nat) : Int) * (2 + xi % 3) <= m
    omega
  ·rintro σ H4 ⟨ds, ⟨v6, v7, v8, rfl⟩, S4, elx4, L4, nm, dl, oks, pm, z0, z1⟩
   rw [List.length_map] at dl z0 z1
   have e1 : (ds.map (·.1.1)).map (·.1) = ds.map (·.1.1.1) := by rw [List.map_map]; rfl
   have l5 : ds.length <= 5 := by omega
   refine .inl (k H4 ls (ds.map (·.1.1)) S4 L4.swIn ⟨?_, ?_, ?_, ?_, ?_⟩)
   ·rw [List.length_map]
    exact List.length_pos_iff.mpr (z1 (by omega))
   ·rw [List.length_map]; exact l5
   ·rw [e1, nm]; exact Nm (by omega)
   ·intro y hy
    obtain ⟨x, hx, rfl⟩ := List.mem_map.mp hy
    refine ⟨?_, oks x hx⟩
    have hm : x.1.1.1 ∈ ds.map (·.1.1.1) := List.mem_map.mpr ⟨x, hx, rfl⟩
    rw [nm] at hm
    exact Nn _ hm
   ·omega
abbrev nO (a : List Nat) : HO := .lst (a.map fun n : Nat => V.int (n : Int))
theorem Ks (acc : List (List Nat)) (n : Nat) : (Dv acc n).length = acc.length * n := by
 unfold Dv
 induction acc with
 | nil => simp
 | cons a acc ih => rw [List.flatMap_cons, List.length_append, ih, List.length_map, List.length_range, List.length_cons, Nat.add_mul, Nat.one_mul, Nat.add_comm]
theorem Fq {sw : Sw} {i : Nat} {e : Str × List Str} (h : sw[i]? = some e) : digS (sw.take (i + 1)) = Dv (digS (sw.take i)) e.2.length := by
 unfold digS
 rw [A7 h, List.foldl_append]
 rfl
theorem Gc : ∀ (ns : List Nat) (acc : List (List Nat)), (ns.foldl Dv acc).length = ns.foldl (fun n m => n * m) acc.length
 | [], _ => rfl
 | n :: ns, acc => by rw [List.foldl_cons, List.foldl_cons, Gc ns, Ks]
theorem W6 (sw : Sw) : (digS sw).length = Ba sw := by
 unfold digS Ba
 rw [Gc, List.foldl_map]
 rfl
def Zl (k : Nat) (ds : List (List Nat)) : Prop := ∀ d ∈ ds, d.length = k
theorem Gd : ∀ (ns : List Nat) (k : Nat) (acc : List (List Nat)), Zl k acc -> Zl (k + ns.length) (ns.foldl Dv acc)
 | [], _, _, h => h
 | n :: ns, k, acc, h => by
  have := Gd ns (k + 1) (Dv acc n) (fun d hd => by
   obtain ⟨a, ha, hd⟩ := List.mem_flatMap.mp hd
   obtain ⟨j, _, rfl⟩ := List.mem_map.mp hd
   rw [List.length_append, h a ha]
   rfl)
  rw [List.foldl_cons, List.length_cons, show k + (ns.length + 1) = k + 1 + ns.length by omega]
  exact this
theorem Pu {sw : Sw} : ∀ d ∈ digS sw, d.length = sw.length := fun d hd => by
 have := Gd (sw.map fun x : Str × List Str => x.2.length) 0 [[]] (fun d hd => by simp at hd; rw [hd]; rfl) d hd
 rw [Nat.zero_add, List.length_map] at this
 exact this
theorem Oy {rows : List (List Nat)} {j : Nat} {r : List Nat} {n : Nat} (h : rows[j]? = some r) : Dv (rows.take (j + 1)) n = Dv (rows.take j) n ++ (List.range n).map fun z => r ++ [z] := by
 unfold Dv
 rw [List.take_add_one, h, Option.toList_some, List.flatMap_append]
 simp
theorem W7 {E : EK} {H : Hp} {ra : Addr} {a : List Nat} {n : Nat} {σ : St} {R : Hp -> Addr -> Prop} (hσ : ∃ v, σ = [v, some (.ref ra)]) (ha : H ra = some (nO a)) (hl : a.length <= 100) (hn : n <= 8)
  (k : ∀ D H', Same H H' -> H D = none -> ∀ fs : List (List Nat × Addr), fs.map (·.1) = (List.range n).map (fun z => a ++ [z]) -> H' D = some (.lst (fs.map fun x => .ref x.2)) -> (∀ x ∈ fs, x.2 ≠ D /\ H x.2 = none /\ H' x.2 = some (nO x.1)) -> R H' D) :
  ∀ D, H D = none -> CmpW (Itr 0 n) (gdN 0) dYes (dBin (Aj K) (dVar 1) (dLst (Aa (dVar 0) dNil))) D (fun H' => R H' D) σ (upd H D (.lst [])) E := by
 intro D hD
 refine B8 (Ch 0 n) (fun m σ H' => (∃ v, σ = [v, some (.ref ra)]) /\ Same H H' /\ ∃ fs : List (List Nat × Addr), fs.map (·.1) = (List.range m).map (fun z => a ++ [z]) /\ H' D = some (.lst (fs.map fun x => .ref x.2)) /\ ∀ x ∈ fs, x.2 ≠ D /\ H x.2 = none /\ H' x.2 = some (nO x.1))
  ⟨hσ, Same.upd hD, [], rfl, Ac, fun x hx => by cases hx⟩ (fun _ _ _ _ _ => True.intro) ?_ ?_
 ·rintro m x σ H1 hx ⟨⟨v, rfl⟩, S1, fs, ef, eD, hf⟩
  obtain ⟨hm, rfl⟩ := Ez hx
  refine ⟨(show 1 <= sizeLine by decide), fun p hp => .inl ⟨ra, p, _, _, rfl, rfl, (Same.upd hp) _ _ (S1 _ _ ha), Ac, ?_, fun q hq => ?_⟩⟩
  ·rw [List.length_map]; exact Nat.le_trans (show a.length + 1 <= 101 by omega) (by decide)
  have Sp := Same.upd (o := .lst [.int (m : Int)]) hp
  have Sq := Same.upd (o := .lst ((a.map fun n : Nat => V.int (n : Int)) ++ [.int (m : Int)])) hq
  have eq : upd (upd H1 p (.lst [.int (m : Int)])) q (.lst ((a.map fun n : Nat => V.int (n : Int)) ++ [.int (m : Int)])) q = some (nO (a ++ [m])) := by rw [Ac, nO, List.map_append]; rfl
  have S12 := Sp.trans Sq
  have qD : q ≠ D := (Ae (Sp _ _ eD) hq).symm
  have hq0 : H q = none := (S1.trans Sp).free hq
  generalize upd (upd H1 p (.lst [.int (m : Int)])) q (.lst ((a.map fun n : Nat => V.int (n : Int)) ++ [.int (m : Int)])) = H2 at S12 eq ⊢
  have eD2 := S12 _ _ eD
  refine ⟨_, eD2, ?_, ⟨_, rfl⟩, (S1.trans S12).set hD, fs ++ [(a ++ [m], q)], ?_, ?_, fun x hx => ?_⟩
  ·rw [List.length_map]
   have := congrArg List.length ef
   rw [List.length_map, List.length_map, List.length_range] at this
   exact Nat.lt_of_le_of_lt (show fs.length <= 8 by omega) (by decide)
  ·rw [List.map_append, ef, List.range_succ, List.map_append]; rfl
  ·rw [Ac, List.map_append]; rfl
  ·rcases List.mem_append.mp hx with hx | hx
   ·obtain ⟨a1, a2, a3⟩ := hf x hx
    exact ⟨a1, a2, by rw [Af a1]; exact S12 _ _ a3⟩
   ·have : x = (a ++ [m], q) := by simpa using hx
    subst this
    exact ⟨qD, hq0, by rw [Af qD]; exact eq⟩
 ·rintro σ H1 ⟨_, S1, fs, ef, eD, hf⟩
  rw [Be] at ef
  exact k D H1 S1 hD fs ef eD hf
theorem an5 {f : Addr} {fd : FuncData} (Z : Ar K t) (F : FunD K "_law_digits" "_law_digits" s_zp f fd .none) (T : Tab P w K mg base 0 (gb_0 K t) bl) : FnOk P w K mg base CX0 1 f fd P_zp (V9 K t) := by
 refine F.okW0 av0 az1 T (as2 K t) (fun vs H Q E h => ?_) (fun vs H Q E h => ?_)
 ·obtain ⟨l, sw, rfl, _⟩ := h; rfl
 ·obtain ⟨l, sw, rfl, ⟨ds, ed, ⟨_, ol⟩, hd⟩, hw, k⟩ := h
  refine ⟨(show 0 <= sizeLine by decide), fun r0 h0 => ⟨(show 1 <= sizeLine by decide), fun l0 hl0 => ?_⟩⟩
  have Sr := Same.upd (o := .lst []) h0
  have Sl := Same.upd (o := .lst [.ref r0]) hl0
  have S0 := Sr.trans Sl
  have er : upd (upd H r0 (.lst [])) l0 (.lst [.ref r0]) r0 = some (nO []) := Sl _ _ Ac
  have el : upd (upd H r0 (.lst [])) l0 (.lst [.ref r0]) l0 = some (.lst [.ref r0]) := Ac
  have len : (ds.map fun x => V.ref x.2).length = sw.length := by rw [<- ed]; simp
  generalize upd (upd H r0 (.lst [])) l0 (.lst [.ref r0]) = H0 at S0 er el ⊢
  refine .inl ⟨⟨_, S0.seqL (SqL.of ol)⟩, ?_⟩
  have T0 : DigAt H0 l0 (digS (sw.take 0)) := ⟨[([], r0)], rfl, el, fun x hx => by
   have : x = ([], r0) := by simpa using hx
   subst this
   exact er⟩
  refine Bh (A0 (ds.map fun x => V.ref x.2)) (fun i σ H' => (∃ l1 v2 v3 v4 v5, σ = [some (.ref l), some (.ref l1), v2, v3, v4, v5] /\ DigAt H' l1 (digS (sw.take i))) /\ Same H0 H') ⟨⟨_, _, _, _, _, rfl, T0⟩, Same.refl _⟩ (fun i σ H' _ q => (S0.trans q.2).seqL (SqL.of ol)) ?_ ?_
  ·rintro i x σ H1 hx ⟨⟨l1, v2, v3, v4, v5, rfl, ⟨es, ee, el1, he⟩⟩, S1⟩
   obtain ⟨⟨⟨e, la⟩, ta⟩, hi, rfl⟩ := Ak hx
   have hi2 : sw[i]? = some e := by rw [<- ed, List.getElem?_map, hi]; rfl
   obtain ⟨⟨_, h1⟩, _, h2⟩ := hd _ (List.mem_of_getElem? hi)
   have h2 : H la = some (lstO e.2) := h2
   have S01 := S0.trans S1
   have hoke := hw.sets e (List.mem_of_getElem? hi2)
   refine ⟨_, SqT.of (S01 _ _ h1), rfl, by decide, fun l2 hl2 => .inl ⟨⟨_, (Same.upd hl2).seqL (SqL.of el1)⟩, ?_⟩⟩
   have Sl2 := Same.upd (o := .lst []) hl2
   have lenr : es.length = (digS (sw.take i)).length := by rw [<- ee]; simp
   have few : (digS (sw.take i)).length <= 256 := by rw [W6]; exact Nat.le_trans (Kk hw i) hw.2.2.2.2
   have rl : ∀ r ∈ digS (sw.take i), r.length <= 100 := fun r hr => by
    rw [Pu r hr, List.length_take]
    have := hw.2.1
    omega
   refine Bh (A0 (es.map fun x => V.ref x.2)) (fun j σ H' => (∃ v5, σ = [some (.ref l), some (.ref l1), some (.str e.1), some (.ref la), some (.ref l2), v5]) /\ Same H1 H' /\ ∃ fs : List (List Nat × Addr), fs.map (·.1) = Dv ((digS (sw.take i)).take j) e.2.length /\
     H' l2 = some (.lst (fs.map fun x => .ref x.2)) /\ ∀ x ∈ fs, x.2 ≠ l2 /\ H' x.2 = some (nO x.1))
    ⟨⟨_, rfl⟩, Sl2, [], rfl, Ac, fun x hx => by cases hx⟩ (fun j σ H' _ q => q.2.1.seqL (SqL.of el1)) ?_ ?_
   ·rintro j y σ H2 hy ⟨⟨v5, rfl⟩, S2, fs, efs, e2l, hf⟩
    obtain ⟨⟨r, ra⟩, hj, rfl⟩ := Ak hy
    have hj2 : (digS (sw.take i))[j]? = some r := by rw [<- ee, List.getElem?_map, hj]; rfl
    have hra := he _ (List.mem_of_getElem? hj)
    refine ⟨.inl ⟨rfl, _, SqL.of e2l⟩, .inl ⟨_, .inl (SqL.of ((S01.trans S2) _ _ h2)), ?_⟩⟩
    rw [List.length_map]
    have h4 : e.2.length <= 4 := hoke.2.2
    refine ⟨⟨by omega, by omega⟩, ?_⟩
    rw [Int.toNat_natCast]
    refine W7 ⟨_, rfl⟩ (S2 _ _ hra) (rl r (List.mem_of_getElem? hj2)) (by omega) fun D H3 S3 hD gs eg eD hg => ?_
    have e3l := S3 _ _ e2l
    have lfs : fs.length <= 1024 := by
     have := congrArg List.length efs
     rw [List.length_map, Ks, List.length_take] at this
     have : min j (digS (sw.take i)).length * e.2.length <= 256 * 4 := Nat.mul_le_mul (by omega) h4
     omega
    have lgs : gs.length <= 4 := by
     have := congrArg List.length eg
     rw [List.length_map, List.length_map, List.length_range] at this
     omega
    refine ⟨l2, D, _, _, rfl, rfl, e3l, eD, ?_, ⟨_, rfl⟩, (S2.trans S3).set hl2, fs ++ gs, ?_, ?_, fun x hx => ?_⟩
    ·rw [List.length_map, List.length_map]
     exact Nat.le_trans (show fs.length + gs.length <= 1028 by omega) (by decide)
    ·rw [List.map_append, efs, eg, Oy hj2]
    ·rw [Ac, List.map_append]
    ·rcases List.mem_append.mp hx with hx | hx
     ·exact ⟨(hf x hx).1, by rw [Af (hf x hx).1]; exact S3 _ _ (hf x hx).2⟩
     ·obtain ⟨a1, a2, a3⟩ := hg x hx
      have a4 : x.2 ≠ l2 := (Ae e2l a2).symm
      exact ⟨a4, by rw [Af a4]; exact a3⟩
   ·rintro σ H2 ⟨⟨v5, rfl⟩, S2, fs, efs, e2l, hf⟩
    rw [List.length_map, lenr, List.take_length] at efs
    refine .inl ⟨⟨_, _, _, _, _, rfl, fs, ?_, e2l, fun x hx => (hf x hx).2⟩, S1.trans S2⟩
    rw [efs, Fq hi2]
  ·rintro σ H1 ⟨⟨l1, v2, v3, v4, v5, rfl, T1⟩, S1⟩
   rw [len, List.take_length] at T1
   exact .inl (k _ l1 (S0.trans S1) T1)
theorem Pr (xs : List V) (n : Nat) : cutV xs none (some (n : Int)) = xs.take n := by
 unfold cutV
 rw [HT.sIx_none, HT.sIx_nat, Nat.sub_zero, List.drop_zero, Nat.min_comm]
 exact List.take_eq_take_iff.mpr (by omega)
theorem O7 {α : Type} {f : α -> Nat} {ps : List α} {n : Nat} (h : ∀ p ∈ ps, f p <= n) : (ps.map f).sum <= ps.length * n := by
 induction ps with
 | nil => simp
 | cons p ps ih =>
  rw [List.map_cons, List.sum_cons, List.length_cons, Nat.add_mul, Nat.one_mul, Nat.add_comm]
  exact Nat.add_le_add (ih fun q hq => h q (List.mem_cons_of_mem _ hq)) (h p List.mem_cons_self)
theorem N9 {ps : List Str} {z : Str} {n m : Nat} (h : ∀ p ∈ ps, p.length <= n) (hz : z.length <= 1) (hm : ps.length <= m) (hb : m * n + m <= 16777216) : (ps.map (·.length)).sum + ps.length * z.length <= 16777216 := by
 have h1 := O7 (f := fun p : Str => p.length) h
 have h2 : ps.length * n <= m * n := Nat.mul_le_mul_right _ hm
 have h3 : ps.length * z.length <= m * 1 := Nat.mul_le_mul hm hz
 omega
theorem Ur {H : Hp} {R : Addr -> Hp -> Prop} {E : EK} {a : Addr} {sw : Sw} {rules : List Sw} {v : V} (hs : SwIn any H a sw) (hw : okSw sw) (hr : Cw any H v rules) (ho : ∀ r ∈ rules, D8 sw r) (h8 : rules.length <= 8) (hf : Er sw rules ≠ 0)
  (k : ∀ H' p, Same H H' -> PanelAt t.c_zas (fresh H) H' p sw rules -> R p H') :
  ∀ p dx, H p = none -> H dx = none -> dx ≠ p -> V7 K t [.ref p, .ref a, v] (upd (upd H dx (.own p)) p (.ins t.c_zas dx [])) (fun v H2 => v = .non /\ R p H2) (fun v _ H' => ∃ b, v = .ref b /\ E b H') := by
 intro p dx hp hd ne
 have S1 : Same H (upd (upd H dx (.own p)) p (.ins t.c_zas dx [])) := fun b o e => by rw [Af (Ae e hp), Af (Ae e hd)]; exact e
 have ep : upd (upd H dx (.own p)) p (.ins t.c_zas dx []) p = some (.ins t.c_zas dx []) := Ac
 generalize upd (upd H dx (.own p)) p (.ins t.c_zas dx []) = H1 at S1 ep ⊢
 have kp : Kp any H (· ≠ p) H1 := fun b o q => ⟨Ae q.2 hp, S1 _ _ q.2⟩
 have RI : Cw (· ≠ p) H1 v rules := hr.imp id fun ⟨k, e, R⟩ => ⟨k, e, R.mono kp⟩
 refine ⟨p, a, dx, v, sw, rules, rfl, ep, hs.mono kp, hw, RI, ho, h8, hf, fun H2 O2 P2 => ⟨rfl, k H2 p (fun b o e => O2 b o (Ae e hp) (S1 _ _ e)) (P2.mono (Kp.weak fun b h => ?_))⟩⟩
 rcases h with rfl | h
 ·exact hp
 ·exact S1.free h
theorem Kb {acc : List (List Str)} {x : Str × List Str} {a : List Str} {z : Str} (h : acc.getLast? = some a) (hz : x.2.getLast? = some z) : (Cg acc x).getLast? = some (a ++ [z]) := by
 obtain ⟨ini, rfl⟩ := List.getLast?_eq_some_iff.mp h
 unfold Cg
 rw [List.flatMap_append]
 obtain ⟨ini2, e2⟩ := List.getLast?_eq_some_iff.mp hz
 refine List.getLast?_eq_some_iff.mpr ⟨(ini.flatMap fun a => x.2.map fun z => a ++ [z]) ++ ini2.map fun z => a ++ [z], ?_⟩
 rw [List.flatMap_cons, List.flatMap_nil, List.append_nil, e2, List.map_append, List.append_assoc]
 rfl
theorem Ka : ∀ {sw : Sw} {acc : List (List Str)} {a : List Str}, acc.getLast? = some a -> (∀ x ∈ sw, x.2 ≠ []) -> ∃ tl, (sw.foldl Cg acc).getLast? = some (a ++ tl)
 | [], _, a, h, _ => ⟨[], by rw [List.append_nil]; exact h⟩
 | x :: sw, acc, a, h, hs => by
  have hx := hs x List.mem_cons_self
  obtain ⟨tl, e⟩ := Ka (sw := sw) (Kb h (List.getLast?_eq_some_getLast hx)) fun y hy => hs y (List.mem_cons_of_mem _ hy)
  exact ⟨[x.2.getLast hx] ++ tl, by rw [List.foldl_cons, e, List.append_assoc]⟩
theorem Re {x : Str × List Str} {sw : Sw} (hw : okSw (x :: sw)) {z : Str} (hz : x.2[0]? = some z) : Er (x :: sw) [[(x.1, [z])]] ≠ 0 := by
 have hs := hw.sets
 have hx := hs x List.mem_cons_self
 have ne : ∀ y ∈ x :: sw, y.2 ≠ [] := fun y hy e => by have := (hs y hy).2.1; rw [e] at this; simp at this
 obtain ⟨tl, e⟩ := Ka (sw := sw) (acc := Cg [[]] x) (Kb (a := []) rfl (List.getLast?_eq_some_getLast (ne x List.mem_cons_self))) fun y hy => ne y (List.mem_cons_of_mem _ hy)
 have e : (Ah (x :: sw)).getLast? = some ([] ++ [x.2.getLast (ne x List.mem_cons_self)] ++ tl) := e
 rw [List.getLast?_eq_getElem?] at e
 have h2 := hx.2.1
 have dif : x.2.getLast (ne x List.mem_cons_self) ≠ z := fun q => by
  have h0 : 0 < x.2.length := by omega
  have hl : x.2.length - 1 < x.2.length := by omega
  rw [List.getElem?_eq_getElem h0] at hz
  rw [List.getLast_eq_getElem] at q
  have := (List.getElem_inj (h₀ := hl) (h₁ := h0) hx.1.2.1).mp (q.trans (Option.some.inj hz).symm)
  omega
 have hp := hw.pos
 have bit : (Gf (x :: sw) [[(x.1, [z])]]).testBit ((Ah (x :: sw)).length - 1) = true := by
  rw [Jz, decide_eq_true (by omega), Bool.true_and, List.any_cons, List.any_nil, Bool.or_false, Mg, List.all_cons, List.all_nil, Bool.and_true]
  have pl : Az (x :: sw) x.1 = 0 := Bj (i := 0) rfl hw.2.2.1
  show (!(_ && ([z].any fun z => hasB (Ah (x :: sw)) (Az (x :: sw) x.1) z _))) = true
  rw [List.any_cons, List.any_nil, Bool.or_false, pl]
  have : hasB (Ah (x :: sw)) 0 z ((Ah (x :: sw)).length - 1) = false := by
   unfold hasB
   rw [e]
   refine decide_eq_false fun q => dif ?_
   simpa using q
  rw [this, Bool.and_false]
  rfl
 rw [Jy]
 intro q
 have q : Gf (x :: sw) [[(x.1, [z])]] = 0 := by omega
 rw [q, Nat.zero_testBit] at bit
 cases bit
theorem J0 {sw : Sw} (hw : okSw sw) : Er sw [] ≠ 0 := by
 have hp := hw.pos
 rw [Jy]
 intro q
 have q : Gf sw [] = 0 := by omega
 have bit : (Gf sw []).testBit 0 = true := by
  rw [Jz, decide_eq_true (by omega)]
  rfl
 rw [q, Nat.zero_testBit] at bit
 cases bit
theorem Vu {x : Str × List Str} {sw : Sw} (hw : okSw (x :: sw)) {z : Str} (hz : x.2[0]? = some z) : D8 (x :: sw) [(x.1, [z])] := by
 have hx := (hw.2.2.2.1 x List.mem_cons_self).2
 have hm : z ∈ x.2 := List.mem_of_getElem? hz
 refine ⟨by simp, by simp, by simp, fun e he => ?_⟩
 have : e = (x.1, [z]) := by simpa using he
 subst this
 refine ⟨by simp, ⟨fun y hy => ?_, by simp, by simp⟩, x, List.mem_cons_self, rfl, fun y hy => ?_⟩
 ·have : y = z := by simpa using hy
  subst this
  exact hx.1.1 y hm
 ·have : y = z := by simpa using hy
  subst this
  exact hm
theorem ao1 {f : Addr} {fd : FuncData} (Z : Ar K t) (F : FunD K "_law_panel" "_law_panel" s_zv f fd .none) (T : Tab P w K mg base 9 (gb_9 K t) bl) : FnOk P w K mg base CX0 10 f fd P_zv (Wd K t) := by
 refine F.okW0 av6 az7 T (as8 K t) (fun vs H Q E h => ?_) (fun vs H Q E h => ?_)
 ·obtain ⟨a, l, ns, sw, rfl, _⟩ := h; rfl
 ·obtain ⟨a, l, ns, sw, rfl, hS, hsw, hw, k⟩ := h
  obtain ⟨ds, ed, ⟨_, ol⟩, hd⟩ := id hsw
  have len : (ds.map fun x => V.ref x.2).length = sw.length := by rw [<- ed]; simp
  have tail : ∀ H' v rules (Du : Outs), Du.rt = Q -> Same H H' -> Cw any H' v rules -> (∀ r ∈ rules, D8 sw r) -> rules.length <= 8 -> Er sw rules ≠ 0 ->
    (dSeq (dRet (dFn (mkC t.c_zas (some (i_zl K t)) 1) (Aa (Bm [none, none] (iVal K (dVar 1)) (gdT K 2 [(gdN 0), (gdN 1)]) dYes (dTup (Aa (dVar 0) (Aa (dFn (fun vs H Q _ => (Dn K) vs H Q) (Aa (dVar 1) dNil)) dNil)))) (Aa (dVar 2) dNil))))
 Ad) Du [some (.ref a), some (.ref l), some v] H' := by
   intro H1 v rules Du hDu S1 RI hok h8 hf
   refine .inl ⟨⟨_, S1.seqL (SqL.of ol)⟩, fun D hD => ?_⟩
   refine B8 (A0 (ds.map fun x => V.ref x.2)) (fun m σ H' => (∃ v0 v1, σ = [v0, v1]) /\ Same H1 H' /\ ∃ es : List (((Str × List Str) × Addr) × Addr), es.map (·.1.1) = sw.take m /\ SwL H1 H' D es)
    ⟨⟨_, _, rfl⟩, Same.upd hD, [], rfl, Ac, fun x hx => (by cases hx), fun x hx => (by cases hx), fun x hx => (by cases hx)⟩ (fun m σ H' _ q => (S1.trans q.2.1).seqL (SqL.of ol)) ?_ ?_
   ·rintro m x σ H2 hx ⟨⟨v0, v1, rfl⟩, S2, es, ee, L1⟩
    obtain ⟨⟨⟨e, la⟩, ta⟩, hi, rfl⟩ := Ak hx
    have hi2 : sw[m]? = some e := by rw [<- ed, List.getElem?_map, hi]; rfl
    obtain ⟨⟨_, h1⟩, _, h2⟩ := hd _ (List.mem_of_getElem? hi)
    have S12 := S1.trans S2
    refine ⟨_, SqT.of (S12 _ _ h1), rfl, ⟨_, .inl (SqL.of (S12 _ _ h2)), fun lb hlb => ⟨(show 2 <= sizeLine by decide), fun tb htb => ?_⟩⟩⟩
    have Sb := Same.upd (o := lstO e.2) hlb
    have eb : upd H2 lb (lstO e.2) lb = some (lstO e.2) := Ac
    have fb := S2.free hlb
    have nb : lb ≠ D := (Ae L1.at_ hlb).symm
    have St := Same.upd (o := .tup [.str e.1, .ref lb]) htb
    have et : upd (upd H2 lb (lstO e.2)) tb (.tup [.str e.1, .ref lb]) tb = some (.tup [.str e.1, .ref lb]) := Ac
    have S3 := Sb.trans St
    have eb2 := St _ _ eb
    show ∃ ys, upd (upd H2 lb (lstO e.2)) tb (.tup [.str e.1, .ref lb]) D = some (.lst ys) /\ _
    generalize upd (upd H2 lb (lstO e.2)) tb (.tup [.str e.1, .ref lb]) = H3 at S3 et eb2 ⊢
    have L2 := L1.up S3
    refine ⟨_, L2.at_, ?_, ⟨_, _, rfl⟩, (S2.trans S3).set hD, es ++ [((e, lb), tb)], ?_, L2.snoc et eb2 nb fb⟩
    ·rw [List.length_map]
     have := congrArg List.length ee
     rw [List.length_map, List.length_take] at this
     have := hw.2.1
     exact Nat.lt_of_le_of_lt (show es.length <= 5 by omega) (by decide)
    ·rw [List.map_append, ee, List.take_add_one, hi2]; rfl
   ·rintro σ Hh ⟨_, Sh, es, ee, Lh⟩
    rw [len, List.take_length] at ee
    have RI2 : Cw any Hh v rules := RI.imp id fun ⟨kk, e, R⟩ => ⟨kk, e, R.mono (Kp.same Sh)⟩
    refine Ur (K := K) (E := fun _ _ => False) (v := v) (ee ▸ Lh.swIn) hw RI2 hok h8 hf fun H2 p S2 P2 => ?_
    show Du.rt _ _
    rw [hDu]
    exact k H2 p rules (S1.trans (Sh.trans S2)) (P2.mono Kp.any)
  have mid : ∀ H' v rules (Du : Outs), Du.rt = Q -> Same H H' -> Cw any H' v rules -> (∀ r ∈ rules, D8 sw r) -> rules.length <= 8 -> Er sw rules ≠ 0 ->
    (dSeq (dIf (dTst (dBin (rEqD K false) (dBin Au (dFn (spE (Ct K t) []) (Aa (dVar 0) (Aa (dC (.int 2)) dNil))) (dC (.int 3))) (dC (.int 2)))) (dSeq (dSet 2 (dC .non))
  Ad) Ad)
 (dSeq (dRet (dFn (mkC t.c_zas (some (i_zl K t)) 1) (Aa (Bm [none, none] (iVal K (dVar 1)) (gdT K 2 [(gdN 0), (gdN 1)]) dYes (dTup (Aa (dVar 0) (Aa (dFn (fun vs H Q _ => (Dn K) vs H Q) (Aa (dVar 1) dNil)) dNil)))) (Aa (dVar 2) dNil))))
 Ad)) Du [some (.ref a), some (.ref l), some v] H' := by
   intro H1 v rules Du hDu S1 RI hok h8 hf
   exact ⟨a, ns, 2, rfl, S1.seqL hS, by decide, ite2 (fun _ => tail H1 .non [] Du hDu S1 (.inl ⟨rfl, rfl⟩) (fun r hr => by cases hr) (by decide) (J0 hw)) (fun _ => tail H1 v rules Du hDu S1 RI hok h8 hf)⟩
  refine ⟨(show 0 <= sizeLine by decide), fun l0 hl0 => ?_⟩
  have S0 := Same.upd (o := .lst []) hl0
  have e0 : upd H l0 (.lst []) l0 = some (.lst []) := Ac
  generalize upd H l0 (.lst []) = H0 at S0 e0 ⊢
  refine ⟨a, ns, 2, rfl, S0.seqL hS, by decide, ite2 (fun _ => ?_) (fun _ => mid H0 (.ref l0) [] _ rfl S0 (.inr ⟨l0, rfl, [], rfl, ⟨trivial, e0⟩, fun x hx => by cases hx⟩) (fun r hr => by cases hr) (by decide) (J0 hw))⟩
  cases sw with
  | nil => have := hw.1; simp at this
  | cons x sw =>
   cases ds with
   | nil => simp at ed
   | cons d0 ds =>
    obtain ⟨⟨x', la⟩, ta⟩ := d0
    have : x' = x := (List.cons.inj ed).1
    subst this
    obtain ⟨⟨_, h1⟩, _, h2⟩ := hd _ List.mem_cons_self
    have hx := hw.sets x' List.mem_cons_self
    have h2l := hx.2.1
    obtain ⟨z, hz⟩ : ∃ z, x'.2[0]? = some z := ⟨_, List.getElem?_eq_getElem (show 0 < x'.2.length by omega)⟩
    intro dd hdd
    have Sd := Same.upd (o := .dK []) hdd
    have ed0 : upd H0 dd (.dK []) dd = some (.dK []) := Ac
    generalize upd H0 dd (.dK []) = H1 at Sd ed0 ⊢
    have S1 := S0.trans Sd
    have q1 := SqL.of (K := K) (S1 _ _ ol)
    have q2 := SqT.of (K := K) (S1 _ _ h1)
    have q3 := SqL.of (K := K) (S1 _ _ h2)
    refine ⟨_, .ref ta, .inl q1, Aq (j := 0) rfl, _, .str x'.1, .inr q2, rfl, _, .ref ta, .inl q1, Aq (j := 0) rfl, _, .ref la, .inr q2, rfl, _, .str z, .inl q3, Aq (j := 0) (by rw [List.getElem?_map, hz]; rfl), (show 1 <= sizeLine by decide), fun lb hlb => ?_⟩
    have Sb := Same.upd (o := .lst [.str z]) hlb
    have eb : upd H1 lb (.lst [.str z]) lb = some (lstO [z]) := Ac
    have ed2 := Sb _ _ ed0
    have ndb : dd ≠ lb := Ae ed0 hlb
    refine ⟨ed2, [(.inr x'.1, .ref lb)], rfl, Nat.le_of_ble_eq_true rfl, (show 1 <= sizeLine by decide), fun lr hlr => ?_⟩
    have S2 : Same H0 (upd (upd H1 lb (.lst [.str z])) dd (.dK (Cr [] [(.inr x'.1, .ref lb)]))) := (Sd.trans Sb).set hdd
    have ed3 : upd (upd H1 lb (.lst [.str z])) dd (.dK (Cr [] [(.inr x'.1, .ref lb)])) dd = some (.dK [(.inr x'.1, .ref lb)]) := Ac
    have eb3 : upd (upd H1 lb (.lst [.str z])) dd (.dK (Cr [] [(.inr x'.1, .ref lb)])) lb = some (lstO [z]) := by rw [Af (Ne.symm ndb)]; exact eb
    have Sr := Same.upd (o := .lst [.ref dd]) hlr
    have er : upd (upd (upd H1 lb (.lst [.str z])) dd (.dK (Cr [] [(.inr x'.1, .ref lb)]))) lr (.lst [.ref dd]) lr = some (.lst [.ref dd]) := Ac
    have S3 := S0.trans (S2.trans Sr)
    have ed4 := Sr _ _ ed3
    have eb4 := Sr _ _ eb3
    generalize upd (upd (upd H1 lb (.lst [.str z])) dd (.dK (Cr [] [(.inr x'.1, .ref lb)]))) lr (.lst [.ref dd]) = H4 at S3 er ed4 eb4 ⊢
    refine mid H4 (.ref lr) [[(x'.1, [z])]] _ (by rfl) S3 (.inr ⟨lr, rfl, [([(x'.1, [z])], dd)], rfl, ⟨trivial, er⟩, fun y hy => ?_⟩) (fun r hr => ?_) (Nat.le_of_ble_eq_true rfl) (Re hw hz)
    ·have : y = ([(x'.1, [z])], dd) := by simpa using hy
     subst this
     exact ⟨[((x'.1, [z]), lb)], rfl, ⟨trivial, ed4⟩, fun u hu => by
      have : u = ((x'.1, [z]), lb) := by simpa using hu
      subst this
      exact ⟨trivial, eb4⟩⟩
    ·have : r = [(x'.1, [z])] := by simpa using hr
     subst this
     exact Vu hw hz
theorem Bd (a b : Str) : coms (a ++ b) = coms a + coms b := by unfold coms; rw [Str.cps_append, Array.toList_append, List.count_append]
theorem C7 {z : Str} (h : okW z) : coms z = 0 := by
 unfold coms
 refine List.count_eq_zero.mpr fun q => ?_
 exact absurd (List.all_eq_true.mp h.2.2 44 q) (by decide)
theorem Hm {ps : List Str} {c n m : Nat} (ne : ps ≠ []) (h : ∀ p ∈ ps, p.length <= n /\ coms p <= m) :
  (Txt.join ⟨#[c]⟩ ps).length + 1 <= ps.length * (n + 1) /\ coms (Txt.join ⟨#[c]⟩ ps) + (if c = 44 then 1 else 0) <= ps.length * (m + if c = 44 then 1 else 0) := by
 have ne2 : ps.map (fun p => p.cps.toList) ≠ [] := fun q => ne (List.map_eq_nil_iff.mp q)
 constructor
 ·rw [<- C3, Eb, Cd, Ei ne2, List.map_map]
  refine O7 fun p hp => ?_
  show p.cps.toList.length + 1 <= _
  rw [C3]
  exact Nat.add_le_add_right (h p hp).1 1
 ·unfold coms
  rw [Eb, Cd, Eh ne2, List.map_map]
  exact O7 fun p hp => Nat.add_le_add_right (h p hp).2 _
theorem Dh {z : Str} (h1 : z.length <= 1000) (h2 : coms z <= 28) : fewT z := ⟨h1, fun q hq => by rw [Ko] at hq; exact Nat.le_trans (Db (d := 44) (by decide) hq) h2⟩
theorem Xc {a b : Str} (h : a.length + (1 + b.length) <= 1000) (ha : coms a <= 28) (hb : coms b <= 28) : fewT (a ++ ("|" ++ b)) := by
 refine ⟨by rw [Ap, Ap, show ("|" : Str).length = 1 from by decide +kernel]; exact h, fun q hq => ?_⟩
 rw [Ko, Kr] at hq
 rcases List.mem_append.mp hq with h | h
 ·exact Nat.le_trans (Db (d := 44) (by decide) h) ha
 ·exact Nat.le_trans (Db (d := 44) (by decide) h) hb
theorem R0 {E : EK} {H : Hp} {la : Addr} {ss : List Str} {y : Int} {R : Hp -> Addr -> Prop} (hla : H la = some (lstO ss)) (h8 : ss.length <= 8)
  (k : ∀ D H', Same H H' -> H D = none -> ∀ zs : List Str, zs.Sublist ss -> H' D = some (lstO zs) -> R H' D) :
  ∀ D, H D = none -> CmpW (Itr 0 ss.length) (gdN 0) (dTst (dBin (rEqD K false) (dBin M5 (dBin Vs (dVar 2) (dVar 0)) (dC (.int 1))) (dC (.int 1)))) (dBin (rIxD K) (dVar 1) (dVar 0)) D (fun H' => R H' D) [none, some (.ref la), some (.int y)] (upd H D (.lst [])) E := by
 intro D hD
 refine B8 (Ch 0 ss.length) (fun m σ H' => (∃ v, σ = [v, some (.ref la), some (.int y)]) /\ Same H H' /\ ∃ zs : List Str, zs.Sublist (ss.take m) /\ H' D = some (lstO zs)) ⟨⟨_, rfl⟩, Same.upd hD, [], List.Sublist.refl _, Ac⟩ (fun _ _ _ _ _ => True.intro) ?_ ?_
 ·rintro m x σ H1 hx ⟨⟨v, rfl⟩, S1, zs, sub, eD⟩
  obtain ⟨hm, rfl⟩ := Ez hx
  have hl : zs.length <= 8 := by
   have := sub.length_le
   rw [List.length_take] at this
   omega
  refine ⟨by omega, ite2 (fun _ => ?_) (fun _ => ⟨⟨_, rfl⟩, S1, zs, sub.trans (List.take_sublist_take_left (by omega)), eD⟩)⟩
  refine ⟨_, .str ss[m], .inl (SqL.of (S1 _ _ hla)), Aq (j := m) (by rw [List.getElem?_map, List.getElem?_eq_getElem hm]; rfl), _, eD, ?_, ⟨_, rfl⟩, S1.set hD, zs ++ [ss[m]], ?_, ?_⟩
  ·rw [List.length_map]; exact Nat.lt_of_le_of_lt hl (by decide)
  ·rw [List.take_add_one, List.getElem?_eq_getElem hm]
   exact sub.append (List.Sublist.refl _)
  ·rw [Ac, lstO, List.map_append]; rfl
 ·rintro σ H1 ⟨_, S1, zs, sub, eD⟩
  rw [Be, List.take_length] at sub
  exact k D H1 S1 hD zs sub eD
theorem La {x : Int} {n : Nat} (h : 0 < n) : ∃ m : Nat, x % (n : Int) = (m : Int) /\ m < n := by
 have h1 := Int.emod_nonneg x (show (n : Int) ≠ 0 by omega)
 have h2 := Int.emod_lt_of_pos x (show (0 : Int) < n by omega)
 exact ⟨(x % (n : Int)).toNat, by omega, by omega⟩
theorem ao5 {f : Addr} {fd : FuncData} (Z : Ar K t) (F : FunD K "_law_term" "_law_term" s_zz f fd .none) (T : Tab P w K mg base 0 (gb_0 K t) bl) : FnOk P w K mg base CX0 1 f fd P_zz (Nh K t) := by
 refine F.okW0 aw0 a01 T (at4 K t) (fun vs H Q E h => ?_) (fun vs H Q E h => ?_)
 ·obtain ⟨l, x, y, sw, rfl, _⟩ := h; rfl
 ·obtain ⟨l, x, y, sw, rfl, ⟨ds, ed, ⟨_, ol⟩, hd⟩, hw, k⟩ := h
  have len : ds.length = sw.length := by rw [<- ed]; simp
  have h1w := hw.1
  obtain ⟨m, em, hm⟩ := La (x := x) (n := ds.length) (by omega)
  obtain ⟨⟨⟨e, la⟩, ta⟩, hi⟩ : ∃ z, ds[m]? = some z := ⟨_, List.getElem?_eq_getElem hm⟩
  have hi2 : e ∈ sw := by rw [<- ed]; exact List.mem_map.mpr ⟨_, List.mem_of_getElem? hi, rfl⟩
  obtain ⟨⟨_, h1⟩, _, h2⟩ := hd _ (List.mem_of_getElem? hi)
  have h2 : H la = some (lstO e.2) := h2
  obtain ⟨o1, o2⟩ := hw.2.2.2.1 e hi2
  have o3 := o2.2.1
  have o4 := o2.2.2
  have big : (3000 : Nat) <= sizeLine := by decide
  have le1 : ("=" : Str).length = 1 := by decide +kernel
  have l8 : e.1.length <= 8 := o1.2.1
  have fin : ∀ (ws : List Str) (W : Addr) (H2 : Hp) (Du : Outs), Du.rt = Q -> Same H H2 -> H2 W = some (lstO ws) -> ws ≠ [] -> ws.length <= 4 -> (∀ z ∈ ws, okW z) ->
    (dSeq (dRet (dBin (Aj K) (dBin (Aj K) (dVar 3) (dC (.str "="))) (dMt (rMt K [⟨"str", "str.join", Gk K⟩]) (dC (.str ",")) (Aa (dVar 5) dNil))))
 Ad) Du [some (.ref l), some (.int x), some (.int y), some (.str e.1), some (.ref la), some (.ref W)] H2 := by
   intro ws W H2 Du hDu S2 eW ne l4 ok
   have jf := Hm (c := 44) (n := 8) (m := 0) ne fun z hz => ⟨(ok z hz).2.1, Nat.le_of_eq (C7 (ok z hz))⟩
   rw [<- M9, if_pos rfl] at jf
   refine ⟨show e.1.length + ("=" : Str).length <= sizeLine by omega, rfl, ",", W, ws, rfl, rfl, SqL.of eW, N9 (n := 8) (m := 4) (fun p hp => (ok p hp).2.1) (by decide +kernel) l4 (by decide), ?_, ?_⟩
   ·rw [Ap]; omega
   ·show Du.rt _ _
    rw [hDu]
    refine k H2 _ S2 ?_ ?_
    ·rw [Ap, Ap, le1]; omega
    ·rw [Bd, Bd, C7 o1, show coms "=" = 0 from by decide +kernel]; omega
  refine .inl ⟨_, .inl (SqL.of ol), ?_⟩
  rw [List.length_map]
  refine ⟨by omega, ?_⟩
  rw [em]
  refine ⟨_, .ref ta, .inl (SqL.of ol), Aq (j := m) (by rw [List.getElem?_map, hi]; rfl), _, SqT.of h1, rfl, ?_⟩
  refine .inl ⟨_, .inl (SqL.of h2), ?_⟩
  rw [List.length_map]
  refine ⟨⟨by omega, by omega⟩, ?_⟩
  rw [Int.toNat_natCast]
  refine R0 h2 (by omega) fun D H1 S1 hD zs sub eD => ?_
  refine ⟨(show 0 <= sizeLine by decide), fun q hq => .inl ⟨D, q, _, _, rfl, rfl, SqL.of ((Same.upd hq) _ _ eD), SqL.of Ac, B0 _, rfl, ?_⟩⟩
  have Sq := Same.upd (o := .lst []) hq
  generalize upd H1 q (.lst []) = H2 at Sq ⊢
  have S2 := S1.trans Sq
  refine ite2 (fun _ => ?_) (fun q => ?_)
  ·obtain ⟨m2, em2, hm2⟩ := La (x := y / 16) (n := e.2.length) (by omega)
   refine ⟨⟨by decide, by decide⟩, .inl ⟨_, .inl (SqL.of (S2 _ _ h2)), ?_⟩⟩
   rw [List.length_map]
   refine ⟨by omega, ?_⟩
   rw [em2]
   refine ⟨_, .str e.2[m2], .inl (SqL.of (S2 _ _ h2)), Aq (j := m2) (by rw [List.getElem?_map, List.getElem?_eq_getElem hm2]; rfl), (show 1 <= sizeLine by decide), fun W hW => ?_⟩
   exact fin [e.2[m2]] W _ _ rfl (S2.trans (Same.upd hW)) Ac (by simp) (show 1 <= 4 by decide) fun z hz => by
    have : z = e.2[m2] := by simpa using hz
    rw [this]; exact o2.1.1 _ (List.getElem_mem hm2)
  ·have sl := sub.length_le
   exact fin zs D _ _ rfl S2 (Sq _ _ eD) (fun z => by subst z; exact q rfl) (by omega) fun z hz => o2.1.1 z (sub.subset hz)
theorem Kx {α : Type} {l : List α} {i : Int} (h0 : 0 <= i) (h : i < (l.length : Int)) : ∃ c, atI l i = some c /\ c ∈ l := by
 obtain ⟨n, rfl⟩ : ∃ n : Nat, i = (n : Int) := ⟨i.toNat, by omega⟩
 have hl : n < l.length := by omega
 exact ⟨l[n], Aq (List.getElem?_eq_getElem hl), List.getElem_mem hl⟩
def Ue (l lx lb : Addr) (c : Int) (xs : List Int) (H : Hp) (i : Nat) (σ : St) (H' : Hp) : Prop := (∃ v4 v5, σ = [some (.ref l), some (.int c), some (.ref lx), some (.ref lb), v4, v5]) /\ Same H H' /\ H' lx = some (.lst (xs.map V.int)) /\ ∃ bs : List Str, bs.length = i /\ H' lb = some (lstO bs) /\ ∀ z ∈ bs, z.length <= 102 /\ coms z <= 6
theorem aa9 {f : Addr} {fd : FuncData} (Z : Ar K t) (F : FunD K "_law_text" "_law_text" Ii f fd .none) (T : Tab P w K mg base 1 (gb_1 K t) bl) : FnOk P w K mg base CX0 2 f fd Lx (Ov K t) := by
 refine F.okW0 ai3 aj7 T (ah3 K t) (fun vs H Q E h => ?_) (fun vs H Q E h => ?_)
 ·obtain ⟨l, c, sw, rfl, _⟩ := h; rfl
 ·obtain ⟨l, c, sw, rfl, hsw, hw, k⟩ := h
  refine ⟨c, 13, rfl, by decide, fun H1 lx xs S1 hlx elx lxs pos => ⟨(show 0 <= sizeLine by decide), fun lb hlb => ?_⟩⟩
  have Sb := Same.upd (o := .lst []) hlb
  have eb : upd H1 lb (.lst []) lb = some (lstO []) := Ac
  have fb := S1.free hlb
  generalize upd H1 lb (.lst []) = H2 at Sb eb ⊢
  have atx : ∀ z : Int, 0 <= z -> z < 13 -> ∃ v, atI (xs.map V.int) z = some (.int v) := fun z h0 h1 => by
   obtain ⟨v, e, hv⟩ := Kx (l := xs.map V.int) h0 (by rw [List.length_map, lxs]; exact h1)
   obtain ⟨i, _, rfl⟩ := List.mem_map.mp hv
   exact ⟨i, e⟩
  have nlx : lx ≠ lb := Ae elx hlb
  obtain ⟨x0, a0⟩ := atx 0 (by decide) (by decide)
  have hx0 : 0 <= x0 % 3 /\ x0 % 3 < 3 := by omega
  refine ⟨_, _, .inl (SqL.of (Sb _ _ elx)), a0, by decide, ⟨by omega, by omega⟩, ?_⟩
  refine Bh (Ch 0 (1 + x0 % 3).toNat) (Ue l lx lb c xs H) ⟨⟨_, _, rfl⟩, S1.trans Sb, Sb _ _ elx, [], rfl, eb, fun z hz => by cases hz⟩ (fun _ _ _ _ _ => True.intro) ?_ ?_
  ·rintro i x σ H3 hx ⟨⟨v4, v5, rfl⟩, S3, elx3, bs, lbs, eb3, hb⟩
   obtain ⟨hi, rfl⟩ := Ez hx
   obtain ⟨x1, a1⟩ := atx (1 + 4 * (i : Int)) (by omega) (by omega)
   obtain ⟨x2, a2⟩ := atx (2 + 4 * (i : Int)) (by omega) (by omega)
   obtain ⟨x3, a3⟩ := atx (3 + 4 * (i : Int)) (by omega) (by omega)
   obtain ⟨x4, a4⟩ := atx (4 + 4 * (i : Int)) (by omega) (by omega)
   have qx := SqL.of (K := K) elx3
   have cm : CMul 4 (i : Int) := .inl ⟨by decide, by decide⟩
   refine ⟨cm, _, _, .inl qx, a1, cm, _, _, .inl qx, a2, l, x1, x2, sw, rfl, hsw.mono (Kp.same S3), hw, fun H4 z1 S4 lz1 cz1 => ⟨(show 1 <= sizeLine by decide), fun lt hlt => ?_⟩⟩
   have St := Same.upd (o := .lst [.str z1]) hlt
   have et : upd H4 lt (.lst [.str z1]) lt = some (lstO [z1]) := Ac
   have flt : H3 lt = none := S4.free hlt
   have nlt : lt ≠ lb := (Ae eb3 flt).symm
   generalize upd H4 lt (.lst [.str z1]) = H5 at St et ⊢
   have S35 := S4.trans St
   have qx5 := S35.seqL qx
   have fin : ∀ (ts : List Str) (H6 : Hp) (Du : Outs), (∀ σ H', Ue l lx lb c xs H (i + 1) σ H' -> Du.nx σ H') -> Same H3 H6 -> H6 lt = some (lstO ts) -> ts ≠ [] -> ts.length <= 2 -> (∀ z ∈ ts, z.length <= 50 /\ coms z <= 3) ->
     (dSeq (Dq (dMt (rMt K [⟨"list", "list.append", Cb⟩]) (dVar 3) (Aa (dMt (rMt K [⟨"str", "str.join", Gk K⟩]) (dC (.str "&")) (Aa (dVar 5) dNil)) dNil)))
  Ad) Du [some (.ref l), some (.int c), some (.ref lx), some (.ref lb), some (.int (i : Int)), some (.ref lt)] H6 := by
    intro ts H6 Du hDu S6 e6 ne l2 ok
    have jf := Hm (c := 38) (n := 50) (m := 3) ne ok
    rw [<- Kn, if_neg (by decide)] at jf
    refine ⟨.inl ⟨rfl, _, SqL.of (S6 _ _ eb3)⟩, rfl, "&", lt, ts, rfl, rfl, SqL.of e6, N9 (n := 50) (m := 2) (fun p hp => (ok p hp).1) (by decide +kernel) l2 (by decide), lb, _, _, rfl, rfl, S6 _ _ eb3, ?_, hDu _ _ ⟨⟨_, _, rfl⟩, (S3.trans S6).set fb, ?_, bs ++ [Txt.join "&" ts], ?_, ?_, fun z hz => ?_⟩⟩
    ·rw [List.length_map, lbs]; exact Nat.lt_of_le_of_lt (show i <= 3 by omega) (by decide)
    ·rw [Af nlx]; exact S6 _ _ elx3
    ·rw [List.length_append, lbs]; rfl
    ·rw [Ac, lstO, List.map_append]; rfl
    ·rcases List.mem_append.mp hz with hz | hz
     ·exact hb z hz
     ·have : z = Txt.join "&" ts := by simpa using hz
      subst this
      omega
   refine ⟨cm, _, _, .inl qx5, a3, by decide, ite2 (fun _ => ?_) (fun _ => fin [z1] H5 _ (fun _ _ h => h) S35 et (by simp) (show 1 <= 2 by decide) fun z hz => ?_)⟩
   ·refine ⟨.inl ⟨rfl, _, SqL.of et⟩, cm, _, _, .inl qx5, a1, cm, _, _, .inl qx5, a3, ⟨by decide, by decide⟩, by decide, cm, _, _, .inl qx5, a4, l, _, x4, sw, rfl, hsw.mono (Kp.same (S3.trans S35)), hw, fun H6 z2 S6 lz2 cz2 => ?_⟩
    refine ⟨lt, _, _, rfl, rfl, S6 _ _ et, (show 1 < sizeLine by decide), fin [z1, z2] _ _ (fun _ _ h => h) ((S35.trans S6).set flt) Ac (by simp) (show 2 <= 2 by decide) fun z hz => ?_⟩
    rcases List.mem_cons.mp hz with rfl | hz
    ·exact ⟨lz1, cz1⟩
    ·have : z = z2 := by simpa using hz
     subst this
     exact ⟨lz2, cz2⟩
   ·have : z = z1 := by simpa using hz
    subst this
    exact ⟨lz1, cz1⟩
  ·rintro σ H3 ⟨⟨v4, v5, rfl⟩, S3, elx3, bs, lbs, eb3, hb⟩
   rw [Be] at lbs
   have ne : bs ≠ [] := fun q => by rw [q] at lbs; simp at lbs; omega
   have jf := Hm (c := 124) (n := 102) (m := 6) ne hb
   rw [<- Ko, if_neg (by decide)] at jf
   have l3 : bs.length <= 3 := by omega
   exact .inl ⟨rfl, "|", lb, bs, rfl, rfl, SqL.of eb3, N9 (n := 102) (m := 3) (fun p hp => (hb p hp).1) (by decide +kernel) l3 (by decide), k H3 _ S3 (by omega) (by omega)⟩
theorem Rb {z : Str} {i : Int} (h : (z.length : Int) < i) : coms (Txt.slice z (some i) none) = 0 := by
 have e : (Builtin.Str.strSliceIndices (some i) none 1 z.length).length = 0 := by
  unfold Builtin.Str.strSliceIndices sliceRange
  simp only [show (1 : Int) > 0 by decide, if_true, List.length_map, List.length_range]
  split <;> (try split) <;> (try split) <;> (try simp only [Int.ediv_one]) <;> omega
 unfold Txt.slice
 split
 ·rename_i q
  rw [e] at q
  have q : 0 = z.length := by simpa using q
  have z0 : z.cps.toList = [] := List.length_eq_zero_iff.mp (by rw [C3]; exact q.symm)
  unfold coms
  rw [z0]; rfl
 ·rw [List.length_eq_zero_iff.mp e]; rfl
theorem Qn (z : Str) : ∃ l : List Nat, z = ⟨l.toArray⟩ /\ l.length = z.length := ⟨z.cps.toList, En (by simp), C3 z⟩
theorem Dz (l : List Nat) : coms ⟨l.toArray⟩ = l.count 44 := by unfold coms; simp
theorem Nv {z : Str} {n : Int} (h0 : 0 <= n) (h : n <= (z.length : Int)) : coms (Txt.slice z none (some n)) + coms (Txt.slice z (some n) none) = coms z := by
 obtain ⟨l, rfl, e⟩ := Qn z
 rw [<- e] at h
 rw [Fj h0 (by omega), Do h0 (by omega), Dz, Dz, Dz, <- List.count_append, List.take_append_drop]
theorem W0 {z : Str} {n : Int} (h0 : 0 <= n) (h : n <= (z.length : Int)) : coms (Txt.slice z none (some n)) + coms (Txt.slice z (some (n + 1)) none) <= coms z := by
 by_cases h1 : (z.length : Int) < n + 1
 ·rw [Rb h1]
  have := Nv h0 h
  omega
 ·rw [<- Nv h0 h]
  refine Nat.add_le_add_left ?_ _
  obtain ⟨l, rfl, e⟩ := Qn z
  rw [<- e] at h h1
  rw [Do h0 (by omega), Do (by omega) (by omega), Dz, Dz]
  refine List.Sublist.count_le _ ?_
  rw [show (n + 1).toNat = n.toNat + 1 by omega]
  exact List.drop_sublist_drop_left _ (by omega)
theorem Ol {d : Int} {l : List Str} {n : Int} (hn : n = (l.length : Int)) (h : l ≠ []) : ∃ s, atI (l.map V.str) (d % n) = some (.str s) /\ s ∈ l := by
 have hp := List.length_pos_iff.mpr h
 obtain ⟨v, e, hv⟩ := Kx (l := l.map V.str) (i := d % n) (Int.emod_nonneg _ (by omega)) (by rw [List.length_map, <- hn]; exact Int.emod_lt_of_pos _ (by omega))
 obtain ⟨s, hs, rfl⟩ := List.mem_map.mp hv
 exact ⟨s, e, hs⟩
abbrev sigS : Str := "=&|,*- abcdefghijklmnopqrstuvwxyzA0~"
abbrev endS : List Str := ["|*", "|-", "&*", "|", "&", ",", "="]
abbrev begS : List Str := ["*", "-", "|", "&", "=", ","]
abbrev oddS : List Str := ["", " ", "**", "--", "*|*", "*&*", "all", "none"]
theorem W9 : ∀ s ∈ endS, s.length <= 4 /\ coms s <= 1 := by decide +kernel
theorem Ww : ∀ s ∈ begS, s.length <= 4 /\ coms s <= 1 := by decide +kernel
theorem Xm : ∀ s ∈ oddS, s.length <= 4 /\ coms s <= 1 := by decide +kernel
theorem an6 {f : Addr} {fd : FuncData} (Z : Ar K t) (F : FunD K "_law_spoilt" "_law_spoilt" s_zq f fd .none) (T : Tab P w K mg base 1 (gb_1 K t) bl) : FnOk P w K mg base CX0 2 f fd P_zq (Wa K t) := by
 refine F.okW0 av1 az2 T (as3 K t) (fun vs H Q E h => ?_) (fun vs H Q E h => ?_)
 ·obtain ⟨l, z, c, d, sw, rfl, _⟩ := h; rfl
 ·obtain ⟨l, z, c, d, sw, rfl, hsw, hw, lz, cz, k⟩ := h
  have big : (3000 : Nat) <= sizeLine := by decide
  have hat : 0 <= c / 8 % ((z.length : Int) + 1) /\ c / 8 % ((z.length : Int) + 1) <= (z.length : Int) := by
   have h1 := Int.emod_nonneg (c / 8) (show (z.length : Int) + 1 ≠ 0 by omega)
   have h2 := Int.emod_lt_of_pos (c / 8) (show (0 : Int) < (z.length : Int) + 1 by omega)
   omega
  refine ⟨by decide, ⟨by decide, by decide⟩, by omega, by omega, ?_⟩
  generalize c / 8 % ((z.length : Int) + 1) = n at hat ⊢
  have s1 := Txt.slice_le z none (some n)
  have s2 := Txt.slice_le z (some n) none
  have s3 := Txt.slice_le z (some (n + 1)) none
  have c1 := Nv hat.1 hat.2
  have c2 := W0 hat.1 hat.2
  refine ite2 (fun _ => ?_) (fun _ => ite2 (fun _ => ?_) (fun _ => ite2 (fun _ => ?_) (fun _ => ite2 (fun _ => ?_) (fun _ => ite2 (fun _ => ?_) (fun _ => ite2 (fun _ => ?_) (fun _ => ite2 (fun _ => ?_) (fun _ => k H z (Same.refl _) (Dh (by omega) (by omega)))))))))
  ·have ls : sigS.length = 36 := by decide +kernel
   obtain ⟨ch, ec, _⟩ := Kx (l := sigS.cps.toList) (i := d % (sigS.length : Int)) (Int.emod_nonneg _ (by rw [ls]; decide)) (by rw [C3]; exact Int.emod_lt_of_pos _ (by rw [ls]; decide))
   have one : coms ⟨#[ch]⟩ <= 1 := by unfold coms; exact List.count_le_length
   refine ⟨by omega, by rw [ls]; decide, by rw [ls]; decide, by rw [ls]; decide, ch, ec, ?_, by omega, ?_, k H _ (Same.refl _) (Dh ?_ ?_)⟩
   ·show _ + 1 <= sizeLine; omega
   ·rw [Ap]; show _ + 1 + _ <= sizeLine; omega
   ·rw [Ap, Ap]; show _ + 1 + _ <= 1000; omega
   ·rw [Bd, Bd]; omega
  ·refine ⟨by omega, by omega, by omega, k H _ (Same.refl _) (Dh ?_ ?_)⟩
   ·rw [Ap]; omega
   ·rw [Bd]; omega
  ·have lb : ("|" : Str).length = 1 := by decide +kernel
   refine ⟨show ("|" : Str).length + z.length <= sizeLine by omega, (show 8 <= sizeLine by decide), fun L hL => ?_⟩
   have S1 := Same.upd (o := .lst ((endS ++ ["|" ++ z]).map V.str)) hL
   have e1 : upd H L (.lst ((endS ++ ["|" ++ z]).map V.str)) L = some (.lst ((endS ++ ["|" ++ z]).map V.str)) := Ac
   obtain ⟨s, es, hs⟩ := Ol (d := d) (l := endS ++ ["|" ++ z]) (n := 8) rfl (by simp)
   refine ⟨by decide, _, _, .inl (SqL.of e1), es, ?_⟩
   rcases List.mem_append.mp hs with hs | hs
   ·obtain ⟨q1, q2⟩ := W9 s hs
    exact ⟨show z.length + s.length <= sizeLine by omega, k _ _ S1 (Dh (by rw [Ap]; omega) (by rw [Bd]; omega))⟩
   ·have : s = "|" ++ z := by simpa using hs
    subst this
    exact ⟨by rw [Ap, lb]; omega, k _ _ S1 (Xc (by omega) (by omega) (by omega))⟩
  ·refine ⟨(show 6 <= sizeLine by decide), fun L hL => ?_⟩
   obtain ⟨s, es, hs⟩ := Ol (d := d) (l := begS) (n := 6) rfl (by simp)
   obtain ⟨q1, q2⟩ := Ww s hs
   exact ⟨by decide, _, _, .inl (SqL.of Ac), es, show s.length + z.length <= sizeLine by omega, k _ _ (Same.upd hL) (Dh (by rw [Ap]; omega) (by rw [Bd]; omega))⟩
  ·have lb : ("&" : Str).length = 1 := by decide +kernel
   refine ⟨show z.length + ("&" : Str).length <= sizeLine by omega, ⟨by decide, by decide⟩, l, d, _, sw, rfl, hsw, hw, fun H' y S' ly cy => ⟨?_, k H' _ S' (Dh ?_ ?_)⟩⟩
   ·rw [Ap]; omega
   ·rw [Ap, Ap]; omega
   ·rw [Bd, Bd, show coms "&" = 0 from by decide +kernel]; omega
  ·obtain ⟨ds, ed, ⟨_, ol⟩, hd⟩ := id hsw
   have len : ds.length = sw.length := by rw [<- ed]; simp
   have h1w := hw.1
   have lb : ("," : Str).length = 1 := by decide +kernel
   obtain ⟨m, em, hm⟩ := La (x := d) (n := ds.length) (by omega)
   obtain ⟨⟨⟨e, la⟩, ta⟩, hi⟩ : ∃ z, ds[m]? = some z := ⟨_, List.getElem?_eq_getElem hm⟩
   have hi2 : e ∈ sw := by rw [<- ed]; exact List.mem_map.mpr ⟨_, List.mem_of_getElem? hi, rfl⟩
   obtain ⟨⟨_, h1⟩, _, h2⟩ := hd _ (List.mem_of_getElem? hi)
   obtain ⟨o1, o2⟩ := hw.2.2.2.1 e hi2
   have o3 := o2.2.1
   have hz : 0 < e.2.length := by omega
   have oz := o2.1.1 _ (List.getElem_mem hz)
   have oz8 := oz.2.1
   refine ⟨show z.length + ("," : Str).length <= sizeLine by omega, .inl ⟨_, .inl (SqL.of ol), ?_⟩⟩
   rw [List.length_map]
   refine ⟨by omega, ?_⟩
   rw [em]
   refine ⟨_, .ref ta, .inl (SqL.of ol), Aq (j := m) (by rw [List.getElem?_map, hi]; rfl), _, .ref la, .inr (SqT.of h1), rfl, _, .str e.2[0], .inl (SqL.of h2), Aq (j := 0) (by rw [List.getElem?_map, List.getElem?_eq_getElem hz]; rfl), ?_, k H _ (Same.refl _) (Dh ?_ ?_)⟩
   ·rw [Ap]; omega
   ·rw [Ap, Ap]; omega
   ·rw [Bd, Bd, C7 oz, show coms "," = 1 from by decide +kernel]; omega
  ·refine ⟨(show 8 <= sizeLine by decide), fun L hL => ?_⟩
   obtain ⟨s, es, hs⟩ := Ol (d := d) (l := oddS) (n := 8) rfl (by simp)
   obtain ⟨q1, q2⟩ := Xm s hs
   exact ⟨by decide, _, _, .inl (SqL.of Ac), es, k _ _ (Same.upd hL) (Dh (by omega) (by omega))⟩
def conv (sw : Sw) (d : List Nat) : List Str := List.zipWith (fun (x : Str × List Str) j => x.2.getD j Str.empty) sw d
theorem Os (l : List Str) : l = (List.range l.length).map fun j => l.getD j Str.empty := by
 refine List.ext_getElem (by simp) fun i h1 h2 => ?_
 rw [List.getElem_map, List.getElem_range, List.getD_eq_getElem?_getD, List.getElem?_eq_getElem h1]
 rfl
theorem Km (sw : Sw) : ∀ i, i <= sw.length -> Ah (sw.take i) = (digS (sw.take i)).map (conv (sw.take i)) /\ ∀ d ∈ digS (sw.take i), ∀ (p : Nat) x, (sw.take i)[p]? = some x -> ∃ j, d[p]? = some j /\ j < x.2.length := by
 intro i
 induction i with
 | zero => exact fun _ => ⟨rfl, fun d _ p x h => by simp at h⟩
 | succ i ih =>
  intro hi
  obtain ⟨e1, e2⟩ := ih (by omega)
  have hx : sw[i]? = some sw[i] := List.getElem?_eq_getElem (by omega)
  generalize sw[i] = x at hx
  have lt : (sw.take i).length = i := by rw [List.length_take]; omega
  have dl : ∀ d ∈ digS (sw.take i), d.length = i := fun d hd => by rw [Pu d hd, lt]
  have r1 : Ah (sw.take (i + 1)) = Cg (Ah (sw.take i)) x := B9 hx _ _
  have tk : sw.take (i + 1) = sw.take i ++ [x] := by rw [List.take_add_one, hx]; rfl
  refine ⟨?_, fun d hd p y hp => ?_⟩
  ·rw [r1, Fq hx, e1]
   unfold Cg Dv
   rw [List.flatMap_map, List.map_flatMap]
   refine congrArg List.flatten (List.map_congr_left fun d hd => ?_)
   show x.2.map (fun z => conv (sw.take i) d ++ [z]) = ((List.range x.2.length).map fun j => d ++ [j]).map (conv (sw.take (i + 1)))
   conv => lhs; rw [Os x.2]
   rw [List.map_map, List.map_map]
   refine List.map_congr_left fun j _ => ?_
   show conv (sw.take i) d ++ [x.2.getD j Str.empty] = conv (sw.take (i + 1)) (d ++ [j])
   unfold conv
   rw [tk, List.zipWith_append (by rw [lt, dl d hd])]
   rfl
  ·rw [Fq hx] at hd
   obtain ⟨a, ha, hd⟩ := List.mem_flatMap.mp hd
   obtain ⟨j, hj, rfl⟩ := List.mem_map.mp hd
   have la := dl a ha
   rw [tk] at hp
   by_cases hpi : p < i
   ·rw [List.getElem?_append_left (by omega)] at hp ⊢
    exact e2 a ha p y hp
   ·have hp2 := Al hp
    rw [List.length_append, lt] at hp2
    have hp3 : p = i := by have : [x].length = 1 := rfl; omega
    subst hp3
    rw [List.getElem?_append_right (by omega), lt, Nat.sub_self] at hp
    have : x = y := by simpa using hp
    subst this
    refine ⟨j, ?_, List.mem_range.mp hj⟩
    rw [List.getElem?_append_right (by omega), la, Nat.sub_self]
    rfl
theorem Ig (sw : Sw) : Ah sw = (digS sw).map (conv sw) := by
 have := (Km sw sw.length (Nat.le_refl _)).1
 rwa [List.take_length] at this
theorem Z3 {sw : Sw} {d : List Nat} (hd : d ∈ digS sw) {p : Nat} {x : Str × List Str} (hp : sw[p]? = some x) : ∃ j, d[p]? = some j /\ j < x.2.length := by
 have := (Km sw sw.length (Nat.le_refl _)).2
 rw [List.take_length] at this
 exact this d hd p x hp
theorem ai1 {sw : Sw} {n p j : Nat} {d : List Nat} {x : Str × List Str} (hn : (digS sw)[n]? = some d) (hp : sw[p]? = some x) (hj : d[p]? = some j) : ((Ah sw)[n]?.bind fun r => r[p]?) = some (x.2.getD j Str.empty) := by
 rw [Ig, List.getElem?_map, hn]
 show (conv sw d)[p]? = _
 unfold conv
 rw [List.getElem?_zipWith, hp, hj]
def hitB (sw : Sw) (n : Nat) (e : Str × List Str) : Bool := e.2.any fun z => hasB (Ah sw) (Az sw e.1) z n
def fN (sw b : Sw) : Nat -> Nat
 | 0 => 0
 | n + 1 => if b.all (hitB sw n) = true then fN sw b n ||| 2 ^ n else fN sw b n
theorem Tw (sw b : Sw) : ∀ N k, (fN sw b N).testBit k = (decide (k < N) && b.all (hitB sw k))
 | 0, k => by simp [fN]
 | N + 1, k => by
  have ih := Tw sw b N k
  unfold fN
  by_cases h : N = k
  ·subst h
   rw [decide_eq_false (Nat.lt_irrefl N), Bool.false_and] at ih
   cases e : b.all (hitB sw N) with
   | true => rw [if_pos rfl, Nat.testBit_or, Nat.testBit_two_pow, ih]; simp
   | false => rw [if_neg Bool.false_ne_true, ih]; simp
  ·have d : decide (k < N + 1) = decide (k < N) := decide_eq_decide.mpr (by omega)
   rw [d]
   cases e : b.all (hitB sw N) with
   | true => rw [if_pos rfl, Nat.testBit_or, Nat.testBit_two_pow, ih, decide_eq_false h, Bool.or_false]
   | false => rw [if_neg Bool.false_ne_true, ih]
theorem Z5 (sw b : Sw) : ((fN sw b (Ah sw).length : Nat) : Int) = boxM sw b := by
 rw [E4]
 congr 1
 refine Nat.eq_of_testBit_eq fun k => ?_
 rw [Tw, Mg]
 rfl
theorem D0 (z : Str) (l : List Str) : inV (.str z) (l.map V.str) = decide (z ∈ l) := by
 unfold inV
 rw [List.any_map, Bool.eq_iff_iff, decide_eq_true_iff, List.any_eq_true]
 constructor
 ·rintro ⟨y, hy, e⟩
  have e : (y == z) = true := e
  rw [<- eq_of_beq e]
  exact hy
 ·intro h
  exact ⟨z, h, beq_self_eq_true z⟩
theorem Z8 {sw : Sw} {n : Nat} {e : Str × List Str} {z : Str} (h : ((Ah sw)[n]?.bind fun r => r[Az sw e.1]?) = some z) : hitB sw n e = decide (z ∈ e.2) := by
 unfold hitB hasB
 rw [h, Bool.eq_iff_iff, decide_eq_true_iff, List.any_eq_true]
 constructor
 ·rintro ⟨y, hy, q⟩
  have q : some z = some y := by simpa using q
  rw [Option.some.inj q]
  exact hy
 ·exact fun hz => ⟨z, hz, by simp⟩
theorem Pg {E : EK} {H : Hp} {l : Addr} {sw : Sw} {R : Hp -> Addr -> Prop} (hw : okSw sw) (h : SwIn any H l sw) (k : ∀ D H', Same H H' -> H D = none -> H' D = some (lstO (sw.map (·.1))) -> R H' D) :
  ∀ D, H D = none -> CmpW (Itl K l) (gdT K 2 [gdN 0, gdN 1]) dYes (dVar 0) D (fun H' => R H' D) [none, none] (upd H D (.lst [])) E := by
 obtain ⟨ds, ed, ⟨_, ol⟩, hd⟩ := h
 have len : (ds.map fun x => V.ref x.2).length = sw.length := by rw [<- ed]; simp
 intro D hD
 refine B8 (A0 (ds.map fun x => V.ref x.2)) (fun m σ H' => (∃ v0 v1, σ = [v0, v1]) /\ Same H H' /\ H' D = some (lstO ((sw.take m).map (·.1)))) ⟨⟨_, _, rfl⟩, Same.upd hD, Ac⟩ (fun m σ H' _ q => q.2.1.seqL (SqL.of ol)) ?_ ?_
 ·rintro m x σ H1 hx ⟨⟨v0, v1, rfl⟩, S1, eD⟩
  obtain ⟨⟨⟨e, la⟩, ta⟩, hi, rfl⟩ := Ak hx
  have hi2 : sw[m]? = some e := by rw [<- ed, List.getElem?_map, hi]; rfl
  obtain ⟨⟨_, h1⟩, _, h2⟩ := hd _ (List.mem_of_getElem? hi)
  refine ⟨_, SqT.of (S1 _ _ h1), rfl, _, eD, ?_, ⟨_, _, rfl⟩, S1.set hD, ?_⟩
  ·rw [List.length_map, List.length_map, List.length_take]
   have := hw.2.1
   exact Nat.lt_of_le_of_lt (show min m sw.length <= 5 by omega) (by decide)
  ·rw [Ac, lstO, A7 hi2, List.map_append]; rfl
 ·rintro σ H1 ⟨_, S1, eD⟩
  rw [len, List.take_length] at eD
  exact k D H1 S1 hD eD
theorem Mp {l : List Str} {i : Nat} {z : Str} (h : l[i]? = some z) (nd : l.Nodup) : i < (l.map V.str).length /\ eqV ((l.map V.str).getD i .non) (.str z) = true /\ ∀ m, m < i -> eqV ((l.map V.str).getD m .non) (.str z) = false := by
 have hi := Al h
 have g : ∀ m (hm : m < l.length), (l.map V.str).getD m .non = .str l[m] := fun m hm => by
  rw [List.getD_eq_getElem?_getD, List.getElem?_map, List.getElem?_eq_getElem hm]
  rfl
 have ex : l[i] = z := by rw [List.getElem?_eq_getElem hi] at h; exact Option.some.inj h
 refine ⟨by simpa using hi, ?_, fun m hm => ?_⟩
 ·rw [g i hi, ex]
  exact beq_self_eq_true _
 ·rw [g m (by omega)]
  show (l[m] == z) = false
  rw [Bool.beq_eq_decide_eq]
  refine decide_eq_false fun q => ?_
  have := (List.getElem_inj (i := m) (j := i) (h₀ := by omega) (h₁ := hi) nd).mp (by rw [q, ex])
  omega
def Kj (l : List Str) (z : Str) : Nat := Az (l.map fun y => (y, [])) z
theorem Oo {l : List Str} {i : Nat} {z : Str} (h : l[i]? = some z) (nd : l.Nodup) : Kj l z = i := Bj (x := (z, [])) (by rw [List.getElem?_map, h]; rfl) (by rw [List.map_map]; show (l.map id).Nodup; rw [List.map_id]; exact nd)
theorem al5 {l ss : List Str} {j : Nat} (nd : l.Nodup) (hj : j < l.length) (sub : ∀ z ∈ ss, z ∈ l) : inV (.int (j : Int)) ((ss.map (Kj l)).map fun n : Nat => V.int (n : Int)) = decide (l.getD j Str.empty ∈ ss) := by
 unfold inV
 rw [List.map_map, List.any_map, Bool.eq_iff_iff, decide_eq_true_iff, List.any_eq_true]
 constructor
 ·rintro ⟨z, hz, e⟩
  have e : (((Kj l z : Nat) : Int) == (j : Int)) = true := e
  obtain ⟨i, hi⟩ := List.mem_iff_getElem?.mp (sub z hz)
  rw [Oo hi nd] at e
  have e := eq_of_beq e
  have : i = j := by omega
  subst this
  rw [List.getD_eq_getElem?_getD, hi]
  exact hz
 ·intro h
  refine ⟨_, h, ?_⟩
  show (((Kj l (l.getD j Str.empty) : Nat) : Int) == (j : Int)) = true
  rw [Oo (i := j) (by rw [List.getD_eq_getElem?_getD, List.getElem?_eq_getElem hj]; rfl) nd]
  exact beq_self_eq_true _
theorem Rc (l : List Nat) : (l.map fun n : Nat => V.int (n : Int)).all Bu = true := by rw [List.all_map, List.all_eq_true]; exact fun _ _ => rfl
theorem Gj : ∀ (ts : List Str) (acc rule : Sw), Ao ts acc = some rule -> ∀ e ∈ acc, e ∈ rule
 | [], acc, rule, h, e, he => by cases h; exact he
 | q :: ts, acc, rule, h, e, he => by
  unfold Ao at h
  split at h
  ·split at h
   ·cases h
   ·exact Gj ts _ rule h e (List.mem_append.mpr (.inl he))
  ·cases h
theorem aj2 {sw : Sw} {p : Nat} {x y : Str × List Str} (nd : (sw.map (·.1)).Nodup) (hp : sw[p]? = some y) (hx : x ∈ sw) (e : x.1 = y.1) : x = y := by
 obtain ⟨p', hp'⟩ := List.mem_iff_getElem?.mp hx
 have h1 := Bj hp nd
 have h2 := Bj hp' nd
 rw [e, h1] at h2
 subst h2
 rw [hp] at hp'
 exact (Option.some.inj hp').symm
def kD (sw : Sw) (x : (Str × List Str) × Addr) : Key × V := (.inl ((Az sw x.1.1 : Nat) : Int), .ref x.2)
def EntD (sw : Sw) (H : Hp) (x : (Str × List Str) × Addr) : Prop := ∃ (p : Nat) (y : Str × List Str), sw[p]? = some y /\ y.1 = x.1.1 /\ (∀ z ∈ x.1.2, z ∈ y.2) /\ H x.2 = some (nO (x.1.2.map (Kj y.2)))
theorem aa2 {sw : Sw} {es : List ((Str × List Str) × Addr)} {w : Str} (h : w ∈ (es.map (·.1)).map (·.1)) : ∃ v, valV (es.map (kD sw)) (.inl ((Az sw w : Nat) : Int)) = some v := by
 rw [List.map_map] at h
 obtain ⟨x, hx, ex⟩ := List.mem_map.mp h
 refine Jd ?_
 rw [List.map_map]
 exact List.mem_map.mpr ⟨x, hx, by show (Sum.inl ((Az sw x.1.1 : Nat) : Int) : Key) = _; rw [<- ex]; rfl⟩
theorem Ug {sw : Sw} {es : List ((Str × List Str) × Addr)} {p : Nat} {y : Str × List Str} {H : Hp} (nd : (sw.map (·.1)).Nodup) (hp : sw[p]? = some y) (he : ∀ x ∈ es, EntD sw H x) (h : y.1 ∉ (es.map (·.1)).map (·.1)) : valV (es.map (kD sw)) (.inl ((p : Nat) : Int)) = none := by
 refine B2 fun q => h ?_
 rw [List.map_map] at q ⊢
 obtain ⟨x, hx, ex⟩ := List.mem_map.mp q
 have ex : ((Az sw x.1.1 : Nat) : Int) = (p : Int) := Sum.inl.inj ex
 obtain ⟨p', y', h1, h2, _⟩ := he x hx
 have e3 : Az sw x.1.1 = p' := by rw [<- h2]; exact Bj h1 nd
 have e4 : p' = p := by omega
 subst e4
 rw [hp] at h1
 cases h1
 exact List.mem_map.mpr ⟨x, hx, h2.symm⟩
theorem al7 {sw : Sw} {H : Hp} {es : List ((Str × List Str) × Addr)} (nd : (sw.map (·.1)).Nodup) (he : ∀ x ∈ es, EntD sw H x) (h : ((es.map (·.1)).map (·.1)).Nodup) : ((es.map (kD sw)).map (·.1)).Nodup := by
 rw [List.map_map] at h ⊢
 refine List.pairwise_map.mpr ((List.pairwise_map.mp h).imp_of_mem fun {a b} ha hb ne e => ne ?_)
 have e : ((Az sw a.1.1 : Nat) : Int) = ((Az sw b.1.1 : Nat) : Int) := Sum.inl.inj e
 obtain ⟨p, y, h1, h2, _⟩ := he a ha
 obtain ⟨p', y', g1, g2, _⟩ := he b hb
 rw [<- h2, <- g2, Bj h1 nd, Bj g1 nd] at e
 have e : p = p' := by omega
 subst e
 rw [h1] at g1
 cases g1
 exact h2.symm.trans g2
theorem ak8 {H : Hp} {d : Addr} {p : Nat} {v : V} {kvs : List (Key × V)} (e : Rd H d (.dK kvs)) (h : valV kvs (.inl (p : Int)) = some v) : ∃ xs, SqX K H d (p : Int) xs /\ atI xs (p : Int) = some v := by
 have a : atI (List.replicate (p + 1) v) (p : Int) = some v := Aq (by simp)
 refine ⟨_, .dk fun u hu => .inl ⟨kvs, .inl (p : Int), e, rfl, ?_⟩, a⟩
 rw [a] at hu
 rw [h, <- hu]
theorem ab7 {p : Addr} {H : Hp} {kvs : List (Key × V)} {R : Obj -> List (Key × V) -> Hp -> Prop} (e : Rd H p (.dK kvs)) (h : ∀ o Hf, Hf p = some (.frz o (.dK kvs)) -> (∀ b, b ≠ p -> Hf b = H b) -> R o kvs Hf) : onD p H R := by
 rcases e with e | ⟨o, e⟩
 ·exact .inl ⟨kvs, e, fun o => h o _ Ac fun b n => Af n⟩
 ·exact .inr ⟨o, kvs, e, h o H e fun _ _ => rfl⟩
theorem Xe {n : Nat} : decide ((n : Int) = 0) = decide (n = 0) := decide_eq_decide.mpr (by omega)
theorem Rr {E : EK} {H : Hp} {sw : Sw} {es : List ((Str × List Str) × Addr)} {d r rn : Addr} {o : Obj} {n : Nat} {dg : List Nat} {rs : List V} {R : Hp -> Addr -> Prop} (hw : okSw sw) (ef : H d = some (.frz o (.dK (es.map (kD sw))))) (he : ∀ x ∈ es, EntD sw H x) (nd : ((es.map (kD sw)).map (·.1)).Nodup) (le : es.length <= 1001)
  (hr : H r = some (.lst rs)) (hn : rs[n]? = some (.ref rn)) (hrn : H rn = some (nO dg)) (hdg : (digS sw)[n]? = some dg) (k : ∀ D H' ys, Same H H' -> H D = none -> H' D = some (.lst ys) -> decide (ys.length = 0) = (es.all fun x => hitB sw n x.1) -> R H' D) :
  ∀ D, H D = none -> CmpW (Itd d o (es.map (kD sw))) (gdN 0) (dTst (dBin (rInD K true) (dBin (rIxD K) (dBin (rIxD K) (dVar 2) (dVar 1)) (dVar 0)) (dBin (rIxD K) (dVar 3) (dVar 0)))) (dVar 0) D (fun H' => R H' D) [none, some (.int (n : Int)), some (.ref r), some (.ref d)] (upd H D (.lst [])) E := by
 intro D hD
 refine B8 (G5 (es.map (kD sw))) (fun m σ H' => (∃ v, σ = [v, some (.int (n : Int)), some (.ref r), some (.ref d)]) /\ Same H H' /\ ∃ ys, H' D = some (.lst ys) /\ ys.length <= m /\ decide (ys.length = 0) = ((es.take m).all fun x => hitB sw n x.1)) ⟨⟨_, rfl⟩, Same.upd hD, [], Ac, Nat.le_refl _, rfl⟩ (fun m σ H' _ q => q.2.1 _ _ ef) ?_ ?_
 ·rintro m x σ H1 hx ⟨⟨v, rfl⟩, S1, ys, eD, ly, hy⟩
  obtain ⟨kv, hi0, rfl⟩ := Ak hx
  obtain ⟨⟨e, la⟩, hi, rfl⟩ := Ak hi0
  obtain ⟨p, y, hp, ey, sub, ela⟩ := he _ (List.mem_of_getElem? hi)
  have ey : y.1 = e.1 := ey
  have pl : Az sw e.1 = p := by rw [<- ey]; exact Bj hp hw.2.2.1
  obtain ⟨j, hj, hj2⟩ := Z3 (List.mem_of_getElem? hdg) hp
  have hv2 := Z8 (e := e) (by rw [pl]; exact ai1 hdg hp hj)
  have nd2 := (hw.sets y (List.mem_of_getElem? hp)).1.2.1
  have hin := al5 nd2 hj2 sub
  have hval : valV (es.map (kD sw)) (.inl ((Az sw e.1 : Nat) : Int)) = some (.ref la) := B5 nd hi0
  have hjp : dg[Az sw e.1]? = some j := by rw [pl]; exact hj
  obtain ⟨xs, sx, ax⟩ := ak8 (K := K) (.inr ⟨o, S1 _ _ ef⟩ : Rd H1 d (.dK (es.map (kD sw)))) hval
  have mi := Al hi
  have al : ((es.take (m + 1)).all fun x => hitB sw n x.1) = (((es.take m).all fun x => hitB sw n x.1) && hitB sw n e) := by
   rw [List.take_add_one, hi, Option.toList_some, List.all_append, List.all_cons, List.all_nil, Bool.and_true]
  refine ⟨_, .ref rn, .inl (SqL.of (S1 _ _ hr)), Aq (j := n) hn, _, .int (j : Int), .inl (SqL.of (S1 _ _ hrn)), Aq (j := Az sw e.1) (by rw [List.getElem?_map, hjp]; rfl), xs, .ref la, sx, ax, .inl ⟨la, _, rfl, .inl (SqL.of (S1 _ _ ela)), rfl, Rc _, ?_⟩⟩
  rw [hin, <- hv2]
  cases hh : hitB sw n e with
  | true => exact ⟨⟨_, rfl⟩, S1, ys, eD, by omega, by rw [al, hh, Bool.and_true]; exact hy⟩
  | false =>
   refine ⟨_, eD, Nat.lt_of_le_of_lt (show ys.length <= 1001 by omega) (by decide), ⟨_, rfl⟩, S1.set hD, _, Ac, by rw [List.length_append]; show ys.length + 1 <= _; omega, ?_⟩
   rw [al, hh, Bool.and_false, List.length_append]
   exact decide_eq_false (show ys.length + 1 ≠ 0 by omega)
 ·rintro σ H1 ⟨_, S1, ys, eD, _, hy⟩
  rw [List.length_map, List.length_map, List.take_length] at hy
  exact k D H1 ys S1 hD eD hy
def al4 (l r lw d S : Addr) (z : Str) (ts : List Str) (sw : Sw) (H : Hp) (i : Nat) (σ : St) (H' : Hp) : Prop := (∃ v5 v6 v7 v8 v9, σ = [some (.ref l), some (.ref r), some (.str z), some (.ref lw), some (.ref d), v5, v6, v7, v8, v9, none, none]) /\ Same H H' /\ H' S = some (.lst (ts.map V.str)) /\
 ∃ es : List ((Str × List Str) × Addr), Ao ts [] = Ao (ts.drop i) (es.map (·.1)) /\ es.length = i /\ ((es.map (·.1)).map (·.1)).Nodup /\ H' d = some (.dK (es.map (kD sw))) /\ ∀ x ∈ es, B4 sw x.1 /\ EntD sw H' x
theorem am8 {f : Addr} {fd : FuncData} (Z : Ar K t) (F : FunD K "_law_box_read" "_law_box_read" s_zi f fd .none) (T : Tab P w K mg base 0 (gb_0 K t) bl) : FnOk P w K mg base CX0 1 f fd P_zi (V4 K t) := by
 refine F.okW0 au3 ay4 T (ar5 K t) (fun vs H Q E h => ?_) (fun vs H Q E h => ?_)
 ·obtain ⟨l, r, z, sw, rfl, _⟩ := h; rfl
 ·obtain ⟨l, r, z, sw, rfl, hsw, hw, ⟨rs, er, orr, hr⟩, hf, k⟩ := h
  obtain ⟨ds, ed, ⟨_, ol⟩, hd⟩ := id hsw
  have nds := hw.2.2.1
  refine .inl ⟨⟨_, SqL.of ol⟩, ?_⟩
  refine Pg hw hsw fun lw H1 S1 hlw elw => fun d hd0 => ?_
  have no : ¬ Cj sw z -> ∀ H', Same H H' -> Q (.int (-1)) H' := fun h => k.elim (fun q => absurd q.1 h) (·.2)
  have hfew := Fr hf
  have many : (Txt.split z "&").length <= 1001 := by rw [Kn]; exact Nat.le_trans Cu (by have := hf.1; omega)
  have hP : C6 z = Ao (Txt.split z "&") [] := rfl
  refine .inl ⟨rfl, z, "&", rfl, rfl, by decide +kernel, Nat.le_trans hf.1 (by decide), fun S hS => ?_⟩
  have fS : H1 S = none := (Same.upd hd0).free hS
  have nSd : d ≠ S := Ae Ac hS
  generalize Txt.split z "&" = ts at hfew many hP hS ⊢
  have S0 := (Same.upd (o := .dK []) hd0).trans (Same.upd (o := .lst (ts.map V.str)) hS)
  have ed0 : upd (upd H1 d (.dK [])) S (.lst (ts.map V.str)) d = some (.dK []) := by rw [Af nSd, Ac]
  have eS : upd (upd H1 d (.dK [])) S (.lst (ts.map V.str)) S = some (.lst (ts.map V.str)) := Ac
  refine .inl ⟨⟨_, SqL.of eS⟩, ?_⟩
  show ForW (Itl K S) _ _ _ [some (.ref l), some (.ref r), some (.str z), some (.ref lw), some (.ref d), none, none, none, none, none, none, none] (upd (upd H1 d (.dK [])) S (.lst (ts.map V.str)))
  generalize upd (upd H1 d (.dK [])) S (.lst (ts.map V.str)) = H0 at S0 ed0 eS ⊢
  have bad1 : Ao ts [] = none -> ¬ Cj sw z := fun h ⟨rule, e, _⟩ => by rw [hP, h] at e; cases e
  have bad2 : ∀ {r acc e}, Ao ts [] = Ao r acc -> e ∈ acc -> ¬ B4 sw e -> ¬ Cj sw z := fun h he ne ⟨rule, e, ok⟩ => ne (ok _ (Gj _ _ rule (by rw [<- h, <- hP]; exact e) _ he))
  refine Bh (A0 (ts.map V.str)) (al4 l r lw d S z ts sw H1) ⟨⟨_, _, _, _, _, rfl⟩, S0, eS, [], rfl, rfl, List.nodup_nil, ed0, fun x hx => by cases hx⟩ (fun i σ H' _ q => SqL.of q.2.2.1) ?_ ?_
  ·rintro i x σ H2 hx ⟨⟨v5, v6, v7, v8, v9, rfl⟩, S2, e2S, es, ee, le, ndE, e2d, he⟩
   obtain ⟨q, hi, rfl⟩ := Ak hx
   have hq := hfew q (List.mem_of_getElem? hi)
   have lti := Al hi
   rw [Mm hi] at ee
   refine ⟨rfl, q, "=", rfl, rfl, by decide +kernel, Nat.le_trans hq.1 (by decide), fun T hT => ?_⟩
   have ST := Same.upd (o := .lst ((Txt.split q "=").map V.str)) hT
   have eT : upd H2 T (.lst ((Txt.split q "=").map V.str)) T = some (.lst ((Txt.split q "=").map V.str)) := Ac
   show dSeq _ _ _ [some (.ref l), some (.ref r), some (.str z), some (.ref lw), some (.ref d), some (.str q), some (.ref T), v7, v8, v9, none, none] (upd H2 T (.lst ((Txt.split q "=").map V.str)))
   generalize upd H2 T (.lst ((Txt.split q "=").map V.str)) = H3 at ST eT ⊢
   have S3 := S2.trans ST
   have S03 := S1.trans S3
   have e3d := ST _ _ e2d
   have e3w := S3 _ _ elw
   refine .inl ⟨_, .inl (SqL.of eT), ?_⟩
   rw [List.length_map]
   by_cases h2 : (Txt.split q "=").length = 2
   ·obtain ⟨a, b, eab⟩ := Wi h2
    rw [Fw eab] at ee
    have hb : b.length <= 1000 := by
     rw [s_eq] at eab
     exact Nat.le_trans (Bq (c := 61) (by rw [eab]; simp)) hq.1
    rw [eab] at eT ⊢
    have qT := SqL.of (K := K) eT
    refine ⟨_, _, .inl qT, rfl, .inl ⟨lw, _, rfl, .inl (SqL.of e3w), rfl, B0 _, ?_⟩⟩
    by_cases ha : a ∈ sw.map (·.1)
    ·refine Cc (by rw [D0, decide_eq_true ha]; rfl) ?_
     obtain ⟨y, hy, ey⟩ := List.mem_map.mp ha
     obtain ⟨p, hp⟩ := List.mem_iff_getElem?.mp hy
     subst ey
     obtain ⟨ix1, ix2, ix3⟩ := Mp (show (sw.map (·.1))[p]? = some y.1 by rw [List.getElem?_map, hp]; rfl) nds
     obtain ⟨oy1, oy2⟩ := hw.2.2.2.1 y hy
     have ndy := oy2.1.2.1
     have hpd : p < ds.length := by have := Al hp; rw [<- ed, List.length_map] at this; exact this
     obtain ⟨⟨⟨y', la⟩, ta⟩, hds⟩ : ∃ z, ds[p]? = some z := ⟨_, List.getElem?_eq_getElem hpd⟩
     have : y' = y := by
      rw [<- ed, List.getElem?_map, hds] at hp
      exact Option.some.inj hp
     subst this
     obtain ⟨⟨_, w1⟩, _, w2⟩ := hd _ (List.mem_of_getElem? hds)
     have w2 : H la = some (lstO y'.2) := w2
     have atp : atI (ds.map fun x => V.ref x.2) (p : Int) = some (.ref ta) := Aq (j := p) (by rw [List.getElem?_map, hds]; rfl)
     refine ⟨.inl ⟨rfl, _, SqL.of e3w⟩, _, _, .inl qT, rfl, lw, _, .str y'.1, rfl, rfl, e3w, rfl, B0 _, p, ix1, ix2, ix3, .inr ⟨_, DGet.k (k := .inl (p : Int)) e3d, ?_⟩⟩
     by_cases hin : y'.1 ∈ (es.map (·.1)).map (·.1)
     ·obtain ⟨v, hv⟩ := aa2 (sw := sw) hin
      rw [Bj hp nds] at hv
      rw [hv]
      exact no (bad1 (by rw [ee]; exact if_pos hin)) _ S03
     ·rw [Ug nds hp (fun x hx => (he x hx).2) hin]
      have ee : Ao ts [] = Ao (ts.drop (i + 1)) (es.map (·.1) ++ [(y'.1, Txt.split b ",")]) := by rw [ee]; exact if_neg hin
      refine ⟨.inl ⟨rfl, _, SqL.of e3w⟩, _, _, .inl qT, rfl, lw, _, .str y'.1, rfl, rfl, e3w, rfl, B0 _, p, ix1, ix2, ix3, ?_⟩
      refine ⟨_, _, .inl qT, rfl, rfl, b, ",", rfl, rfl, by decide +kernel, Nat.le_trans hb (by decide), fun L hL => ?_⟩
      have ne : Txt.split b "," ≠ [] := by rw [M9]; exact Ea
      have lss : (Txt.split b ",").length <= 1001 := by rw [M9]; exact Nat.le_trans Cu (by omega)
      generalize Txt.split b "," = ss at ee ne lss hL ⊢
      have SL := Same.upd (o := lstO ss) hL
      have eL : upd H3 L (lstO ss) L = some (lstO ss) := Ac
      show dSeq _ _ _ [some (.ref l), some (.ref r), some (.str z), some (.ref lw), some (.ref d), some (.str q), some (.ref T), some (.int (p : Int)), some (.ref L), v9, none, none] (upd H3 L (lstO ss))
      generalize upd H3 L (lstO ss) = H4 at SL eL ⊢
      have S4 := S3.trans SL
      have S04 := S1.trans S4
      have bad : ¬ B4 sw (y'.1, ss) -> ¬ Cj sw z := bad2 ee (List.mem_append.mpr (.inr (List.mem_singleton.mpr rfl)))
      refine .inl ⟨_, .inl (SqL.of eL), ?_⟩
      rw [List.length_map]
      refine ⟨⟨by omega, by omega⟩, ?_⟩
      rw [Int.toNat_natCast]
      refine Bh (Ch 0 ss.length) (fun j σ H' => (∃ v9, σ = [some (.ref l), some (.ref r), some (.str z), some (.ref lw), some (.ref d), some (.str q), some (.ref T), some (.int (p : Int)), some (.ref L), v9, none, none]) /\ Same H4 H' /\ (∀ z ∈ ss.take j, z ∈ y'.2) /\ (ss.take j).Nodup) ⟨⟨_, rfl⟩, Same.refl _, fun z hz => (by cases hz), List.nodup_nil⟩ (fun _ _ _ _ _ => True.intro) ?_ ?_
      ·rintro j x σ H5 hx ⟨⟨v9, rfl⟩, S5, sub, nd⟩
       obtain ⟨hj, rfl⟩ := Ez hx
       have hj2 : ss[j]? = some ss[j] := List.getElem?_eq_getElem hj
       generalize ss[j] = u at hj2
       have S05 := S04.trans S5
       have qL := SqL.of (K := K) (S5 _ _ eL)
       have atj : atI (ss.map V.str) (j : Int) = some (.str u) := Aq (j := j) (by rw [List.getElem?_map, hj2]; rfl)
       refine ⟨_, .str u, .inl qL, atj, _, .ref ta, .inl (SqL.of (S05 _ _ ol)), atp, _, .ref la, .inr (SqT.of (S05 _ _ w1)), rfl, .inl ⟨la, _, rfl, .inl (SqL.of (S05 _ _ w2)), rfl, B0 _, ?_⟩⟩
       by_cases hu : u ∈ y'.2
       ·refine Cc (by rw [D0, decide_eq_true hu]; rfl) ?_
        refine ⟨_, .str u, .inl qL, atj, .inl ⟨_, qL, fun T2 hT2 => .inl ⟨T2, _, rfl, .inl (SqL.of Ac), rfl, by rw [Pr, <- List.map_take]; exact B0 _, ?_⟩⟩⟩
        rw [Pr, <- List.map_take]
        rw [D0]
        by_cases hd2 : u ∈ ss.take j
        ·rw [decide_eq_true hd2]
         exact no (bad fun o => Iv o.2.1.2.1 hj2 hd2) _ (S05.trans (Same.upd hT2))
        ·rw [decide_eq_false hd2]
         refine ⟨⟨_, rfl⟩, S5.trans (Same.upd hT2), F8 hj2 sub hu, ?_⟩
         rw [List.take_add_one, hj2]
         exact List.nodup_append.mpr ⟨nd, by simp, fun a ha b hb e => hd2 (by have : b = u := (by simpa using hb); rw [<- this, <- e]; exact ha)⟩
       ·refine Fb (by rw [D0, decide_eq_false hu]; rfl) ?_
        refine no (bad fun ⟨_, _, x, hx, ex, o⟩ => hu ?_) _ S05
        rw [<- aj2 nds hp hx ex]
        exact o u (List.mem_of_getElem? hj2)
      ·rintro σ H5 ⟨⟨v9, rfl⟩, S5, sub, nd⟩
       rw [Be, List.take_length] at sub nd
       have S05 := S04.trans S5
       refine .inl (.inl ⟨⟨_, SqL.of (S5 _ _ eL)⟩, fun D hD => ?_⟩)
       refine B8 (A0 (ss.map V.str)) (fun m σ H' => (∃ v, σ = [v, some (.int (p : Int)), some (.ref l)]) /\ Same H5 H' /\ H' D = some (nO ((ss.take m).map (Kj y'.2)))) ⟨⟨_, rfl⟩, Same.upd hD, Ac⟩ (fun m σ H' _ q => (S5.trans q.2.1).seqL (SqL.of eL)) ?_ ?_
       ·rintro m x σ H6 hx ⟨⟨v, rfl⟩, S6, eD⟩
        obtain ⟨u, hm, rfl⟩ := Ak hx
        have S06 := S05.trans S6
        obtain ⟨n, hn⟩ := List.mem_iff_getElem?.mp (sub u (List.mem_of_getElem? hm))
        obtain ⟨j1, j2, j3⟩ := Mp hn ndy
        refine ⟨_, .ref ta, .inl (SqL.of (S06 _ _ ol)), atp, _, .ref la, .inr (SqT.of (S06 _ _ w1)), rfl, .inl ⟨rfl, _, SqL.of (S06 _ _ w2)⟩, la, _, .str u, rfl, rfl, S06 _ _ w2, rfl, B0 _, n, j1, j2, j3, _, eD, ?_, ⟨_, rfl⟩, S6.set hD, ?_⟩
        ·rw [List.length_map, List.length_map, List.length_take]
         exact Nat.lt_of_le_of_lt (show min m ss.length <= 1001 by omega) (by decide)
        ·rw [Ac, nO, A7 hm, List.map_append, Oo hn ndy]; rfl
       ·rintro σ H6 ⟨_, S6, eD⟩
        rw [List.length_map, List.take_length] at eD
        have S36 := SL.trans (S5.trans S6)
        have S26 := ST.trans S36
        have ndD : d ≠ D := Ae ((SL.trans S5) _ _ e3d) hD
        have hle : ss.length <= 8 := Nat.le_trans (Nf nd sub) (by have := oy2.2.2; omega)
        refine .inr ⟨_, DPut.k (k := .inl (p : Int)) (S36 _ _ e3d) ?_, ?_⟩
        ·rw [List.length_map, le]
         exact Nat.lt_of_le_of_lt (show i <= 1001 by omega) (by decide)
        have pk : putK (es.map (kD sw)) (.inl (p : Int)) (.ref D) = (es ++ [((y'.1, ss), D)]).map (kD sw) := by
         rw [Fg _ (Ug nds hp (fun x hx => (he x hx).2) hin), List.map_append]
         show _ ++ [((Sum.inl (p : Int) : Key), V.ref D)] = _ ++ [((Sum.inl ((Az sw y'.1 : Nat) : Int) : Key), V.ref D)]
         rw [Bj hp nds]
        rw [pk]
        refine ⟨⟨_, _, _, _, _, rfl⟩, (S2.trans S26).set hd0, ?_, es ++ [((y'.1, ss), D)], ?_, ?_, ?_, Ac, fun x hx => ?_⟩
        ·rw [Af (Ne.symm nSd)]; exact S26 _ _ e2S
        ·rw [List.map_append]; exact ee
        ·rw [List.length_append, le]; rfl
        ·rw [List.map_append, List.map_append]
         exact List.nodup_append.mpr ⟨ndE, by simp, fun a ha b hb e => hin (by have : b = y'.1 := (by simpa using hb); rw [<- this, <- e]; exact ha)⟩
        ·rcases List.mem_append.mp hx with hx | hx
         ·obtain ⟨o, p', y2, g1, g2, g3, g4⟩ := he x hx
          refine ⟨o, p', y2, g1, g2, g3, ?_⟩
          rw [Af (fun z => by rw [z, e2d] at g4; cases g4)]
          exact S26 _ _ g4
         ·have : x = ((y'.1, ss), D) := by simpa using hx
          subst this
          exact ⟨⟨ne, ⟨fun z hz => oy2.1.1 z (sub z hz), nd, hle⟩, y', hy, rfl, sub⟩, p, y', hp, rfl, sub, by rw [Af (Ne.symm ndD)]; exact eD⟩
    ·refine Fb (by rw [D0, decide_eq_false ha]; rfl) ?_
     refine no ?_ _ S03
     by_cases hin : a ∈ (es.map (·.1)).map (·.1)
     ·exact bad1 (by rw [ee]; exact if_pos hin)
     ·exact bad2 (e := (a, Txt.split b ",")) (by rw [ee]; exact if_neg hin) (List.mem_append.mpr (.inr (List.mem_singleton.mpr rfl))) fun ⟨_, _, x, hx, ex, _⟩ => ha (List.mem_map.mpr ⟨x, hx, ex⟩)
   ·refine Fb (by simp; omega) ?_
    exact no (bad1 (ee.trans (Ki h2))) _ S03
  ·rintro σ H2 ⟨⟨v5, v6, v7, v8, v9, rfl⟩, S2, e2S, es, ee, le, ndE, e2d, he⟩
   rw [List.length_map] at le
   rw [List.length_map, List.drop_length] at ee
   have ee : C6 z = some (es.map (·.1)) := by rw [hP, ee]; rfl
   have hok : Cj sw z := ⟨es.map (·.1), ee, fun e he' => by obtain ⟨x, hx, rfl⟩ := List.mem_map.mp he'; exact (he x hx).1⟩
   have k := k.elim (·.2) fun q => absurd hok q.1
   have eP : Ce sw z = boxM sw (es.map (·.1)) := by unfold Ce; rw [ee]; rfl
   rw [eP, <- Z5] at k
   have S02 := S1.trans S2
   have lenr : (rs.map fun x => V.ref x.2).length = (Ah sw).length := by rw [Ig, List.length_map, <- er]; simp
   have few := hw.len
   have nk := al7 nds (fun x hx => (he x hx).2) ndE
   have fd : H d = none := S1.free hd0
   refine .inl (.inl ⟨_, .inl (S02.seqL (SqL.of orr)), ?_⟩)
   rw [lenr]
   refine ⟨⟨by omega, by omega⟩, ?_⟩
   rw [Int.toNat_natCast]
   refine Bh (Ch 0 (Ah sw).length) (fun n σ H' => (∃ v5 v6 v7 v8 v9 v11, σ = [some (.ref l), some (.ref r), some (.str z), some (.ref lw), some (.ref d), v5, v6, v7, v8, v9, some (.int (fN sw (es.map (·.1)) n : Nat)), v11]) /\ Off d H2 H' /\ Rd H' d (.dK (es.map (kD sw)))) ⟨⟨_, _, _, _, _, _, rfl⟩, fun b u _ e => e, .inl e2d⟩ (fun _ _ _ _ _ => True.intro) ?_ ?_
   ·rintro n x σ H3 hx ⟨⟨v5, v6, v7, v8, v9, v11, rfl⟩, O3, R3⟩
    obtain ⟨hn, rfl⟩ := Ez hx
    have hn1 : n < rs.length := by rw [List.length_map] at lenr; omega
    obtain ⟨⟨dg, rn⟩, hrn⟩ : ∃ z, rs[n]? = some z := ⟨_, List.getElem?_eq_getElem hn1⟩
    have hdg : (digS sw)[n]? = some dg := by rw [<- er, List.getElem?_map, hrn]; rfl
    refine .inr (.inr (ab7 R3 fun o Hf ef hf => ?_))
    have Of : Off d H2 Hf := O3.but hf
    have at2 : ∀ {b u}, H b = some u -> Hf b = some u := fun e => Of _ _ (Ae e fd) (S02 _ _ e)
    refine Rr (K := K) hw ef (fun x hx => ?_) nk (by omega) (at2 orr) (by rw [List.getElem?_map, hrn]; rfl) (at2 (hr _ (List.mem_of_getElem? hrn))) hdg fun D H4 ys S4 hD eD hy => ?_
    ·obtain ⟨_, p', y2, g1, g2, g3, g4⟩ := he x hx
     exact ⟨p', y2, g1, g2, g3, Of _ _ (fun z => by rw [z, e2d] at g4; cases g4) g4⟩
    ·have O4 := Of.up S4
     have R4 : Rd H4 d (.dK (es.map (kD sw))) := .inr ⟨o, S4 _ _ ef⟩
     have al : (es.all fun x => hitB sw n x.1) = (es.map (·.1)).all (hitB sw n) := by rw [List.all_map]; rfl
     rw [al, <- Xe] at hy
     refine .inl ⟨_, .inl (SqL.of eD), ?_⟩
     have sl : ∀ {c c' : Int}, c = c' -> [some (V.ref l), some (V.ref r), some (V.str z), some (V.ref lw), some (V.ref d), v5, v6, v7, v8, v9, some (V.int c), some (V.int (n : Int))] = [some (V.ref l), some (V.ref r), some (V.str z), some (V.ref lw), some (V.ref d), v5, v6, v7, v8, v9, some (V.int c'), some (V.int (n : Int))] := fun e => by rw [e]
     have f1 : fN sw (es.map (·.1)) (n + 1) = if (es.map (·.1)).all (hitB sw n) = true then fN sw (es.map (·.1)) n ||| 2 ^ n else fN sw (es.map (·.1)) n := rfl
     cases hh : (es.map (·.1)).all (hitB sw n) with
     | true =>
      rw [hh, if_pos rfl] at f1
      exact Fb (hy.trans hh) ⟨⟨by omega, by omega, by decide⟩, ⟨_, _, _, _, _, _, sl (by rw [f1, Int.one_mul, Int.toNat_natCast, Iy, Ef])⟩, O4, R4⟩
     | false =>
      rw [hh, if_neg Bool.false_ne_true] at f1
      exact Cc (hy.trans hh) ⟨⟨_, _, _, _, _, _, sl (by rw [f1])⟩, O4, R4⟩
   ·rintro σ H3 ⟨⟨v5, v6, v7, v8, v9, v11, rfl⟩, O3, R3⟩
    rw [Be]
    exact .inl (k H3 fun b u e => O3 b u (Ae e fd) (S02 _ _ e))
theorem DigAt.up {H H' : Hp} {r : Addr} {rows : List (List Nat)} (S : Same H H') (h : DigAt H r rows) : DigAt H' r rows := by
 obtain ⟨ds, e, o, hd⟩ := h
 exact ⟨ds, e, S _ _ o, fun x hx => S _ _ (hd x hx)⟩
theorem Pf {α : Type} {l : List α} {m : Nat} {x : α} {f : α -> Int} (h : l[m]? = some x) : Bs ((l.take (m + 1)).map f) = Builtin.bitOr (Bs ((l.take m).map f)) (f x) := by
 unfold Bs
 rw [A7 h, List.foldl_append]
 rfl
theorem U0 (sw : Sw) (z : Str) : 0 <= Ce sw z := by
 unfold Ce
 rw [E4]
 omega
theorem Sz {α : Type} {l : List α} {f : α -> Nat} : 0 <= Bs (l.map fun x => (f x : Int)) := by
 have e : l.map (fun x => (f x : Int)) = (l.map f).map fun m : Nat => (m : Int) := by rw [List.map_map]; rfl
 rw [e, E0]
 omega
theorem R8 {sw : Sw} {z : Str} {m : Int} (h : Cf sw z = some m) : 0 <= m := by
 unfold Cf at h
 split at h
 ·cases h
  rw [G7]
  omega
 ·split at h
  ·cases h; decide
  ·split at h
   ·cases h
    have e : (Txt.split z "|").map (Ce sw) = (Txt.split z "|").map fun q => ((boxN sw ((C6 q).getD []) : Nat) : Int) := List.map_congr_left fun q _ => by unfold Ce; rw [E4]
    rw [e]
    exact Sz
   ·cases h
theorem ao2 {f : Addr} {fd : FuncData} (Z : Ar K t) (F : FunD K "_law_reads" "_law_reads" s_zw f fd .none) (T : Tab P w K mg base 1 (gb_1 K t) bl) : FnOk P w K mg base CX0 2 f fd P_zw (Ql K t) := by
 refine F.okW0 av7 az8 T (as9 K t) (fun vs H Q E h => ?_) (fun vs H Q E h => ?_)
 ·obtain ⟨l, r, z, sw, rfl, _⟩ := h; rfl
 ·obtain ⟨l, r, z, sw, rfl, hsw, hw, hD, hf, k⟩ := h
  by_cases n1 : z = "*"
  ·have k : ∀ H', Same H H' -> Q (.int (allM sw)) H' := by rw [n1, Kl] at k; exact k
   obtain ⟨rs, er, orr, hr⟩ := id hD
   have lenr : (rs.map fun x => V.ref x.2).length = (Ah sw).length := by rw [Ig, List.length_map, <- er]; simp
   have few := hw.len
   refine Fb (decide_eq_true n1) ?_
   refine .inl ⟨_, .inl (SqL.of orr), ?_⟩
   rw [lenr]
   refine ⟨⟨by omega, by omega, by decide⟩, ?_⟩
   have ev : (1 : Int) * 2 ^ (((Ah sw).length : Nat) : Int).toNat - 1 = allM sw := by rw [Int.one_mul, Int.toNat_natCast]; rfl
   have k := k H (Same.refl _)
   rw [<- ev] at k
   exact k
  by_cases n2 : z = "-"
  ·have k : ∀ H', Same H H' -> Q (.int 0) H' := by rw [n2, Ib] at k; exact k
   refine Cc (decide_eq_false n1) ?_
   refine Fb (decide_eq_true n2) ?_
   exact k H (Same.refl _)
  refine Cc (decide_eq_false n1) ?_
  refine Cc (decide_eq_false n2) ?_
  have k1 : Dm sw z -> ∀ H', Same H H' -> Q (.int (Bs ((Txt.split z "|").map (Ce sw)))) H' := fun q => by
   rw [Ic n1 n2 q] at k
   exact k
  have k2 : ¬ Dm sw z -> ∀ H', Same H H' -> Q (.int (-1)) H' := fun q => by
   rw [M8 n1 n2 q] at k
   exact k
  have hfew := Jv hf
  unfold Dm at k1 k2
  refine ⟨rfl, z, "|", rfl, rfl, by decide +kernel, Nat.le_trans hf.1 (by decide), fun S hS => ?_⟩
  generalize Txt.split z "|" = ps at k1 k2 hfew hS ⊢
  have S0 := Same.upd (o := .lst (ps.map V.str)) hS
  have eS : upd H S (.lst (ps.map V.str)) S = some (.lst (ps.map V.str)) := Ac
  refine .inl ⟨⟨_, SqL.of eS⟩, ?_⟩
  show ForW (Itl K S) _ _ _ [some (.ref l), some (.ref r), some (.str z), some (.int 0), none, none] (upd H S (.lst (ps.map V.str)))
  generalize upd H S (.lst (ps.map V.str)) = H0 at S0 eS ⊢
  refine Bh (A0 (ps.map V.str)) (fun m σ H' => (∃ v4 v5, σ = [some (.ref l), some (.ref r), some (.str z), some (.int (Bs ((ps.take m).map (Ce sw)))), v4, v5]) /\ Same H0 H' /\ ∀ q ∈ ps.take m, Cj sw q) ⟨⟨_, _, rfl⟩, Same.refl _, fun q hq => by cases hq⟩ (fun m σ H' _ q => q.2.1.seqL (SqL.of eS)) ?_ ?_
  ·rintro m x σ H1 hx ⟨⟨v4, v5, rfl⟩, S1, pre⟩
   obtain ⟨q, hi, rfl⟩ := Ak hx
   have S01 := S0.trans S1
   refine ⟨l, r, q, sw, rfl, hsw.mono (Kp.same S01), hw, hD.up S01, hfew q (List.mem_of_getElem? hi), ?_⟩
   by_cases ok : Cj sw q
   ·refine .inl ⟨ok, fun H2 S2 => ?_⟩
    have pp := U0 sw q
    refine Cc (decide_eq_false (show ¬ Ce sw q < 0 by omega)) ?_
    refine ⟨⟨some (.str q), some (.int (Ce sw q)), ?_⟩, S1.trans S2, F8 hi pre ok⟩
    rw [Pf hi]; rfl
   ·refine .inr ⟨ok, fun H2 S2 => ?_⟩
    exact k2 (fun y => ok (y q (List.mem_of_getElem? hi))) H2 (S01.trans S2)
  ·rintro σ H1 ⟨⟨v4, v5, rfl⟩, S1, pre⟩
   rw [List.length_map, List.take_length] at pre ⊢
   exact .inl (k1 pre H1 (S0.trans S1))
theorem ab0 {f : Addr} {fd : FuncData} (Z : Ar K t) (F : FunD K "_law_told" "_law_told" Ij f fd .none) (T : Tab P w K mg base 6 (gb_6 K t) bl) : FnOk P w K mg base CX0 7 f fd Ly (Ls K t) := by
 refine F.okW0 ai4 aj8 T (ah4 K t) (fun vs H Q E h => ?_) (fun vs H Q E h => ?_)
 ·obtain ⟨p, v, sw, rules, rfl, _⟩ := h; rfl
 ·obtain ⟨p, v, sw, rules, rfl, hP, hw, hz⟩ := h
  have bad : ∀ (k : ∀ H' q, Same H H' -> H' q = some (.tup [.str "refused", .non]) -> Q (.ref q) H') (H' : Hp) (e : Addr) (D : Outs), D.rt = Q -> Same H H' -> H' e = some (flO e t.c_zaq none) ->
    Hd K t.c_zaq e [(t.c_zaq, some 4, (dSeq (dSet 3 (dC (.str "other")))
  (dSeq (dIf (dAnd (dTru K (dFn (fun vs H Q _ => (rIsi K) vs H Q) (Aa (dVar 4) (Aa (dC (.ref t.c_zan)) dNil)))) (dAnd (dTru K (dFn (fun vs H Q _ => (rIsi K) vs H Q) (Aa (dVar 4) (Aa (dC (.ty "ValueError")) dNil)))) (dNot (dTru K (dFn (fun vs H Q _ => (rIsi K) vs H Q) (Aa (dVar 4) (Aa (dC (.ref t.c_zar)) dNil))))))) (dSeq (dSet 3 (dC (.str "refused")))
   Ad) Ad)
  Ad)))] { D with nx := dSeq (dRet (dTup (Aa (dVar 3) (Aa (dVar 2) dNil)))) Ad D } [some (.ref p), some v, some .non, some (.str "nothing"), none] H' := by
   intro k H' e D hD S fl
   have ex : TyX K H' (.ref e) (.ref t.c_zaq) := .exc rfl (.inl ⟨rfl, .inr fl⟩) Z.ec rfl
   refine ⟨true, Z.mc, ?_⟩
   refine .inl ⟨_, true, ex, Z.k1, ?_⟩
   refine ⟨_, true, ex, Z.k2, ?_⟩
   refine .inl ⟨_, false, ex, Z.k3, ?_⟩
   refine ⟨(show 2 <= sizeLine by decide), fun q hq => ?_⟩
   show D.rt _ _
   rw [hD]
   exact k _ q (S.trans (Same.upd hq)) Ac
  rcases hz with ⟨hn, k⟩ | ⟨z, rfl, hf, k⟩
  ·exact ⟨p, v, sw, rules, rfl, hP, hw, .inl ⟨hn, fun H' e S fl => ⟨e, rfl, t.c_zaq, none, fl, Z.ec, bad k H' e _ rfl S fl⟩⟩⟩
  ·refine ⟨p, _, sw, rules, rfl, hP, hw, .inr ⟨z, rfl, hf, ?_⟩⟩
   cases hr : Cf sw z with
   | some m =>
    rw [hr] at k
    exact .inl ⟨m, rfl, fun H' S => ⟨(show 2 <= sizeLine by decide), fun q hq => k _ q (S.trans (Same.upd hq)) Ac⟩⟩
   | none =>
    rw [hr] at k
    exact .inr ⟨rfl, fun H' e S fl => ⟨e, rfl, t.c_zaq, none, fl, Z.ec, bad k H' e _ rfl S fl⟩⟩
theorem kits {L B D : Addr} (nd : [L, B, D].Nodup) (xL : XC K L valTail) (xB : XC K B (.ref L :: valTail)) (xD : XC K D (.ref L :: valTail)) (tl : Aw (.ref L :: valTail) = true) : PySem.W.kitOne K (.ref B) (.ref L) = some true /\ PySem.W.kitOne K (.ref B) (.type "ValueError") = some true /\ PySem.W.kitOne K (.ref B) (.ref D) = some false := by
 have h : ∀ a : Addr, D ≠ a -> (Value.ref D == Value.ref a) = false := fun a n => by
  rw [Bool.eq_false_iff]
  intro z
  exact n (Value.ref.inj (eq_of_beq z))
 refine ⟨xB.kit xL ?_, xB.kitV tl, xB.kit xD ?_⟩
 ·rw [List.contains_cons, List.contains_cons]; simp
 ·simp at nd
  rw [List.contains_cons, List.contains_cons, h B (fun z => nd.2 z.symm), h L (fun z => nd.1.2 z.symm)]
  rfl
theorem Yr : ∀ n, n < 35 -> Builtin.Range.small 4 ((n : Nat) : Int) 2 = true := by decide +kernel
theorem Dc {c : Nat} {z : Str} (h : c ∉ z.cps.toList) : Txt.split z ⟨#[c]⟩ = [z] := by
 have e : Txt.join ⟨#[c]⟩ [z] = z := by rw [Eb]; exact En (Cd c [z])
 have := Iu (c := c) (ps := [z]) (by simp) (fun p hp => by have : p = z := (by simpa using hp); rw [this]; exact h)
 rwa [e] at this
theorem Fe {z : Str} {c : Nat} (h : okW z) (hc : Ax c = false) : c ∉ z.cps.toList := fun q => by
 have := List.all_eq_true.mp h.2.2 c q
 rw [hc] at this
 cases this
theorem aa8 {sw : Sw} {x : Str × List Str} {s : Str} (hw : okSw sw) (hx : x ∈ sw) (hs : s ∈ x.2) : (∃ m, Cf sw (x.1 ++ "=" ++ s) = some m) /\ fewT (x.1 ++ "=" ++ s) := by
 obtain ⟨o1, o2⟩ := hw.2.2.2.1 x hx
 have os := o2.1.1 s hs
 have l1 : ("=" : Str).length = 1 := by decide +kernel
 have ln : (x.1 ++ "=" ++ s).length = x.1.length + 1 + s.length := by rw [Ap, Ap, l1]
 have a1 := o1.1
 have a2 := os.1
 have a3 := o1.2.1
 have a4 := os.2.1
 have nb : ∀ c, Ax c = false -> c ≠ 61 -> c ∉ (x.1 ++ "=" ++ s).cps.toList := fun c hc h61 q => by
  rw [s_eq, Str.cps_append, Str.cps_append, Array.toList_append, Array.toList_append] at q
  rcases List.mem_append.mp q with q | q
  ·rcases List.mem_append.mp q with q | q
   ·exact Fe o1 hc q
   ·exact h61 (by simpa using q)
  ·exact Fe os hc q
 have e1 : Txt.split (x.1 ++ "=" ++ s) "|" = [x.1 ++ "=" ++ s] := by rw [Ko]; exact Dc (nb 124 (by decide) (by decide))
 have e2 : Txt.split (x.1 ++ "=" ++ s) "&" = [x.1 ++ "=" ++ s] := by rw [Kn]; exact Dc (nb 38 (by decide) (by decide))
 have e3 : Txt.split (x.1 ++ "=" ++ s) "=" = [x.1, s] := by
  have as : x.1 ++ "=" ++ s = x.1 ++ (⟨#[61]⟩ ++ s) := by rw [s_eq]; exact En (by simp [Str.cps_append])
  rw [as, s_eq, Kr, Dc (Fe o1 (by decide)), Dc (Fe os (by decide))]
  rfl
 have e4 : Txt.split s "," = [s] := by rw [M9]; exact Dc (Fe os (by decide))
 have n1 : x.1 ++ "=" ++ s ≠ "*" := fun q => by
  have := congrArg Str.length q
  rw [ln, show ("*" : Str).length = 1 from by decide +kernel] at this
  omega
 have n2 : x.1 ++ "=" ++ s ≠ "-" := fun q => by
  have := congrArg Str.length q
  rw [ln, show ("-" : Str).length = 1 from by decide +kernel] at this
  omega
 have hp : C6 (x.1 ++ "=" ++ s) = some [(x.1, [s])] := by
  show Ao (Txt.split (x.1 ++ "=" ++ s) "&") [] = _
  rw [e2, Fw e3, e4]
  rfl
 refine ⟨⟨_, Ic n1 n2 fun q hq => ?_⟩, Dh (by rw [ln]; omega) ?_⟩
 ·rw [e1] at hq
  have : q = x.1 ++ "=" ++ s := by simpa using hq
  subst this
  refine ⟨_, hp, fun e he => ?_⟩
  have : e = (x.1, [s]) := by simpa using he
  subst this
  refine ⟨by simp, ⟨fun y hy => ?_, by simp, by simp⟩, x, hx, rfl, fun y hy => ?_⟩
  ·have : y = s := by simpa using hy
   rw [this]; exact os
  ·have : y = s := by simpa using hy
   rw [this]; exact hs
 ·rw [Bd, Bd, C7 o1, C7 os, show coms "=" = 0 from by decide +kernel]
  decide
theorem ab6 {f : Addr} {fd : FuncData} (Z : Ar K t) (F : FunD K "law" "law" C9 f fd .none) (T : Tab P w K mg base 10 (Ua K t) bl) : FnOk P w K mg base CX0 11 f fd Mb (Lv K t) := by
 refine F.okW0 aj0 ak4 T (ai0 K t) (fun vs H Q E h => ?_) (fun vs H Q E h => ?_)
 ·obtain ⟨a, ns, rfl, _⟩ := h; rfl
 ·obtain ⟨a, ns, rfl, hS, hn, k⟩ := h
  refine ⟨a, ns, rfl, hS, fun H1 l sw S1 W1 hw => ⟨l, sw, rfl, W1, hw, fun H2 r S2 D2 => ?_⟩⟩
  have S02 := S1.trans S2
  refine ⟨a, l, ns, sw, rfl, S02.seqL hS, W1.mono (Kp.same S2), hw, fun H3 p rules S3 P3 => ?_⟩
  have S03 := S02.trans S3
  refine ⟨a, ns, 3, rfl, S03.seqL hS, l, _, sw, rfl, W1.mono (Kp.same (S2.trans S3)), hw, fun H4 z S4 lz cz => ?_⟩
  have S04 := S03.trans S4
  have W4 := W1.mono (Kp.same (S2.trans (S3.trans S4)))
  have D4 := D2.up (S3.trans S4)
  have P4 := P3.mono (Kp.same S4)
  have q4 := S04.seqL hS
  refine .inl ⟨_, .inl q4, ?_⟩
  rw [List.length_map]
  have fit : Builtin.Range.small 4 (if (if (34 : Int) < (ns.length : Int) - 1 then (34 : Int) else (ns.length : Int) - 1) > 6 then (if (34 : Int) < (ns.length : Int) - 1 then (34 : Int) else (ns.length : Int) - 1) else 6) 2 = true := by
   generalize hN : (if (if (34 : Int) < (ns.length : Int) - 1 then (34 : Int) else (ns.length : Int) - 1) > 6 then (if (34 : Int) < (ns.length : Int) - 1 then (34 : Int) else (ns.length : Int) - 1) else 6) = N
   have hN2 : 6 <= N /\ N <= 34 := by
    rw [<- hN]
    split <;> (try split) <;> omega
   have := Yr N.toNat (by omega)
   rwa [show ((N.toNat : Nat) : Int) = N by omega] at this
  refine ⟨⟨fit, by decide, by decide⟩, ?_⟩
  refine Bh (Y2 4 2 _) (fun i σ H' => (∃ v5 v6 v7 v8 v9, σ = [some (.ref a), some (.ref l), some (.ref r), some (.ref p), some (.str z), v5, v6, v7, v8, v9, none]) /\ Same H4 H') ⟨⟨_, _, _, _, _, rfl⟩, Same.refl _⟩ (fun _ _ _ _ _ => True.intro) ?_ ?_
  ·rintro i x σ H5 hx ⟨⟨v5, v6, v7, v8, v9, rfl⟩, S5⟩
   obtain ⟨j, _, rfl⟩ := Ak hx
   have q5 := S5.seqL q4
   have cj : (4 : Int) + ((j : Nat) : Int) * 2 = ((4 + j * 2 : Nat) : Int) := by omega
   have cj1 : (4 : Int) + ((j : Nat) : Int) * 2 + 1 = ((4 + j * 2 + 1 : Nat) : Int) := by omega
   refine ⟨a, ns, 4 + j * 2, by rw [cj]; rfl, q5, a, ns, 4 + j * 2 + 1, by rw [cj1]; rfl, q5, ?_⟩
   refine ⟨l, z, _, _, sw, rfl, W4.mono (Kp.same S5), hw, lz, cz, fun H6 y S6 hy => ?_⟩
   have S46 := S5.trans S6
   refine ⟨l, r, y, sw, rfl, W4.mono (Kp.same S46), hw, D4.up S46, hy, fun H7 S7 => ?_⟩
   have S47 := S46.trans S7
   refine ⟨p, _, sw, rules, rfl, P4.mono (Kp.same S47), hw, .inr ⟨y, rfl, hy, fun H8 q S8 e8 => ?_⟩⟩
   have S48 := S47.trans S8
   cases hr : Cf sw y with
   | some m =>
    have pm := R8 hr
    rw [hr] at e8
    refine ⟨_, SqT.of e8, rfl, ?_⟩
    refine Cc (decide_eq_false (show ¬ m < 0 by omega)) ?_
    refine iteF ?_
    refine Fb (decide_eq_true (show (0 : Int) <= m from pm)) ?_
    refine ⟨rfl, ?_⟩
    refine Cc (by simp) ?_
    exact ⟨⟨_, _, _, _, _, rfl⟩, S48⟩
   | none =>
    rw [hr] at e8
    refine ⟨_, SqT.of e8, rfl, ?_⟩
    exact ⟨⟨_, _, _, _, _, rfl⟩, S48⟩
  ·rintro σ H5 ⟨⟨v5, v6, v7, v8, v9, rfl⟩, S5⟩
   refine .inl ?_
   have S05 := S04.trans S5
   refine ⟨(show 1 <= sizeLine by decide), fun l1 h1 => ⟨(show 1 <= sizeLine by decide), fun t1 ht1 => fun d1 hd1 => .inl ⟨(show 1 <= sizeLine by decide), fun l2 hl2 => ⟨(show 7 <= sizeLine by decide), fun L hL => ?_⟩⟩⟩⟩
   have X1 := Same.upd (o := .lst [.str z]) h1
   have X2 := Same.upd (o := .tup [.str z]) ht1
   have X3 := Same.upd (o := .dK []) hd1
   have X4 := Same.upd (o := .lst [.str "*"]) hl2
   have X5 := Same.upd (o := .lst [.non, .int 0, .bl true, .ref l1, .ref t1, .ref d1, .ref l2]) hL
   have y5 : upd (upd (upd (upd (upd H5 l1 (.lst [.str z])) t1 (.tup [.str z])) d1 (.dK [])) l2 (.lst [.str "*"])) L (.lst [.non, .int 0, .bl true, .ref l1, .ref t1, .ref d1, .ref l2]) L = some (.lst [.non, .int 0, .bl true, .ref l1, .ref t1, .ref d1, .ref l2]) := Ac
   have y1 := (X2.trans (X3.trans (X4.trans X5))) _ _ (Ac (H := H5) (a := l1) (o := .lst [.str z]))
   have y2 := (X3.trans (X4.trans X5)) _ _ (Ac (H := upd H5 l1 (.lst [.str z])) (a := t1) (o := .tup [.str z]))
   have y3 := (X4.trans X5) _ _ (Ac (H := upd (upd H5 l1 (.lst [.str z])) t1 (.tup [.str z])) (a := d1) (o := .dK []))
   have y4 := X5 _ _ (Ac (H := upd (upd (upd H5 l1 (.lst [.str z])) t1 (.tup [.str z])) d1 (.dK [])) (a := l2) (o := .lst [.str "*"]))
   have S6 := X1.trans (X2.trans (X3.trans (X4.trans X5)))
   generalize upd (upd (upd (upd (upd H5 l1 (.lst [.str z])) t1 (.tup [.str z])) d1 (.dK [])) l2 (.lst [.str "*"])) L (.lst [.non, .int 0, .bl true, .ref l1, .ref t1, .ref d1, .ref l2]) = H6 at y1 y2 y3 y4 y5 S6 ⊢
   have S46 := S5.trans S6
   obtain ⟨v, ev, hv⟩ := Kx (l := [V.non, .int 0, .bl true, .ref l1, .ref t1, .ref d1, .ref l2]) (i := Am ns 2 / 3 % 7) (Int.emod_nonneg _ (by decide)) (Int.emod_lt_of_pos _ (by decide))
   have nt : Oj K H6 v := by
    simp only [List.mem_cons, List.not_mem_nil, or_false] at hv
    rcases hv with rfl | rfl | rfl | rfl | rfl | rfl | rfl
    ·exact .inl rfl
    ·exact .inr (.inl ⟨_, rfl⟩)
    ·exact .inr (.inr (.inl ⟨_, rfl⟩))
    ·exact .inr (.inr (.inr ⟨_, rfl, .inl ⟨_, y1⟩⟩))
    ·exact .inr (.inr (.inr ⟨_, rfl, .inr (.inl ⟨_, y2⟩)⟩))
    ·exact .inr (.inr (.inr ⟨_, rfl, .inr (.inr ⟨_, y3⟩)⟩))
    ·exact .inr (.inr (.inr ⟨_, rfl, .inl ⟨_, y4⟩⟩))
   refine ⟨a, ns, 2, rfl, S46.seqL q4, ⟨by decide, by decide⟩, by decide, _, v, .inl (SqL.of y5), ev, ?_⟩
   refine ⟨p, v, sw, rules, rfl, P4.mono (Kp.same S46), hw, .inl ⟨nt, fun H7 q S7 e7 => ?_⟩⟩
   refine ⟨_, .str "refused", .inr (SqT.of e7), rfl, ?_⟩
   have S47 := S46.trans S7
   obtain ⟨ds, ed, ⟨_, ol⟩, hd⟩ := id W4
   cases sw with
   | nil => have := hw.1; simp at this
   | cons x sw =>
    cases ds with
    | nil => simp at ed
    | cons d0 ds =>
     obtain ⟨⟨x', la⟩, ta⟩ := d0
     have : x' = x := (List.cons.inj ed).1
     subst this
     obtain ⟨⟨_, h1⟩, _, h2⟩ := hd _ List.mem_cons_self
     have hx := hw.sets x' List.mem_cons_self
     have h2l := hx.2.1
     obtain ⟨s, hs⟩ : ∃ s, x'.2[1]? = some s := ⟨_, List.getElem?_eq_getElem (show 1 < x'.2.length by omega)⟩
     have hsm := List.mem_of_getElem? hs
     obtain ⟨⟨m, hm⟩, few⟩ := aa8 hw List.mem_cons_self hsm
     have os := hx.1.1 s hsm
     have ow := (hw.2.2.2.1 x' List.mem_cons_self).1
     have b1 := os.2.1
     have b2 := ow.2.1
     have l1 : ("=" : Str).length = 1 := by decide +kernel
     have big : (3000 : Nat) <= sizeLine := by decide
     have c1 : x'.1.length + ("=" : Str).length <= sizeLine := by omega
     have c2 : (x'.1 ++ "=").length + s.length <= sizeLine := by rw [Ap]; omega
     have ask : ∀ {H' : Hp}, Same H4 H' -> SqL K H' l (((((x', la), ta) :: ds)).map fun x => V.ref x.2) /\ SqT K H' ta [.str x'.1, .ref la] /\ SqL K H' la (x'.2.map V.str) := fun S => ⟨SqL.of (S _ _ ol), SqT.of (S _ _ h1), SqL.of (S _ _ h2)⟩
     have at1 : atI (x'.2.map V.str) 1 = some (.str s) := Aq (j := 1) (by rw [List.getElem?_map, hs]; rfl)
     obtain ⟨g1, g2, g3⟩ := ask S47
     refine ⟨_, .ref ta, .inl g1, Aq (j := 0) rfl, _, .str x'.1, .inr g2, rfl, c1, _, .ref ta, .inl g1, Aq (j := 0) rfl, _, .ref la, .inr g2, rfl, _, .str s, .inl g3, at1, c2, ?_⟩
     refine ⟨p, _, _, rules, rfl, P4.mono (Kp.same S47), hw, .inr ⟨_, rfl, few, .inl ⟨m, hm, fun H8 S8 => ?_⟩⟩⟩
     have S48 := S47.trans S8
     obtain ⟨g1, g2, g3⟩ := ask S48
     refine ⟨_, .ref ta, .inl g1, Aq (j := 0) rfl, _, .str x'.1, .inr g2, rfl, c1, _, .ref ta, .inl g1, Aq (j := 0) rfl, _, .ref la, .inr g2, rfl, _, .str s, .inl g3, at1, c2, ?_⟩
     refine ⟨l, r, _, _, rfl, W4.mono (Kp.same S48), hw, D4.up S48, few, fun H9 S9 => ?_⟩
     rw [hm]
     have := k H9
     show Q (.bl (decide (m = m))) H9
     rw [decide_eq_true rfl]
     exact this
end
end K12
namespace K12
open PySem L2
structure Y3 (K : PySem.W.Frag) (mg : Str -> Option Value) (t : Adr) : Prop where
 g_zae : DOk K mg "union_of" Im t.f_zae t.d_zae L8
 g_zad : DOk K mg "read_box" Il t.f_zad t.d_zad L6
 g_zm : MOk K "many" "Panel.many" s_zm t.f_zm t.d_zm P_zm
 g_zc : MOk K "all_choices" "Panel.all_choices" s_zc t.f_zc t.d_zc P_zc
 g_zo : DOk K mg "has_length" s_zo t.f_zo t.d_zo P_zo
 g_zt : DOk K mg "is_letter" s_zt t.f_zt t.d_zt P_zt
 g_zaf : DOk K mg "is_word" Io t.f_zaf t.d_zaf L9
 g_ze : DOk K mg "are_unlike_words" s_ze t.f_ze t.d_ze P_ze
 g_zn : MOk K "term" "Panel.term" s_zn t.f_zn t.d_zn P_zn
 g_zs : MOk K "box" "Panel.box" s_zs t.f_zs t.d_zs P_zs
 g_zx : DOk K mg "read_cond" s_zx t.f_zx t.d_zx P_zx
 g_zy : DOk K mg "_law_cell" s_zy t.f_zy t.d_zy P_zy
 g_zr : DOk K mg "_law_stream" s_zr t.f_zr t.d_zr P_zr
 g_zac : DOk K mg "_law_word" Ik t.f_zac t.d_zac Lz
 g_zj : DOk K mg "_law_switches" s_zj t.f_zj t.d_zj P_zj
 g_zp : DOk K mg "_law_digits" s_zp t.f_zp t.d_zp P_zp
 g_zk : DOk K mg "copied_rule" s_zk t.f_zk t.d_zk P_zk
 g_zg : MOk K "read_rule" "Panel.read_rule" s_zg t.f_zg t.d_zg P_zg
 g_zd : MOk K "read_rules" "Panel.read_rules" s_zd t.f_zd t.d_zd P_zd
 g_zu : DOk K mg "is_switch" s_zu t.f_zu t.d_zu P_zu
 g_zh : DOk K mg "read_switches" s_zh t.f_zh t.d_zh P_zh
 g_zb : DOk K mg "settings_of_choices" s_zb t.f_zb t.d_zb P_zb
 g_za : DOk K mg "numbers_by_settings" s_za t.f_za t.d_za P_za
 g_zag : DOk K mg "set_of" Ip t.f_zag t.d_zag Ma
 g_zf : DOk K mg "sets_of_settings" s_zf t.f_zf t.d_zf P_zf
 F_zl : FunD K "__init__" "Panel.__init__" s_zl t.f_zl t.d_zl t.dv_zl
 b_zl : ∀ j, j <= 1 -> Binds K t.d_zl P_zl (t.du_zl.drop j)
 w_zl : Vals [.non] t.du_zl
 if_zl : PySem.W.isFn K (.ref t.f_zl) = true
 g_zv : DOk K mg "_law_panel" s_zv t.f_zv t.d_zv P_zv
 g_zi : DOk K mg "_law_box_read" s_zi t.f_zi t.d_zi P_zi
 g_zw : DOk K mg "_law_reads" s_zw t.f_zw t.d_zw P_zw
 g_zz : DOk K mg "_law_term" s_zz t.f_zz t.d_zz P_zz
 g_zaa : DOk K mg "_law_text" Ii t.f_zaa t.d_zaa Lx
 g_zq : DOk K mg "_law_spoilt" s_zq t.f_zq t.d_zq P_zq
 g_zab : DOk K mg "_law_told" Ij t.f_zab t.d_zab Ly
 F_zah : FunD K "law" "law" C9 t.f_zah t.d_zah .none
 b_zah : ∀ j, j <= 0 -> Binds K t.d_zah Mb (([] : List Value).drop j)
 w_zah : Vals [] ([] : List Value)
 m_zah : mg "law" = some (.ref t.f_zah)
 at_zan : mg "LeafError" = some (.ref t.c_zan)
 kp_zan : PySem.W.keepIn K (.ref t.c_zan) = true
 ec_zan : ECls K t.c_zan
 in_zan : PySem.W.findIn K (.ref t.c_zan) "__init__" = some (some (.builtin "ValueError.__init__"))
 at_zao : mg "BadPanel" = some (.ref t.c_zao)
 kp_zao : PySem.W.keepIn K (.ref t.c_zao) = true
 ec_zao : ECls K t.c_zao
 in_zao : PySem.W.findIn K (.ref t.c_zao) "__init__" = some (some (.builtin "ValueError.__init__"))
 at_zap : mg "NoChoice" = some (.ref t.c_zap)
 kp_zap : PySem.W.keepIn K (.ref t.c_zap) = true
 ec_zap : ECls K t.c_zap
 in_zap : PySem.W.findIn K (.ref t.c_zap) "__init__" = some (some (.builtin "ValueError.__init__"))
 at_zaq : mg "BadCond" = some (.ref t.c_zaq)
 kp_zaq : PySem.W.keepIn K (.ref t.c_zaq) = true
 ec_zaq : ECls K t.c_zaq
 in_zaq : PySem.W.findIn K (.ref t.c_zaq) "__init__" = some (some (.builtin "ValueError.__init__"))
 at_zar : mg "BadEdit" = some (.ref t.c_zar)
 kp_zar : PySem.W.keepIn K (.ref t.c_zar) = true
 ec_zar : ECls K t.c_zar
 in_zar : PySem.W.findIn K (.ref t.c_zar) "__init__" = some (some (.builtin "ValueError.__init__"))
 at_zas : mg "Panel" = some (.ref t.c_zas)
 kp_zas : PySem.W.keepIn K (.ref t.c_zas) = true
 mk_zas : PySem.W.makesIn K t.c_zas = true
 in_zas : PySem.W.findIn K (.ref t.c_zas) "__init__" = some (some (.ref t.f_zl))
 cl_zas : Cls K t.c_zas
 mt_zc : Meth K t.c_zas "all_choices" t.f_zc
 mt_zs : Meth K t.c_zas "box" t.f_zs
 mt_zm : Meth K t.c_zas "many" t.f_zm
 mt_zg : Meth K t.c_zas "read_rule" t.f_zg
 mt_zd : Meth K t.c_zas "read_rules" t.f_zd
 mt_zn : Meth K t.c_zas "term" t.f_zn
 v_zau : mg "ALL" = some t.u_zau
 r_zau : RelV (.str "*") t.u_zau
 v_zat : mg "NONE" = some t.u_zat
 r_zat : RelV (.str "-") t.u_zat
 v_zak : mg "MOST_SWITCHES" = some t.u_zak
 r_zak : RelV (.int 5) t.u_zak
 v_zai : mg "LEAST_SETTINGS" = some t.u_zai
 r_zai : RelV (.int 2) t.u_zai
 v_zaj : mg "MOST_SETTINGS" = some t.u_zaj
 r_zaj : RelV (.int 4) t.u_zaj
 v_zal : mg "MOST_CHOICES" = some t.u_zal
 r_zal : RelV (.int 256) t.u_zal
 v_zam : mg "MOST_RULES" = some t.u_zam
 r_zam : RelV (.int 8) t.u_zam
 z : ∀ x ∈ bl, mg x = none
 Z : Ar K t
theorem aa7 {P : Program} {w : World} {K : PySem.W.Frag} {mg : Str -> Option Value} {base : Heap} {t : Adr} (A : Y3 K mg t) : FnOk P w K mg base CX0 11 t.f_zah t.d_zah Mb (Lv K t) := by
 have T0 : Tab P w K mg base 0 (gb_0 K t) bl := (((((((((((((Tab.nil A.z).consV A.v_zam A.r_zam).consV A.v_zal A.r_zal).consV A.v_zaj A.r_zaj).consV A.v_zai A.r_zai).consV A.v_zak A.r_zak).consV A.v_zat A.r_zat).consV A.v_zau A.r_zau).consV (v := .ref t.c_zas) A.at_zas rfl).consX (oi := none) ⟨A.at_zar, A.kp_zar, A.ec_zar, A.in_zar⟩).consX (oi := none) ⟨A.at_zaq, A.kp_zaq, A.ec_zaq, A.in_zaq⟩).consX (oi := none) ⟨A.at_zap, A.kp_zap, A.ec_zap, A.in_zap⟩).consX (oi := none) ⟨A.at_zao, A.kp_zao, A.ec_zao, A.in_zao⟩).consX (oi := none) ⟨A.at_zan, A.kp_zan, A.ec_zan, A.in_zan⟩
 have T1 : Tab P w K mg base 1 (gb_1 K t) bl := (((((((((((((((T0.mono (show 0 <= 1 by decide)).con (i_zz K t) A.g_zz (ao5 (t := t) A.Z A.g_zz.F T0)).con (i_zi K t) A.g_zi (am8 (t := t) A.Z A.g_zi.F T0)).con (Zi K t) A.g_zag (ab5 (t := t) A.Z A.g_zag.F T0)).con (i_za K t) A.g_za (am0 (t := t) A.Z A.g_za.F T0)).con (i_zb K t) A.g_zb (am1 (t := t) A.Z A.g_zb.F T0)).con (i_zk K t) A.g_zk (an0 (t := t) A.Z A.g_zk.F T0)).con (i_zp K t) A.g_zp (an5 (t := t) A.Z A.g_zp.F T0)).con (Ze K t) A.g_zac (ab1 (t := t) A.Z A.g_zac.F T0)).con (i_zr K t) A.g_zr (an7 (t := t) A.Z A.g_zr.F T0)).con (i_zy K t) A.g_zy (ao4 (t := t) A.Z A.g_zy.F T0)).con (i_zt K t) A.g_zt (an9 (t := t) A.Z A.g_zt.F T0)).con (i_zo K t) A.g_zo (an4 (t := t) A.Z A.g_zo.F T0)).conE (Zf K t) A.g_zad (ab2 (t := t) A.Z A.g_zad.F T0)).con (Zg K t) A.g_zae (ab3 (t := t) A.Z A.g_zae.F T0)).consM (m := "many") (l := Lb K t) (one ⟨A.cl_zas, A.mt_zm, A.g_zm.fi (i_zm K t) (an2 (t := t) A.Z A.g_zm.F T0)⟩)
 have T2 : Tab P w K mg base 2 (gb_2 K t) bl := (((((((T1.mono (show 1 <= 2 by decide)).con (i_zq K t) A.g_zq (an6 (t := t) A.Z A.g_zq.F T1)).con (Zc K t) A.g_zaa (aa9 (t := t) A.Z A.g_zaa.F T1)).con (i_zw K t) A.g_zw (ao2 (t := t) A.Z A.g_zw.F T1)).con (i_zf K t) A.g_zf (am5 (t := t) A.Z A.g_zf.F T1)).con (i_zj K t) A.g_zj (am9 (t := t) A.Z A.g_zj.F T1)).con (Zh K t) A.g_zaf (ab4 (t := t) A.Z A.g_zaf.F T1)).consM (m := "all_choices") (l := Bp K t) (one ⟨A.cl_zas, A.mt_zc, A.g_zc.fi (i_zc K t) (am2 (t := t) A.Z A.g_zc.F T1)⟩)
 have T3 : Tab P w K mg base 3 (gb_3 K t) bl := (T2.mono (show 2 <= 3 by decide)).con (i_ze K t) A.g_ze (am4 (t := t) A.Z A.g_ze.F T2)
 have T4 : Tab P w K mg base 4 (gb_4 K t) bl := ((T3.mono (show 3 <= 4 by decide)).con (i_zu K t) A.g_zu (ao0 (t := t) A.Z A.g_zu.F T3)).consM (m := "term") (l := Lc K t) (one ⟨A.cl_zas, A.mt_zn, A.g_zn.fiE (i_zn K t) (an3 (t := t) A.Z A.g_zn.F T3)⟩)
 have T5 : Tab P w K mg base 5 (gb_5 K t) bl := ((T4.mono (show 4 <= 5 by decide)).con (i_zh K t) A.g_zh (am7 (t := t) A.Z A.g_zh.F T4)).consM (m := "box") (l := Hs K t) (one ⟨A.cl_zas, A.mt_zs, A.g_zs.fiE (i_zs K t) (an8 (t := t) A.Z A.g_zs.F T4)⟩)
 have T6 : Tab P w K mg base 6 (gb_6 K t) bl := ((T5.mono (show 5 <= 6 by decide)).conE (i_zx K t) A.g_zx (ao3 (t := t) A.Z A.g_zx.F T5)).consM (m := "read_rule") (l := Dk K t) (one ⟨A.cl_zas, A.mt_zg, A.g_zg.fi (i_zg K t) (am6 (t := t) A.Z A.g_zg.F T5)⟩)
 have T7 : Tab P w K mg base 7 (gb_7 K t) bl := ((T6.mono (show 6 <= 7 by decide)).con (Zd K t) A.g_zab (ab0 (t := t) A.Z A.g_zab.F T6)).consM (m := "read_rules") (l := C5 K t) (one ⟨A.cl_zas, A.mt_zd, A.g_zd.fi (i_zd K t) (am3 (t := t) A.Z A.g_zd.F T6)⟩)
 have T8 : Tab P w K mg base 8 (gb_8 K t) bl := T7.mono (show 7 <= 8 by decide)
 have T9 : Tab P w K mg base 9 (gb_9 K t) bl := (T8.mono (show 8 <= 9 by decide)).consC (oi := some (i_zl K t)) ⟨A.at_zas, A.kp_zas, A.mk_zas, A.in_zas, A.if_zl, ⟨A.F_zl.kp, ⟨CX0, fun X' _ _ => Hy X', an1 (t := t) A.Z A.F_zl T7⟩, Nat.le_succ 8, A.b_zl, A.w_zl⟩, Nat.le_refl 9⟩
 have T10 : Tab P w K mg base 10 (Ua K t) bl := (T9.mono (show 9 <= 10 by decide)).con (i_zv K t) A.g_zv (ao1 (t := t) A.Z A.g_zv.F T9)
 exact ab6 (t := t) A.Z A.F_zah T10
theorem all_mk {l : PySem.W.OpenLaw} {w : World} {K : PySem.W.Frag} {h : Heap} {mg : Str -> Option Value} {fa f_zae f_zad f_zm f_zc f_zo f_zt f_zaf f_ze f_zn f_zs f_zx f_zy f_zr f_zac f_zj f_zp f_zk f_zg f_zd f_zu f_zh f_zb f_za f_zag f_zf f_zl f_zv f_zi f_zw f_zz f_zaa f_zq f_zab f_zah c_zan c_zao c_zap c_zaq c_zar c_zas Td_zl : Addr} (X : K.In h) (G : h.Ns mainGlobals mg) (hfa : mg "law" = some (.ref fa))
  {od_zl an_zl od_zah an_zah td_zl : Option Addr} {sl_zl sl_zah ts_zl : Array (Option Value)}
  {oc_zl kV_zl dc_zl pm_zl cd_zl ct_zl oc_zah kV_zah dc_zah pm_zah cd_zah ct_zah tc_zl : Value}
  {tn_zl : Nat}
  {u_zau u_zat u_zak u_zai u_zaj u_zal u_zam : Value}
  (a_zan : PySem.W.nsIn K mainGlobals "LeafError" = some (some (.ref c_zan)))
  (a_zao : PySem.W.nsIn K mainGlobals "BadPanel" = some (some (.ref c_zao)))
  (a_zap : PySem.W.nsIn K mainGlobals "NoChoice" = some (some (.ref c_zap)))
  (a_zaq : PySem.W.nsIn K mainGlobals "BadCond" = some (some (.ref c_zaq)))
  (a_zar : PySem.W.nsIn K mainGlobals "BadEdit" = some (some (.ref c_zar)))
  (in_zan : PySem.W.findIn K (.ref c_zan) "__init__" = some (some (.builtin "ValueError.__init__")))
  (kp_zan : PySem.W.keepIn K (.ref c_zan) = true)
  (in_zao : PySem.W.findIn K (.ref c_zao) "__init__" = some (some (.builtin "ValueError.__init__")))
  (kp_zao : PySem.W.keepIn K (.ref c_zao) = true)
  (in_zap : PySem.W.findIn K (.ref c_zap) "__init__" = some (some (.builtin "ValueError.__init__")))
  (kp_zap : PySem.W.keepIn K (.ref c_zap) = true)
  (in_zaq : PySem.W.findIn K (.ref c_zaq) "__init__" = some (some (.builtin "ValueError.__init__")))
  (kp_zaq : PySem.W.keepIn K (.ref c_zaq) = true)
  (in_zar : PySem.W.findIn K (.ref c_zar) "__init__" = some (some (.builtin "ValueError.__init__")))
  (kp_zar : PySem.W.keepIn K (.ref c_zar) = true)
  (a_zas : PySem.W.nsIn K mainGlobals "Panel" = some (some (.ref c_zas)))
  (in_zas : PySem.W.findIn K (.ref c_zas) "__init__" = some (some (.ref f_zl)))
  (kp_zas : PySem.W.keepIn K (.ref c_zas) = true)
  (mk_zas : PySem.W.makesIn K c_zas = true)
  (pg_zas : PySem.W.plainGet K c_zas Str.empty = true)
  (hd_zas : PySem.W.hasDictIn K c_zas = true)
  (po_zas : PySem.W.plainOver K c_zas = true)
  (sa_zas : PySem.W.findIn K (.ref c_zas) "__setattr__" = some (some (.builtin "object.__setattr__")))
  (mt_zc : PySem.W.findIn K (.ref c_zas) "all_choices" = some (some (.ref f_zc)))
  (mt_zs : PySem.W.findIn K (.ref c_zas) "box" = some (some (.ref f_zs)))
  (mt_zm : PySem.W.findIn K (.ref c_zas) "many" = some (some (.ref f_zm)))
  (mt_zg : PySem.W.findIn K (.ref c_zas) "read_rule" = some (some (.ref f_zg)))
  (mt_zd : PySem.W.findIn K (.ref c_zas) "read_rules" = some (some (.ref f_zd)))
  (mt_zn : PySem.W.findIn K (.ref c_zas) "term" = some (some (.ref f_zn)))
  (q_zae : TopD K "union_of" Im f_zae)
  (q_zad : TopD K "read_box" Il f_zad)
  (q_zm : MetD K "many" "Panel.many" s_zm f_zm)
  (q_zc : MetD K "all_choices" "Panel.all_choices" s_zc f_zc)
  (q_zo : TopD K "has_length" s_zo f_zo)
  (q_zt : TopD K "is_letter" s_zt f_zt)
  (q_zaf : TopD K "is_word" Io f_zaf)
  (q_ze : TopD K "are_unlike_words" s_ze f_ze)
  (q_zn : MetD K "term" "Panel.term" s_zn f_zn)
  (q_zs : MetD K "box" "Panel.box" s_zs f_zs)
  (q_zx : TopD K "read_cond" s_zx f_zx)
  (q_zy : TopD K "_law_cell" s_zy f_zy)
  (q_zr : TopD K "_law_stream" s_zr f_zr)
  (q_zac : TopD K "_law_word" Ik f_zac)
  (q_zj : TopD K "_law_switches" s_zj f_zj)
  (q_zp : TopD K "_law_digits" s_zp f_zp)
  (q_zk : TopD K "copied_rule" s_zk f_zk)
  (q_zg : MetD K "read_rule" "Panel.read_rule" s_zg f_zg)
  (q_zd : MetD K "read_rules" "Panel.read_rules" s_zd f_zd)
  (q_zu : TopD K "is_switch" s_zu f_zu)
  (q_zh : TopD K "read_switches" s_zh f_zh)
  (q_zb : TopD K "settings_of_choices" s_zb f_zb)
  (q_za : TopD K "numbers_by_settings" s_za f_za)
  (q_zag : TopD K "set_of" Ip f_zag)
  (q_zf : TopD K "sets_of_settings" s_zf f_zf)
  (l_zl : K.lookup f_zl = some ⟨oc_zl, od_zl, .func (PySem.W.fnOf "__init__" "Panel.__init__" (Bf s_zl) (Ag s_zl) (Ab s_zl) (.ref Td_zl) kV_zl dc_zl pm_zl an_zl cd_zl ct_zl), sl_zl⟩)
  (c_zl : PySem.W.codeIn K cd_zl "Panel.__init__" = true)
  (k_zl : PySem.W.keepIn K (.ref f_zl) = true)
  (if_zl : PySem.W.isFn K (.ref f_zl) = true)
  (ld_zl : K.lookup Td_zl = some ⟨tc_zl, td_zl, .seq #[.none] tn_zl, ts_zl⟩)
  (q_zv : TopD K "_law_panel" s_zv f_zv)
  (q_zi : TopD K "_law_box_read" s_zi f_zi)
  (q_zw : TopD K "_law_reads" s_zw f_zw)
  (q_zz : TopD K "_law_term" s_zz f_zz)
  (q_zaa : TopD K "_law_text" Ii f_zaa)
  (q_zq : TopD K "_law_spoilt" s_zq f_zq)
  (q_zab : TopD K "_law_told" Ij f_zab)
  (a_zah : PySem.W.nsIn K mainGlobals "law" = some (some (.ref f_zah)))
  (l_zah : K.lookup f_zah = some ⟨oc_zah, od_zah, .func (PySem.W.fnOf "law" "law" (Bf C9) (Ag C9) (Ab C9) .none kV_zah dc_zah pm_zah an_zah cd_zah ct_zah), sl_zah⟩)
  (c_zah : PySem.W.codeIn K cd_zah "law" = true)
  (k_zah : PySem.W.keepIn K (.ref f_zah) = true)
  (x_zan : XC K c_zan (valTail))
  (x_zao : XC K c_zao (.ref c_zan :: valTail))
  (x_zap : XC K c_zap (.ref c_zan :: valTail))
  (x_zaq : XC K c_zaq (.ref c_zan :: valTail))
  (x_zar : XC K c_zar (.ref c_zan :: valTail))
  (v_zau : PySem.W.nsIn K mainGlobals "ALL" = some (some u_zau))
  (r_zau : RelV (.str "*") u_zau)
  (v_zat : PySem.W.nsIn K mainGlobals "NONE" = some (some u_zat))
  (r_zat : RelV (.str "-") u_zat)
  (v_zak : PySem.W.nsIn K mainGlobals "MOST_SWITCHES" = some (some u_zak))
  (r_zak : RelV (.int 5) u_zak)
  (v_zai : PySem.W.nsIn K mainGlobals "LEAST_SETTINGS" = some (some u_zai))
  (r_zai : RelV (.int 2) u_zai)
  (v_zaj : PySem.W.nsIn K mainGlobals "MOST_SETTINGS" = some (some u_zaj))
  (r_zaj : RelV (.int 4) u_zaj)
  (v_zal : PySem.W.nsIn K mainGlobals "MOST_CHOICES" = some (some u_zal))
  (r_zal : RelV (.int 256) u_zal)
  (v_zam : PySem.W.nsIn K mainGlobals "MOST_RULES" = some (some u_zam))
  (r_zam : RelV (.int 8) u_zam)
  (z_ValueError : PySem.W.nsIn K mainGlobals "ValueError" = some none)
  (z_all : PySem.W.nsIn K mainGlobals "all" = some none)
  (z_bool : PySem.W.nsIn K mainGlobals "bool" = some none)
  (z_dict : PySem.W.nsIn K mainGlobals "dict" = some none)
  (z_enumerate : PySem.W.nsIn K mainGlobals "enumerate" = some none)
  (z_int : PySem.W.nsIn K mainGlobals "int" = some none)
  (z_isinstance : PySem.W.nsIn K mainGlobals "isinstance" = some none)
  (z_len : PySem.W.nsIn K mainGlobals "len" = some none)
  (z_list : PySem.W.nsIn K mainGlobals "list" = some none)
  (z_max : PySem.W.nsIn K mainGlobals "max" = some none)
  (z_min : PySem.W.nsIn K mainGlobals "min" = some none)
  (z_range : PySem.W.nsIn K mainGlobals "range" = some none)
  (z_set : PySem.W.nsIn K mainGlobals "set" = some none)
  (z_str : PySem.W.nsIn K mainGlobals "str" = some none)
  (z_tuple : PySem.W.nsIn K mainGlobals "tuple" = some none)
  (na_settings : PySem.W.findIn K (.ref c_zas) "settings" = some none)
  (na_tuples : PySem.W.findIn K (.ref c_zas) "tuples" = some none)
  (na_numbers : PySem.W.findIn K (.ref c_zas) "numbers" = some none)
  (na_sets : PySem.W.findIn K (.ref c_zas) "sets" = some none)
  (na_kept_rules : PySem.W.findIn K (.ref c_zas) "kept_rules" = some none)
  (na_bars : PySem.W.findIn K (.ref c_zas) "bars" = some none)
  (na_free : PySem.W.findIn K (.ref c_zas) "free" = some none)
  (mr_zap : PySem.W.mroIn K c_zap (.ref c_zap) = some true)
  (mr_zaq : PySem.W.mroIn K c_zaq (.ref c_zaq) = some true)
  (nd : [c_zan, c_zaq, c_zar].Nodup)
  : ∃ (t : Adr) (fd : FuncData), (∀ (s : Shared) (v : Value), BindsTo s fd ⟨[v], []⟩ [("_law_script", v)]) /\ ∀ base : Heap, K.In base -> base.Ns mainGlobals mg -> FnOk l.prog w K mg base CX0 11 fa fd ["_law_script"] (Lv K t) := by
 obtain ⟨d_zae, g_zae⟩ := q_zae.ok X G (ps := L8) fun _ _ _ _ _ _ us hl => match us, hl with | [_], _ => rfl
 obtain ⟨d_zad, g_zad⟩ := q_zad.ok X G (ps := L6) fun _ _ _ _ _ _ us hl => match us, hl with | [_], _ => rfl
 obtain ⟨d_zm, g_zm⟩ := q_zm.ok (ps := P_zm) fun _ _ _ _ _ _ us hl => match us, hl with | [_], _ => rfl
 obtain ⟨d_zc, g_zc⟩ := q_zc.ok (ps := P_zc) fun _ _ _ _ _ _ us hl => match us, hl with | [_], _ => rfl
 obtain ⟨d_zo, g_zo⟩ := q_zo.ok X G (ps := P_zo) fun _ _ _ _ _ _ us hl => match us, hl with | [_, _, _], _ => rfl
 obtain ⟨d_zt, g_zt⟩ := q_zt.ok X G (ps := P_zt) fun _ _ _ _ _ _ us hl => match us, hl with | [_], _ => rfl
 obtain ⟨d_zaf, g_zaf⟩ := q_zaf.ok X G (ps := L9) fun _ _ _ _ _ _ us hl => match us, hl with | [_], _ => rfl
 obtain ⟨d_ze, g_ze⟩ := q_ze.ok X G (ps := P_ze) fun _ _ _ _ _ _ us hl => match us, hl with | [_], _ => rfl
 obtain ⟨d_zn, g_zn⟩ := q_zn.ok (ps := P_zn) fun _ _ _ _ _ _ us hl => match us, hl with | [_, _, _], _ => rfl
 obtain ⟨d_zs, g_zs⟩ := q_zs.ok (ps := P_zs) fun _ _ _ _ _ _ us hl => match us, hl with | [_, _], _ => rfl
 obtain ⟨d_zx, g_zx⟩ := q_zx.ok X G (ps := P_zx) fun _ _ _ _ _ _ us hl => match us, hl with | [_, _], _ => rfl
 obtain ⟨d_zy, g_zy⟩ := q_zy.ok X G (ps := P_zy) fun _ _ _ _ _ _ us hl => match us, hl with | [_, _], _ => rfl
 obtain ⟨d_zr, g_zr⟩ := q_zr.ok X G (ps := P_zr) fun _ _ _ _ _ _ us hl => match us, hl with | [_, _], _ => rfl
 obtain ⟨d_zac, g_zac⟩ := q_zac.ok X G (ps := Lz) fun _ _ _ _ _ _ us hl => match us, hl with | [_, _], _ => rfl
 obtain ⟨d_zj, g_zj⟩ := q_zj.ok X G (ps := P_zj) fun _ _ _ _ _ _ us hl => match us, hl with | [_], _ => rfl
 obtain ⟨d_zp, g_zp⟩ := q_zp.ok X G (ps := P_zp) fun _ _ _ _ _ _ us hl => match us, hl with | [_], _ => rfl
 obtain ⟨d_zk, g_zk⟩ := q_zk.ok X G (ps := P_zk) fun _ _ _ _ _ _ us hl => match us, hl with | [_], _ => rfl
 obtain ⟨d_zg, g_zg⟩ := q_zg.ok (ps := P_zg) fun _ _ _ _ _ _ us hl => match us, hl with | [_, _], _ => rfl
 obtain ⟨d_zd, g_zd⟩ := q_zd.ok (ps := P_zd) fun _ _ _ _ _ _ us hl => match us, hl with | [_, _], _ => rfl
 obtain ⟨d_zu, g_zu⟩ := q_zu.ok X G (ps := P_zu) fun _ _ _ _ _ _ us hl => match us, hl with | [_], _ => rfl
 obtain ⟨d_zh, g_zh⟩ := q_zh.ok X G (ps := P_zh) fun _ _ _ _ _ _ us hl => match us, hl with | [_], _ => rfl
 obtain ⟨d_zb, g_zb⟩ := q_zb.ok X G (ps := P_zb) fun _ _ _ _ _ _ us hl => match us, hl with | [_], _ => rfl
 obtain ⟨d_za, g_za⟩ := q_za.ok X G (ps := P_za) fun _ _ _ _ _ _ us hl => match us, hl with | [_], _ => rfl
 obtain ⟨d_zag, g_zag⟩ := q_zag.ok X G (ps := Ma) fun _ _ _ _ _ _ us hl => match us, hl with | [_], _ => rfl
 obtain ⟨d_zf, g_zf⟩ := q_zf.ok X G (ps := P_zf) fun _ _ _ _ _ _ us hl => match us, hl with | [_, _], _ => rfl
 have F_zl := Xd (st := s_zl) l_zl c_zl k_zl
 have b_zl : ∀ j, j <= 1 -> Binds K (PySem.W.fnOf "__init__" "Panel.__init__" (Bf s_zl) (Ag s_zl) (Ab s_zl) (.ref Td_zl) kV_zl dc_zl pm_zl an_zl cd_zl ct_zl) P_zl ([Value.none].drop j) := fun j hj => by
  match j, hj with
  | 0, _ => exact Ga 2 rfl ld_zl rfl rfl (fun us hl => match us, hl with | [_, _], _ => ⟨_, rfl, rfl⟩)
  | 1, _ => exact Ga 3 rfl ld_zl rfl rfl (fun us hl => match us, hl with | [_, _, _], _ => ⟨_, rfl, rfl⟩)
 obtain ⟨d_zv, g_zv⟩ := q_zv.ok X G (ps := P_zv) fun _ _ _ _ _ _ us hl => match us, hl with | [_, _], _ => rfl
 obtain ⟨d_zi, g_zi⟩ := q_zi.ok X G (ps := P_zi) fun _ _ _ _ _ _ us hl => match us, hl with | [_, _, _], _ => rfl
 obtain ⟨d_zw, g_zw⟩ := q_zw.ok X G (ps := P_zw) fun _ _ _ _ _ _ us hl => match us, hl with | [_, _, _], _ => rfl
 obtain ⟨d_zz, g_zz⟩ := q_zz.ok X G (ps := P_zz) fun _ _ _ _ _ _ us hl => match us, hl with | [_, _, _], _ => rfl
 obtain ⟨d_zaa, g_zaa⟩ := q_zaa.ok X G (ps := Lx) fun _ _ _ _ _ _ us hl => match us, hl with | [_, _], _ => rfl
 obtain ⟨d_zq, g_zq⟩ := q_zq.ok X G (ps := P_zq) fun _ _ _ _ _ _ us hl => match us, hl with | [_, _, _, _], _ => rfl
 obtain ⟨d_zab, g_zab⟩ := q_zab.ok X G (ps := Ly) fun _ _ _ _ _ _ us hl => match us, hl with | [_, _], _ => rfl
 have F_zah := N1 (st := C9) l_zah c_zah k_zah
 have b_zah := F_zah.binds (ps := Mb) fun _ _ _ _ _ _ us hl => match us, hl with | [_], _ => rfl
 have m := PySem.W.mg_of X G a_zah
 have e : fa = f_zah := by
  rw [hfa] at m
  injection m with m
  injection m
 subst e
 have tl_1 : ∀ {a : Addr}, Aw (.ref a :: valTail) = true := fun {a} => by show Aw valTail = true; decide +kernel
 have AO : Y3 K mg ⟨f_zae, d_zae, f_zad, d_zad, f_zm, d_zm, f_zc, d_zc, f_zo, d_zo, f_zt, d_zt, f_zaf, d_zaf, f_ze, d_ze, f_zn, d_zn, f_zs, d_zs, f_zx, d_zx, f_zy, d_zy, f_zr, d_zr, f_zac, d_zac, f_zj, d_zj, f_zp, d_zp, f_zk, d_zk, f_zg, d_zg, f_zd, d_zd, f_zu, d_zu, f_zh, d_zh, f_zb, d_zb, f_za, d_za, f_zag, d_zag, f_zf, d_zf, f_zl, _, f_zv, d_zv, f_zi, d_zi, f_zw, d_zw, f_zz, d_zz, f_zaa, d_zaa, f_zq, d_zq, f_zab, d_zab, fa, _, .ref Td_zl, [Value.none], c_zan, c_zao, c_zap, c_zaq, c_zar, c_zas, u_zau, u_zat, u_zak, u_zai, u_zaj, u_zal, u_zam⟩ := ⟨g_zae, g_zad, g_zm, g_zc, g_zo, g_zt, g_zaf, g_ze, g_zn, g_zs, g_zx, g_zy, g_zr, g_zac, g_zj, g_zp, g_zk, g_zg, g_zd, g_zu, g_zh, g_zb, g_za, g_zag, g_zf, F_zl, b_zl, (.cons rfl .nil), if_zl, g_zv, g_zi, g_zw, g_zz, g_zaa, g_zq, g_zab, F_zah.toD, (fun j _ => by rw [List.drop_nil]; exact b_zah), .nil, PySem.W.mg_of X G a_zah, PySem.W.mg_of X G a_zan, kp_zan, x_zan.ecls (by decide +kernel), in_zan, PySem.W.mg_of X G a_zao, kp_zao, x_zao.ecls tl_1, in_zao, PySem.W.mg_of X G a_zap, kp_zap, x_zap.ecls tl_1, in_zap, PySem.W.mg_of X G a_zaq, kp_zaq, x_zaq.ecls tl_1, in_zaq, PySem.W.mg_of X G a_zar, kp_zar, x_zar.ecls tl_1, in_zar, PySem.W.mg_of X G a_zas, kp_zas, mk_zas, in_zas, ⟨pg_zas, hd_zas, po_zas, sa_zas⟩, ⟨mt_zc, g_zc.i, g_zc.F.kp⟩, ⟨mt_zs, g_zs.i, g_zs.F.kp⟩, ⟨mt_zm, g_zm.i, g_zm.F.kp⟩, ⟨mt_zg, g_zg.i, g_zg.F.kp⟩, ⟨mt_zd, g_zd.i, g_zd.F.kp⟩, ⟨mt_zn, g_zn.i, g_zn.F.kp⟩, PySem.W.mg_of X G v_zau, r_zau, PySem.W.mg_of X G v_zat, r_zat, PySem.W.mg_of X G v_zak, r_zak, PySem.W.mg_of X G v_zai, r_zai, PySem.W.mg_of X G v_zaj, r_zaj, PySem.W.mg_of X G v_zal, r_zal, PySem.W.mg_of X G v_zam, r_zam, (fun x hx => by
   simp only [bl, List.mem_cons, List.not_mem_nil, or_false] at hx
   rcases hx with rfl | rfl | rfl | rfl | rfl | rfl | rfl | rfl | rfl | rfl | rfl | rfl | rfl | rfl | rfl
   all_goals exact PySem.W.mg_none_of X G (by assumption)), ⟨⟨⟨pg_zas, hd_zas, po_zas, sa_zas⟩, (fun f hf => by
  simp only [List.mem_cons, List.not_mem_nil, or_false] at hf
  rcases hf with rfl | rfl | rfl | rfl | rfl | rfl | rfl
  ·exact na_settings
  ·exact na_tuples
  ·exact na_numbers
  ·exact na_sets
  ·exact na_kept_rules
  ·exact na_bars
  ·exact na_free), x_zap.ecls tl_1, mr_zap⟩, x_zaq.ecls tl_1, mr_zaq, (kits nd x_zan x_zaq x_zar tl_1).1, (kits nd x_zan x_zaq x_zar tl_1).2.1, (kits nd x_zan x_zaq x_zar tl_1).2.2⟩⟩
 exact ⟨_, PySem.W.fnOf "law" "law" (Bf C9) (Ag C9) (Ab C9) .none kV_zah dc_zah pm_zah an_zah cd_zah ct_zah, fun s v => .of_eq rfl, fun base _ _ => aa7 AO⟩
def sp0 (K : PySem.W.Frag) : Sp := fun vs H Q _ => ∃ (a : Addr) (ns : List Int), vs = [.ref a] /\ SqL K H a (ns.map V.int) /\ ns.length <= 63 /\ ∀ H', Q (.bl true) H'
theorem walk {l : PySem.W.OpenLaw} {q : Program} {loose : List Str} {XP : (Str -> Option Value) -> Heap -> Prop} {YP : World -> Heap -> Prop} {d : DefRec} {K : Params -> PySem.W.Frag} (hn : l.most = some 63) (hdf : d.params.defaults = [])
  (hY : ∀ (w : World) (h : Heap), YP w h -> (K w.params).In h)
  (F : ∀ (w : World) (mg : Str -> Option Value) (fa : Addr) (h : Heap), (K w.params).In h -> h.Ns mainGlobals mg -> mg d.name = some (.ref fa) ->
   ∃ (t : Adr) (fd : FuncData), (∀ (s : Shared) (u : Value), BindsTo s fd ⟨[u], []⟩ [("_law_script", u)]) /\ ∀ base : Heap, (K w.params).In base -> base.Ns mainGlobals mg -> FnOk l.prog w (K w.params) mg base CX0 11 fa fd ["_law_script"] (Lv (K w.params) t)) :
  PySem.W.WalkO q loose XP YP l.row.toRowW d [] (fun f vs => PySem.call f vs) :=
 L2.walk_of (n := 63) (k := 11) (x := "_law_script") (CX := fun _ => CX0) (sp := fun w => sp0 (K w.params)) hn (by decide) hdf ⟨rfl, by decide, by decide⟩ hY (fun w mg fa h a b c => let ⟨t, fd, h1, h2⟩ := F w mg fa h a b c; ⟨fd, h1, fun base x y => (h2 base x y).imp fun vs H Q E z => z⟩) (fun _ _ a ns hl _ hS => ⟨a, ns, rfl, hS, hl, fun _ => rfl⟩) fun _ _ _ _ _ z => z
end K12
open PySem PySem.W PyProof.Rows
set_option maxRecDepth 100000 in
set_option maxHeartbeats 0 in
theorem PySem.Challenge.cw_manyleaf_k12_no_condition_holds : PySem.Challenge.rw_manyleaf_k12_no_condition.Holds := by
 refine head_k12 ?_
 k_fill
 refine K12.walk (l := PySem.Challenge.rw_manyleaf_k12_no_condition) rfl rfl (fun w h Y => PySem.W.kIn_of Y) ?F
 case F =>
  intro w mg fa h KX G hmg
  refine' K12.all_mk KX G hmg ?a_zan ?a_zao ?a_zap ?a_zaq ?a_zar ?in_zan ?kp_zan ?in_zao ?kp_zao ?in_zap ?kp_zap ?in_zaq ?kp_zaq ?in_zar ?kp_zar ?a_zas ?in_zas ?kp_zas ?mk_zas ?pg_zas ?hd_zas ?po_zas ?sa_zas ?mt_zc ?mt_zs ?mt_zm ?mt_zg ?mt_zd ?mt_zn ?q_zae ?q_zad ?q_zm ?q_zc ?q_zo ?q_zt ?q_zaf ?q_ze ?q_zn ?q_zs ?q_zx ?q_zy ?q_zr ?q_zac ?q_zj ?q_zp ?q_zk ?q_zg ?q_zd ?q_zu ?q_zh ?q_zb ?q_za ?q_zag ?q_zf ?l_zl ?c_zl ?k_zl ?if_zl ?ld_zl ?q_zv ?q_zi ?q_zw ?q_zz ?q_zaa ?q_zq ?q_zab ?a_zah ?l_zah ?c_zah ?k_zah ?x_zan ?x_zao ?x_zap ?x_zaq ?x_zar ?v_zau ?r_zau ?v_zat ?r_zat ?v_zak ?r_zak ?v_zai ?r_zai ?v_zaj ?r_zaj ?v_zal ?r_zal ?v_zam ?r_zam ?z_ValueError ?z_all ?z_bool ?z_dict ?z_enumerate ?z_int ?z_isinstance ?z_len ?z_list ?z_max ?z_min ?z_range ?z_set ?z_str ?z_tuple ?na_settings ?na_tuples ?na_numbers ?na_sets ?na_kept_rules ?na_bars ?na_free ?mr_zap ?mr_zaq ?nd
  (case a_zan => k_is)
  (case a_zao => k_is)
  (case a_zap => k_is)
  (case a_zaq => k_is)
  (case a_zar => k_is)
  (case in_zan => k_is)
  (case kp_zan => k_is)
  (case in_zao => k_is)
  (case kp_zao => k_is)
  (case in_zap => k_is)
  (case kp_zap => k_is)
  (case in_zaq => k_is)
  (case kp_zaq => k_is)
  (case in_zar => k_is)
  (case kp_zar => k_is)
  (case a_zas => k_is)
  (case in_zas => k_is)
  (case kp_zas => k_is)
  (case mk_zas => k_is)
  (case pg_zas => k_is)
  (case hd_zas => k_is)
  (case po_zas => k_is)
  (case sa_zas => k_is)
  (case mt_zc => k_is)
  (case mt_zs => k_is)
  (case mt_zm => k_is)
  (case mt_zg => k_is)
  (case mt_zd => k_is)
  (case mt_zn => k_is)
  (case q_zae => refine' L2.top_mk ?a ?l ?c ?k; (case a => k_is); (case l => k_is); (case c => k_is); (case k => k_is))
  (case q_zad => refine' L2.top_mk ?a ?l ?c ?k; (case a => k_is); (case l => k_is); (case c => k_is); (case k => k_is))
  (case q_zm => refine' L2.met_mk ?l ?c ?k ?i; (case l => k_is); (case c => k_is); (case k => k_is); (case i => k_is))
  (case q_zc => refine' L2.met_mk ?l ?c ?k ?i; (case l => k_is); (case c => k_is); (case k => k_is); (case i => k_is))
  (case q_zo => refine' L2.top_mk ?a ?l ?c ?k; (case a => k_is); (case l => k_is); (case c => k_is); (case k => k_is))
  (case q_zt => refine' L2.top_mk ?a ?l ?c ?k; (case a => k_is); (case l => k_is); (case c => k_is); (case k => k_is))
  (case q_zaf => refine' L2.top_mk ?a ?l ?c ?k; (case a => k_is); (case l => k_is); (case c => k_is); (case k => k_is))
  (case q_ze => refine' L2.top_mk ?a ?l ?c ?k; (case a => k_is); (case l => k_is); (case c => k_is); (case k => k_is))
  (case q_zn => refine' L2.met_mk ?l ?c ?k ?i; (case l => k_is); (case c => k_is); (case k => k_is); (case i => k_is))
  (case q_zs => refine' L2.met_mk ?l ?c ?k ?i; (case l => k_is); (case c => k_is); (case k => k_is); (case i => k_is))
  (case q_zx => refine' L2.top_mk ?a ?l ?c ?k; (case a => k_is); (case l => k_is); (case c => k_is); (case k => k_is))
  (case q_zy => refine' L2.top_mk ?a ?l ?c ?k; (case a => k_is); (case l => k_is); (case c => k_is); (case k => k_is))
  (case q_zr => refine' L2.top_mk ?a ?l ?c ?k; (case a => k_is); (case l => k_is); (case c => k_is); (case k => k_is))
  (case q_zac => refine' L2.top_mk ?a ?l ?c ?k; (case a => k_is); (case l => k_is); (case c => k_is); (case k => k_is))
  (case q_zj => refine' L2.top_mk ?a ?l ?c ?k; (case a => k_is); (case l => k_is); (case c => k_is); (case k => k_is))
  (case q_zp => refine' L2.top_mk ?a ?l ?c ?k; (case a => k_is); (case l => k_is); (case c => k_is); (case k => k_is))
  (case q_zk => refine' L2.top_mk ?a ?l ?c ?k; (case a => k_is); (case l => k_is); (case c => k_is); (case k => k_is))
  (case q_zg => refine' L2.met_mk ?l ?c ?k ?i; (case l => k_is); (case c => k_is); (case k => k_is); (case i => k_is))
  (case q_zd => refine' L2.met_mk ?l ?c ?k ?i; (case l => k_is); (case c => k_is); (case k => k_is); (case i => k_is))
  (case q_zu => refine' L2.top_mk ?a ?l ?c ?k; (case a => k_is); (case l => k_is); (case c => k_is); (case k => k_is))
  (case q_zh => refine' L2.top_mk ?a ?l ?c ?k; (case a => k_is); (case l => k_is); (case c => k_is); (case k => k_is))
  (case q_zb => refine' L2.top_mk ?a ?l ?c ?k; (case a => k_is); (case l => k_is); (case c => k_is); (case k => k_is))
  (case q_za => refine' L2.top_mk ?a ?l ?c ?k; (case a => k_is); (case l => k_is); (case c => k_is); (case k => k_is))
  (case q_zag => refine' L2.top_mk ?a ?l ?c ?k; (case a => k_is); (case l => k_is); (case c => k_is); (case k => k_is))
  (case q_zf => refine' L2.top_mk ?a ?l ?c ?k; (case a => k_is); (case l => k_is); (case c => k_is); (case k => k_is))
  (case l_zl => k_is)
  (case c_zl => k_is)
  (case k_zl => k_is)
  (case if_zl => k_is)
  (case ld_zl => k_is)
  (case q_zv => refine' L2.top_mk ?a ?l ?c ?k; (case a => k_is); (case l => k_is); (case c => k_is); (case k => k_is))
  (case q_zi => refine' L2.top_mk ?a ?l ?c ?k; (case a => k_is); (case l => k_is); (case c => k_is); (case k => k_is))
  (case q_zw => refine' L2.top_mk ?a ?l ?c ?k; (case a => k_is); (case l => k_is); (case c => k_is); (case k => k_is))
  (case q_zz => refine' L2.top_mk ?a ?l ?c ?k; (case a => k_is); (case l => k_is); (case c => k_is); (case k => k_is))
  (case q_zaa => refine' L2.top_mk ?a ?l ?c ?k; (case a => k_is); (case l => k_is); (case c => k_is); (case k => k_is))
  (case q_zq => refine' L2.top_mk ?a ?l ?c ?k; (case a => k_is); (case l => k_is); (case c => k_is); (case k => k_is))
  (case q_zab => refine' L2.top_mk ?a ?l ?c ?k; (case a => k_is); (case l => k_is); (case c => k_is); (case k => k_is))
  (case a_zah => k_is)
  (case l_zah => k_is)
  (case c_zah => k_is)
  (case k_zah => k_is)
  (case x_zan => (refine' L2.xc_mk ?l ?y ?s ?g ?t ?c ?n ?k; (case l => k_is); (case y => k_is); (case s => k_is); (case g => k_is); (case t => k_is); (case c => k_is); (case n => k_is); (case k => k_is)))
  (case x_zao => (refine' L2.xc_mk ?l ?y ?s ?g ?t ?c ?n ?k; (case l => k_is); (case y => k_is); (case s => k_is); (case g => k_is); (case t => k_is); (case c => k_is); (case n => k_is); (case k => k_is)))
  (case x_zap => (refine' L2.xc_mk ?l ?y ?s ?g ?t ?c ?n ?k; (case l => k_is); (case y => k_is); (case s => k_is); (case g => k_is); (case t => k_is); (case c => k_is); (case n => k_is); (case k => k_is)))
  (case x_zaq => (refine' L2.xc_mk ?l ?y ?s ?g ?t ?c ?n ?k; (case l => k_is); (case y => k_is); (case s => k_is); (case g => k_is); (case t => k_is); (case c => k_is); (case n => k_is); (case k => k_is)))
  (case x_zar => (refine' L2.xc_mk ?l ?y ?s ?g ?t ?c ?n ?k; (case l => k_is); (case y => k_is); (case s => k_is); (case g => k_is); (case t => k_is); (case c => k_is); (case n => k_is); (case k => k_is)))
  (case v_zau => k_is)
  (case r_zau => exact ⟨_, rfl⟩)
  (case v_zat => k_is)
  (case r_zat => exact ⟨_, rfl⟩)
  (case v_zak => k_is)
  (case r_zak => exact ⟨_, rfl⟩)
  (case v_zai => k_is)
  (case r_zai => exact ⟨_, rfl⟩)
  (case v_zaj => k_is)
  (case r_zaj => exact ⟨_, rfl⟩)
  (case v_zal => k_is)
  (case r_zal => exact ⟨_, rfl⟩)
  (case v_zam => k_is)
  (case r_zam => exact ⟨_, rfl⟩)
  (case z_ValueError => k_is)
  (case z_all => k_is)
  (case z_bool => k_is)
  (case z_dict => k_is)
  (case z_enumerate => k_is)
  (case z_int => k_is)
  (case z_isinstance => k_is)
  (case z_len => k_is)
  (case z_list => k_is)
  (case z_max => k_is)
  (case z_min => k_is)
  (case z_range => k_is)
  (case z_set => k_is)
  (case z_str => k_is)
  (case z_tuple => k_is)
  (case na_settings => k_is)
  (case na_tuples => k_is)
  (case na_numbers => k_is)
  (case na_sets => k_is)
  (case na_kept_rules => k_is)
  (case na_bars => k_is)
  (case na_free => k_is)
  (case mr_zap => k_is)
  (case mr_zaq => k_is)
  (case nd => decide)
#print axioms PySem.Challenge.cw_manyleaf_k12_no_condition_holds
