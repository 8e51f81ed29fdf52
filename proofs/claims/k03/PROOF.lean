import PyProof.Rows.All
import Wide.All
import OpenK.AllK
import Wide.FinOn
import Lean
import PyProof.EqAt
import PyProof.EqKinds
import PyProof.TupleCall
import PyProof.NeKinds
import PyProof.ZipIter
import PyProof.StrWalks
import PyProof.ConsumeWalk
import PyProof.ExcArgs
import PyProof.ExcBaseAll.ValueError
import KE.KIsAll
import PyProof.EnumFor
import PyProof.EnumMake
import PyProof.EnumStmt
import PyProof.Rows.EnumRows
import PyProof.DictWalks
import PyProof.Rows.SetFrom
import PyProof.DictItems
import KE.KDictList
import PyProof.RulesRaise
import PyProof.RulesTry
import PyProof.StationsW
import PyProof.PassesOwn
import PySem.Challenge.RW_manyleaf_k03_choices_numbered
set_option Elab.async false
set_option linter.all false
set_option maxRecDepth 100000
namespace L2
open PySem PySem.Spec PyProof.Rows
abbrev Key := Sum Int Str
def keyIs : Key → Value → Bool
  | .inl k, v => Value.isInt k v
  | .inr x, v => Value.isStrOf x v
def keyH (w : World) : Key → Int
  | .inl k => hashInt k
  | .inr x => hashStr w x
theorem keyIs_shape : ∀ {k : Key} {v : Value}, keyIs k v = true → (∃ i t, k = Sum.inl i ∧ v = Value.int i t) ∨ (∃ x t, k = Sum.inr x ∧ v = Value.str x t)
  | .inl i, v, h => by
    obtain ⟨t, e⟩ := Value.isInt_shape (k := i) (v := v) h
    exact .inl ⟨i, t, rfl, e⟩
  | .inr x, v, h => by
    obtain ⟨t, e⟩ := Value.isStrOf_shape (x := x) (v := v) h
    exact .inr ⟨x, t, rfl, e⟩
theorem keyIs_int (i : Int) (t : Tok) : keyIs (.inl i) (.int i t) = true := by simp [keyIs, Value.isInt]
theorem keyIs_str (x : Str) (t : Tok) : keyIs (.inr x) (.str x t) = true := by simp [keyIs, Value.isStrOf]
theorem key_ll (a b : Int) : decide ((Sum.inl a : Key) = Sum.inl b) = (a == b) := by
  by_cases e : a = b
  · subst e; simp
  · have h : ¬ (Sum.inl a : Key) = Sum.inl b := fun q => e (Sum.inl.inj q)
    rw [decide_eq_false h]
    exact (beq_eq_false_iff_ne.mpr e).symm
theorem key_rr (a b : Str) : decide ((Sum.inr a : Key) = Sum.inr b) = decide (a = b) := by
  by_cases e : a = b
  · subst e; simp
  · have h : ¬ (Sum.inr a : Key) = Sum.inr b := fun q => e (Sum.inr.inj q)
    rw [decide_eq_false h, decide_eq_false e]
theorem key_lr (a : Int) (b : Str) : decide ((Sum.inl a : Key) = Sum.inr b) = false := decide_eq_false (fun q => nomatch q)
theorem key_rl (a : Str) (b : Int) : decide ((Sum.inr a : Key) = Sum.inl b) = false := decide_eq_false (fun q => nomatch q)
def mixKind (prog : Program) (w : World) : PySem.KeyKind prog w Key where
  is := keyIs
  hash := keyH w
  inj := fun v a b ha hb => by
    rcases keyIs_shape ha with ⟨i, t, rfl, rfl⟩ | ⟨x, t, rfl, rfl⟩
    · rcases keyIs_shape hb with ⟨j, u, rfl, e⟩ | ⟨y, u, rfl, e⟩
      · injection e with e1 _; rw [e1]
      · exact nomatch e
    · rcases keyIs_shape hb with ⟨j, u, rfl, e⟩ | ⟨y, u, rfl, e⟩
      · exact nomatch e
      · injection e with e1 _; rw [e1]
  byValue := fun k v h => by
    rcases keyIs_shape h with ⟨i, t, rfl, rfl⟩ | ⟨x, t, rfl, rfl⟩ <;> rfl
  pyHash := fun hv h => by
    rcases keyIs_shape hv with ⟨i, t, rfl, rfl⟩ | ⟨x, t, rfl, rfl⟩
    · exact wpAny_pyHash_int h
    · exact wpAny_pyHash_str h
  eqBool := fun hu hv h => by
    rcases keyIs_shape hu with ⟨i, t, rfl, rfl⟩ | ⟨x, t, rfl, rfl⟩
    · rcases keyIs_shape hv with ⟨j, u, rfl, rfl⟩ | ⟨y, u, rfl, rfl⟩
      · rw [key_ll] at h; exact wpAny_eqBool_int h
      · rw [key_lr] at h; exact SeqAt.EqAt.int_str i t y u _ _ _ _ h
    · rcases keyIs_shape hv with ⟨j, u, rfl, rfl⟩ | ⟨y, u, rfl, rfl⟩
      · rw [key_rl] at h; exact SeqAt.EqAt.str_int x t j u _ _ _ _ h
      · rw [key_rr] at h; exact wpAny_eqBool_str h
  «strs» := fun k x t v h => by
    rcases keyIs_shape h with ⟨i, u, rfl, e⟩ | ⟨y, u, rfl, e⟩
    · exact nomatch e
    · injection e with e1 _
      subst e1
      cases v <;> rfl
theorem mixKind_int (prog : Program) (w : World) (i : Int) (t : Tok) : (mixKind prog w).is (.inl i) (.int i t) = true := keyIs_int i t
theorem mixKind_str (prog : Program) (w : World) (x : Str) (t : Tok) : (mixKind prog w).is (.inr x) (.str x t) = true := keyIs_str x t
end L2
namespace L2
open PySem PySem.Spec PyProof.Rows
inductive V where
  | non | bl (b : Bool) | int (i : Int) | str (x : Str) | byt (b : Array UInt8) | flt (b : UInt64) | ref (a : Addr) | ty (n : String)
  deriving DecidableEq
def RelV : V → Value → Prop
  | .non, u => u = Value.none
  | .bl b, u => u = Value.bool b
  | .int i, u => ∃ t, u = Value.int i t
  | .str x, u => ∃ t, u = Value.str x t
  | .byt b, u => ∃ t, u = Value.bytes b t
  | .flt b, u => ∃ t, u = Value.float b t
  | .ref a, u => u = Value.ref a
  | .ty n, u => u = Value.type n
abbrev Vals : List V → List Value → Prop := Paired RelV
theorem Vals.length {xs : List V} {us : List Value} (r : Vals xs us) : xs.length = us.length := Paired.length r
theorem Vals.get : ∀ {xs : List V} {us : List Value} {i : Nat} {x : V}, Vals xs us → xs[i]? = some x → ∃ u, us[i]? = some u ∧ RelV x u
  | _, _, _, _, .nil, e => by simp at e
  | _, _, 0, _, .cons r _, e => by simp at e; subst e; exact ⟨_, rfl, r⟩
  | _, _, i + 1, x, .cons _ t, e => by
    obtain ⟨u, h1, h2⟩ := Vals.get (i := i) (x := x) t (by simpa using e)
    exact ⟨u, by simpa using h1, h2⟩
theorem Vals.set {x : V} {u : Value} (r : RelV x u) : ∀ {xs : List V} {us : List Value} (i : Nat), Vals xs us → Vals (xs.set i x) (us.set i u)
  | _, _, _, .nil => .nil
  | _, _, 0, .cons _ t => .cons r t
  | _, _, i + 1, .cons q t => .cons q (Vals.set r i t)
theorem Vals.append : ∀ {xs ys : List V} {us ws : List Value}, Vals xs us → Vals ys ws → Vals (xs ++ ys) (us ++ ws)
  | _, _, _, _, .nil, s => s
  | _, _, _, _, .cons r t, s => .cons r (Vals.append t s)
theorem Vals.take : ∀ {xs : List V} {us : List Value} (n : Nat), Vals xs us → Vals (xs.take n) (us.take n)
  | _, _, 0, _ => .nil
  | _, _, _ + 1, .nil => .nil
  | _, _, n + 1, .cons r t => .cons r (Vals.take n t)
theorem Vals.drop : ∀ {xs : List V} {us : List Value} (n : Nat), Vals xs us → Vals (xs.drop n) (us.drop n)
  | _, _, 0, r => r
  | _, _, _ + 1, .nil => .nil
  | _, _, n + 1, .cons _ t => Vals.drop n t
def RelO : Option V → Option Value → Prop
  | some v, some u => RelV v u
  | none, none => True
  | _, _ => False
def KV {κ : Type} : List (κ × V) → List (κ × Value) → Prop := Paired fun (p : κ × V) (q : κ × Value) => p.1 = q.1 ∧ RelV p.2 q.2
def kV : Key → V
  | .inl i => .int i
  | .inr x => .str x
inductive HO where
  | lst (xs : List V)
  | tup (xs : List V)
  | dK (kvs : List (Key × V)) | dT (kvs : List (List Key × V))
  | set (S : Int → Bool) (n : Nat)
  | ins (C dx : Addr) (fs : List (Str × V))
  | own (x : Addr)
  | xd (fs : List (Str × V))
  | met (f x : Addr)
  | rng (lo hi : Int)
  | frz (o : Obj) (u : HO)
  | tbl (ps : Array Value)
  | ext (φ : Heap → Prop)
abbrev Hp := Addr → Option HO
def upd (H : Hp) (a : Addr) (o : HO) : Hp := fun b => if b = a then some o else H b
theorem upd_same {H : Hp} {a : Addr} {o : HO} : upd H a o a = some o := by unfold upd; rw [if_pos rfl]
theorem upd_ne {H : Hp} {a b : Addr} {o : HO} (h : b ≠ a) : upd H a o b = H b := by unfold upd; rw [if_neg h]
theorem ne_of {H : Hp} {a b : Addr} {o u : HO} (h : H a = some o) (h' : H b = some u) (d : o ≠ u) : a ≠ b := by
  intro e; subst e; rw [h] at h'; exact d (Option.some.inj h')
theorem ne_of_none {H : Hp} {a b : Addr} {o : HO} (h : H a = some o) (h' : H b = none) : a ≠ b := by
  intro e; subst e; rw [h] at h'; cases h'
section
variable (P : Program) (w : World)
def ObjOk (H : Hp) (h : Heap) (a : Addr) : HO → Prop
  | .lst xs => xs.length ≤ sizeLine ∧ ∃ (its : List Value) (n : Nat), Vals xs its ∧ h.get? a = some { cls := .type "list", data := .seq its.toArray n }
  | .tup xs => xs.length ≤ sizeLine ∧ ∃ its : List Value, Vals xs its ∧ IsTup h a its.toArray
  | .dK kvs => kvs.length ≤ sizeLine ∧ (a == sysModules) = false ∧ ∃ vs, KV kvs vs ∧ h.DictOf (mixKind P w) a vs
  | .dT kvs => kvs.length ≤ sizeLine ∧ (a == sysModules) = false ∧ ∃ xs : List (List Key × Addr × Value),
      Paired (fun (p : List Key × V) (q : List Key × Addr × Value) => p.1 = q.1 ∧ H q.2.1 = some (.tup (p.1.map kV)) ∧ RelV p.2 q.2.2) kvs xs ∧
      ∃ o es ep, h.get? a = some o ∧ o.ExactDict ∧ o.data = .dict es ep ∧ es.toList = xs.map (entryOfKey (tupleKind (mixKind P w))) ∧ (xs.map (·.1)).Nodup
  | .set S n => h.SetOf (intKind P w) a S n
  | .ins C dx fs => H dx = some (.own a) ∧ fs.length ≤ 1000 ∧ dx ≠ a ∧ h.get? a = some (PySem.W.instObj C dx) ∧
      ∃ mA, h.Ns1 dx mA ∧ (∀ f, RelO (fs.lookup f) (mA f)) ∧ PySem.Within mA (fs.map (·.1))
  | .own _ => ∃ o, h.get? a = some o
  | .xd fs => ∃ mA, h.Ns1 a mA ∧ ∀ f, RelO (fs.lookup f) (mA f)
  | .rng lo hi => ∃ t u v, h.get? a = some { cls := .type "range", data := .fields #[.int lo t, .int hi u, .int 1 v] }
  | .frz o u => h.get? a = some o ∧ ObjOk H h a u
  | .tbl ps => h.get? a = some { cls := .none, data := .fields ps }
  | .met f x => h.get? a = some (PySem.W.methodObj (.ref f) (.ref x))
  | .ext φ => φ h ∧ (∃ o, h.get? a = some o) ∧ ∀ h1 h2 : Heap, φ h1 → (∀ o, h1.get? a = some o → h2.get? a = some o) → φ h2
def HOk (H : Hp) (h : Heap) : Prop := ∀ a o, H a = some o → ObjOk P w H h a o
end
section
variable {P : Program} {w : World} {H H' : Hp} {h h' : Heap} {a : Addr} {o : HO}
theorem ObjOk.lt (x : ObjOk P w H h a o) : a < h.objs.size := by
  cases o with
  | lst xs => obtain ⟨_, _, _, _, e⟩ := x; exact Heap.lt_size e
  | tup xs => obtain ⟨_, _, _, p⟩ := x; exact p.lt
  | dK kvs => obtain ⟨_, _, _, _, o, _, _, e, _⟩ := x; exact Heap.lt_size e
  | dT kvs => obtain ⟨_, _, _, _, o, _, _, e, _⟩ := x; exact Heap.lt_size e
  | set S n => obtain ⟨o, _, _, _, e, _⟩ := x; exact Heap.lt_size e
  | ins C dx fs => obtain ⟨_, _, _, e, _⟩ := x; exact Heap.lt_size e
  | own y => obtain ⟨_, e⟩ := x; exact Heap.lt_size e
  | xd fs => obtain ⟨_, ⟨_, _, _, e, _⟩, _⟩ := x; exact Heap.lt_size e
  | rng lo hi => obtain ⟨_, _, _, e⟩ := x; exact Heap.lt_size e
  | frz ob u => obtain ⟨e, _⟩ := x; exact Heap.lt_size e
  | tbl ps => exact Heap.lt_size (show h.get? a = some _ from x)
  | met f y => exact Heap.lt_size (show h.get? a = some _ from x)
  | ext φ => obtain ⟨_, ⟨_, e⟩, _⟩ := x; exact Heap.lt_size e
theorem Paired.mapP {α β : Type} {F G : α → β → Prop} : ∀ {l₁ : List α} {l₂ : List β}, Paired F l₁ l₂ → (∀ a b, F a b → G a b) → Paired G l₁ l₂
  | _, _, .nil, _ => .nil
  | _, _, .cons r t, f => .cons (f _ _ r) (Paired.mapP t f)
theorem ObjOk.stay (x : ObjOk P w H h a o) (k : ∀ b u, (b = a ∨ H b = some (.own a)) → h.get? b = some u → h'.get? b = some u)
    (ho : ∀ b, H b = some (.own a) → H' b = some (.own a)) (ht : ∀ b xs, H b = some (.tup xs) → H' b = some (.tup xs)) : ObjOk P w H' h' a o := by
  induction o with
  | lst xs => obtain ⟨z, its, n, r, e⟩ := x; exact ⟨z, its, n, r, k _ _ (.inl rfl) e⟩
  | tup xs => obtain ⟨z, its, r, ob, e, c⟩ := x; exact ⟨z, its, r, ob, k _ _ (.inl rfl) e, c⟩
  | dK kvs => obtain ⟨z, y, vs, r, ob, es, ep, e, c⟩ := x; exact ⟨z, y, vs, r, ob, es, ep, k _ _ (.inl rfl) e, c⟩
  | dT kvs =>
    obtain ⟨z, y, xs, r, ob, es, ep, e, c⟩ := x
    exact ⟨z, y, xs, Paired.mapP r fun p q z => ⟨z.1, ht _ _ z.2.1, z.2.2⟩, ob, es, ep, k _ _ (.inl rfl) e, c⟩
  | set S n => obtain ⟨ob, es, ep, t, e, c⟩ := x; exact ⟨ob, es, ep, t, k _ _ (.inl rfl) e, c⟩
  | ins C dx fs =>
    obtain ⟨d, z, ne, e, mA, ⟨od, es, ep, e2, c⟩, r⟩ := x
    exact ⟨ho _ d, z, ne, k _ _ (.inl rfl) e, mA, ⟨od, es, ep, k _ _ (.inr d) e2, c⟩, r⟩
  | own y => obtain ⟨ob, e⟩ := x; exact ⟨ob, k _ _ (.inl rfl) e⟩
  | xd fs => obtain ⟨mA, ⟨od, es, ep, e, c⟩, r⟩ := x; exact ⟨mA, ⟨od, es, ep, k _ _ (.inl rfl) e, c⟩, r⟩
  | rng lo hi => obtain ⟨t, u, v, e⟩ := x; exact ⟨t, u, v, k _ _ (.inl rfl) e⟩
  | frz ob u ih => obtain ⟨e, q⟩ := x; exact ⟨k _ _ (.inl rfl) e, ih q⟩
  | tbl ps =>
    have e : h.get? a = some { cls := .none, data := .fields ps } := x
    show h'.get? a = some { cls := .none, data := .fields ps }
    exact k a _ (.inl rfl) e
  | met f y =>
    have e : h.get? a = some (PySem.W.methodObj (.ref f) (.ref y)) := x
    show h'.get? a = some (PySem.W.methodObj (.ref f) (.ref y))
    exact k a _ (.inl rfl) e
  | ext φ => obtain ⟨p, ⟨o, e⟩, st⟩ := x; exact ⟨st _ _ p fun o q => k _ _ (.inl rfl) q, ⟨o, k _ _ (.inl rfl) e⟩, st⟩
theorem HOk.lt (x : HOk P w H h) (e : H a = some o) : a < h.objs.size := (x a o e).lt
theorem HOk.fresh (x : HOk P w H h) (e : h.objs.size ≤ a) : H a = none := by
  cases q : H a with
  | none => rfl
  | some u => exact absurd (Nat.lt_of_lt_of_le (x.lt q) e) (Nat.lt_irrefl _)
theorem HOk.kept (x : HOk P w H h) (k : ∀ b u, h.get? b = some u → h'.get? b = some u) : HOk P w H h' := fun a o e =>
  (x a o e).stay (fun b u _ q => k b u q) (fun _ q => q) fun _ _ q => q
theorem HOk.laid (x : HOk P w H h) (k : ∀ b u, h.get? b = some u → h'.get? b = some u) (hp : h.objs.size ≤ a) (new : ObjOk P w (upd H a o) h' a o) : HOk P w (upd H a o) h' := fun b u e => by
  have hn := x.fresh hp
  by_cases hb : b = a
  · subst hb; rw [upd_same] at e; cases e; exact new
  · rw [upd_ne hb] at e
    exact (x b u e).stay (fun c v _ q => k c v q) (fun c q => by rw [upd_ne (ne_of_none q hn)]; exact q) fun c xs q => by rw [upd_ne (ne_of_none q hn)]; exact q
end
def Rd (H : Hp) (a : Addr) (u : HO) : Prop := H a = some u ∨ ∃ o, H a = some (.frz o u)
theorem Rd.ok {P : Program} {w : World} {H : Hp} {h : Heap} {a : Addr} {u : HO} (r : Rd H a u) (x : HOk P w H h) : ObjOk P w H h a u := by
  rcases r with r | ⟨o, r⟩
  · exact x a u r
  · obtain ⟨_, q⟩ := x a _ r
    exact q
def Mut : Option HO → Prop
  | some (.lst _) => True
  | some (.dK _) => True
  | some (.dT _) => True
  | some (.set _ _) => True
  | some (.ins _ _ _) => True
  | some (.ext _) => True
  | _ => False
section
variable {P : Program} {w : World} {H : Hp} {h h' : Heap} {x e : Addr} {o' : HO}
theorem HOk.write (ok : HOk P w H h) (mu : Mut (H x)) (he : e = x ∨ H e = some (.own x)) (k : ∀ b u, b ≠ e → h.get? b = some u → h'.get? b = some u) (heo : ∃ u, h'.get? e = some u)
    (new : ObjOk P w (upd H x o') h' x o') : HOk P w (upd H x o') h' := fun b u q => by
  have nown : ∀ c y, H c = some (.own y) → c ≠ x := fun c y r z => by subst z; rw [r] at mu; exact mu
  have ntup : ∀ c xs, H c = some (.tup xs) → c ≠ x := fun c xs r z => by subst z; rw [r] at mu; exact mu
  by_cases hb : b = x
  · subst hb; rw [upd_same] at q; cases q; exact new
  · rw [upd_ne hb] at q
    by_cases hbe : b = e
    · have q' : H b = some (.own x) := by
        rcases he with z | z
        · exact absurd (hbe.trans z) hb
        · rw [hbe]; exact z
      rw [q] at q'; cases q'
      obtain ⟨v, hv⟩ := heo
      exact ⟨v, by rw [hbe]; exact hv⟩
    · refine (ok b u q).stay (fun c v hc r => k c v ?_ r) (fun c r => by rw [upd_ne (nown c b r)]; exact r) fun c xs r => by rw [upd_ne (ntup c xs r)]; exact r
      rcases hc with rfl | hc
      · exact hbe
      · rintro rfl
        rcases he with z | z
        · exact nown c b hc z
        · rw [hc] at z; cases z; exact hb rfl
end
structure Un (fs ex : List Addr) (H H' : Hp) (h h' : Heap) : Prop where
  keep : ∀ b o, h.get? b = some o → H b = none → b ∉ fs → b ∉ ex → h'.get? b = some o
  slot : ∀ b o, h.get? b = some o → H b = none → b ∈ fs → b ∉ ex → ∃ sl, h'.get? b = some { o with slots := sl }
  free : ∀ b o, h.get? b = some o → H b = none → b ∉ ex → H' b = none
  there : ∀ b o, h.get? b = some o → b ∉ ex → ∃ o', h'.get? b = some o'
  tups : ∀ b xs, H b = some (.tup xs) → H' b = some (.tup xs)
  frzs : ∀ b o u, H b = some (.frz o u) → H' b = some (.frz o u)
  tbls : ∀ b ps, H b = some (.tbl ps) → ∃ more, H' b = some (.tbl (ps ++ more))
section
variable {fs fs' ex ex' : List Addr} {H H1 H2 : Hp} {h h1 h2 h' : Heap} {a x e : Addr} {o : HO}
theorem Un.any (u : Un fs ex H H1 h h1) {b : Addr} {ob : Obj} (q : h.get? b = some ob) (n : H b = none) (hx : b ∉ ex) : ∃ sl, h1.get? b = some { ob with slots := sl } := by
  by_cases hb : b ∈ fs
  · exact u.slot b ob q n hb hx
  · exact ⟨ob.slots, u.keep b ob q n hb hx⟩
theorem Un.kept (k : ∀ b u, h.get? b = some u → h'.get? b = some u) : Un fs ex H H h h' :=
  ⟨fun b ob q _ _ _ => k b ob q, fun b ob q _ _ _ => ⟨ob.slots, k b ob q⟩, fun _ _ _ n _ => n, fun b ob q _ => ⟨ob, k b ob q⟩, fun _ _ q => q, fun _ _ _ q => q, fun _ ps q => ⟨#[], by rw [q]; simp⟩⟩
theorem Un.refl : Un fs ex H H h h := Un.kept fun _ _ q => q
theorem Un.laid (k : ∀ b u, h.get? b = some u → h'.get? b = some u) (hp : h.objs.size ≤ a) (hn : H a = none) : Un fs ex H (upd H a o) h h' where
  keep := fun b u q _ _ _ => k b u q
  slot := fun b u q _ _ _ => ⟨u.slots, k b u q⟩
  free := fun b u q n _ => by rw [upd_ne (Nat.ne_of_lt (Nat.lt_of_lt_of_le (Heap.lt_size q) hp))]; exact n
  there := fun b u q _ => ⟨u, k b u q⟩
  tups := fun b xs q => by rw [upd_ne (ne_of_none q hn)]; exact q
  frzs := fun b u xs q => by rw [upd_ne (ne_of_none q hn)]; exact q
  tbls := fun b ps q => ⟨#[], by rw [upd_ne (ne_of_none q hn), q]; simp⟩
theorem Un.write (mu : Mut (H x)) (he : e = x ∨ H e = some (.own x)) (k : ∀ b u, b ≠ e → h.get? b = some u → h'.get? b = some u) (heo : ∃ u, h'.get? e = some u) : Un fs ex H (upd H x o) h h' := by
  have hx : ∀ b, H b = none → b ≠ x := fun b n z => by subst z; rw [n] at mu; exact mu
  have hb : ∀ b, H b = none → b ≠ e := fun b n z => by
    subst z
    rcases he with r | r
    · exact hx b n r
    · rw [n] at r; cases r
  have hm : ∀ b u, H b = some u → ¬ Mut (some u) → b ≠ x := fun b u q nm z => by subst z; rw [q] at mu; exact nm mu
  refine ⟨fun b u q n _ _ => k b u (hb b n) q, fun b u q n _ _ => ⟨u.slots, k b u (hb b n) q⟩, fun b u q n _ => by rw [upd_ne (hx b n)]; exact n, fun b u q _ => ?_,
    fun b xs q => by rw [upd_ne (hm b _ q fun z => z)]; exact q, fun b u xs q => by rw [upd_ne (hm b _ q fun z => z)]; exact q, fun b ps q => ⟨#[], by rw [upd_ne (hm b _ q fun z => z), q]; simp⟩⟩
  by_cases hbe : b = e
  · subst hbe; exact heo
  · exact ⟨u, k b u hbe q⟩
end
def trk (h : Heap) (H : Hp) : List Addr := (List.range h.objs.size).filter fun a => (H a).isSome
def hidT (h : Heap) (H : Hp) : Heap := PySem.W.hideAll h (trk h H)
theorem hidT_size (h : Heap) (H : Hp) : (hidT h H).objs.size = h.objs.size := PySem.W.hideAll_size _ _
theorem hidT_get {h : Heap} {H : Hp} {b : Addr} {o : Obj} (e : h.get? b = some o) (n : H b = none) : (hidT h H).get? b = some o :=
  PySem.W.hideAll_get _ e fun hm => by
    have q : (H b).isSome = true := (List.mem_filter.mp hm).2
    rw [n] at q; simp at q
theorem of_hidT {h : Heap} {H : Hp} {b : Addr} {o : Obj} (e : (hidT h H).get? b = some o) : h.get? b = some o ∧ H b = none := by
  have e' : h.get? b = some o := PySem.W.of_hideAll (trk h H) e
  refine ⟨e', ?_⟩
  cases q : H b with
  | none => rfl
  | some x =>
    have hm : b ∈ trk h H := List.mem_filter.mpr ⟨List.mem_range.mpr (Heap.lt_size e'), by simp [q]⟩
    have z : (hidT h H).get? b = none := PySem.W.hideAll_none (trk h H) hm
    rw [z] at e; cases e
end L2
namespace L2
open PySem PySem.Spec PyProof.Rows
structure Mod (K : PySem.W.Frag) (mg : Str → Option Value) (base : Heap) : Prop where
  kin : K.In base
  glob : base.Ns mainGlobals mg
  blt : ∃ mb, base.Ns builtinsNs mb ∧ ∀ x : Str, x ≠ "__name__" → mb x = bootBuiltins x
  nolimit : base.NoLimit
structure Cx where
  prog : Program
  w : World
  K : PySem.W.Frag
  mg : Str → Option Value
  base : Heap
  A : Around
  N : List Str
  s₀ : Shared
  H₀ : Hp
  env : Env
  outer : List Env
  stack : List Env
  ex : List Addr
  fn : Str → Bool
  calm : Bool
  pn : List (Addr × Obj)
  xe : Value → Shared → Prop
def frs (l : List Env) : List Addr := l.filterMap (·.frame)
abbrev Cx.fs (X : Cx) : List Addr := frs X.outer
def Vis (sc : Scope) (x : Str) : Prop := sc.names.lookup x = some .local ∨ sc.names.lookup x = some .cell ∨ sc.names.lookup x = some .free
def Loc (sc : Scope) (x : Str) : Prop := sc.names.lookup x = some .local ∨ sc.names.lookup x = some .cell
def Look (env : Env) (h : Heap) (m : Str → Option Value) (x : Str) (u : Value) : Prop :=
  (env.kindOf x = some .local ∧ m x = some u) ∨ ((env.kindOf x = some .cell ∨ env.kindOf x = some .free) ∧ ∃ c, env.cells.lookup x = some c ∧ h.IsCell c (some u))
structure Cx.Ok (X : Cx) : Prop where
  mod : Mod X.K X.mg X.base
  kind : X.env.scope.kind = .function
  glob : X.env.globals = mainGlobals
  blt : X.env.builtins = builtinsNs
  above : X.s₀.heap.objs.size ≤ X.env.locals
  inj : ∀ x y c, X.env.cells.lookup x = some c → X.env.cells.lookup y = some c → x = y
  has : ∀ x, (X.env.kindOf x = some .cell ∨ X.env.kindOf x = some .free) → ∃ c, X.env.cells.lookup x = some c
  cab : ∀ x c, X.fn x = true → X.env.cells.lookup x = some c → X.s₀.heap.objs.size ≤ c
  hd : X.calm = true → X.A.handled = none
  frames : X.A.frames = some X.stack
  stk : X.stack = X.outer ∨ (X.stack = X.env :: X.outer ∧ X.env.frame = some X.env.locals)
  exf : ∀ b ∈ X.ex, b ≠ X.env.locals ∧ ∀ x c, X.env.cells.lookup x = some c → c ≠ b
  bs : ∀ b o, X.base.get? b = some o → X.s₀.heap.get? b = some o ∧ X.H₀ b = none
  bsz : X.base.objs.size ≤ X.s₀.heap.objs.size
  noex : ∀ b o, X.base.get? b = some o → b ∉ X.ex
  exfs : ∀ b ∈ X.ex, b ∉ X.fs
  funs : X.s₀.heap.FunFrames X.base X.outer
  frf : ∀ b ∈ X.fs, X.H₀ b = none
structure Inv (X : Cx) (pins : List (Addr × Obj)) (σ : List (Option V)) (H : Hp) (s : Shared) : Prop where
  ok : X.Ok
  os : s.os = X.s₀.os
  bare : AllBare s.gens
  base : Un X.fs X.ex X.H₀ H X.s₀.heap s.heap
  loc : ∃ m, s.heap.Ns X.env.locals m ∧ ∀ (i : Nat) (x : Str) (v : V), X.N[i]? = some x → σ[i]? = some (some v) → Vis X.env.scope x → ∃ u, RelV v u ∧ Look X.env s.heap m x u
  cell : ∀ x c, X.env.cells.lookup x = some c → ∃ v, s.heap.IsCell c v
  free : H X.env.locals = none
  freeC : ∀ x c, X.env.cells.lookup x = some c → H c = none
  pin : ∀ p ∈ X.pn ++ pins, s.heap.get? p.1 = some p.2 ∧ H p.1 = none ∧ p.1 ≠ X.env.locals ∧ p.1 ∉ X.fs ∧ ∀ v, p.2.data ≠ .cell v
  hok : HOk X.prog X.w H s.heap
  len : σ.length = X.N.length
section
variable {X : Cx} {pins : List (Addr × Obj)} {σ : List (Option V)} {H H' : Hp} {s : Shared} {h' : Heap}
theorem Cx.Ok.nofr (ok : X.Ok) {b : Addr} {o : Obj} (e : X.base.get? b = some o) : b ∉ X.fs := fun hb => by
  have := (ok.funs.mem hb).1
  rw [e] at this; cases this
theorem Inv.bs (I : Inv X pins σ H s) : ∀ b o, X.base.get? b = some o → s.heap.get? b = some o ∧ H b = none := fun b o e =>
  ⟨I.base.keep b o (I.ok.bs b o e).1 (I.ok.bs b o e).2 (I.ok.nofr e) (I.ok.noex b o e), I.base.free b o (I.ok.bs b o e).1 (I.ok.bs b o e).2 (I.ok.noex b o e)⟩
theorem Inv.bk (I : Inv X pins σ H s) : ∀ b o, X.base.get? b = some o → s.heap.get? b = some o := fun b o e => (I.bs b o e).1
theorem Inv.mod (I : Inv X pins σ H s) : Mod X.K X.mg X.base := I.ok.mod
theorem Inv.kIn (I : Inv X pins σ H s) : X.K.In s.heap := I.ok.mod.kin.keeps I.bk
theorem Inv.lt (I : Inv X pins σ H s) : X.env.locals < s.heap.objs.size := let ⟨_, hn, _⟩ := I.loc; hn.lt
theorem Inv.sz (I : Inv X pins σ H s) : X.s₀.heap.objs.size ≤ s.heap.objs.size := Nat.le_trans I.ok.above (Nat.le_of_lt I.lt)
theorem Inv.nofs (I : Inv X pins σ H s) {a : Addr} (h : s.heap.objs.size ≤ a) : a ∉ X.fs := fun hb => by
  obtain ⟨_, o, ho, _⟩ := I.ok.funs.mem hb
  exact absurd (Nat.lt_of_lt_of_le (Heap.lt_size ho) (Nat.le_trans I.sz h)) (Nat.lt_irrefl _)
theorem Inv.cne (I : Inv X pins σ H s) : ∀ x c, X.env.cells.lookup x = some c → c ≠ X.env.locals := fun x c e z => by
  obtain ⟨v, o, ho, hd⟩ := I.cell x c e
  obtain ⟨m, ⟨o', es, ep, ho', hd', _⟩, _⟩ := I.loc
  rw [z, ho'] at ho; cases ho; rw [hd'] at hd; cases hd
theorem Inv.funs (I : Inv X pins σ H s) : s.heap.FunFrames X.base X.outer := by
  have all : ∀ (l : List Env), (∀ b ∈ frs l, b ∈ X.fs) → X.s₀.heap.FunFrames X.base l → s.heap.FunFrames X.base l := by
    intro l
    induction l with
    | nil => intro _ _; trivial
    | cons env r ih =>
      intro hs hl
      obtain ⟨hk, ⟨L, o, hf, hn, ho, hd⟩, hr⟩ := hl
      have hL : L ∈ X.fs := hs L (by unfold frs; rw [List.filterMap_cons, hf]; exact List.mem_cons_self)
      obtain ⟨sl, e⟩ := I.base.slot L o ho (I.ok.frf L hL) hL fun z => I.ok.exfs L z hL
      exact ⟨hk, ⟨L, _, hf, hn, e, hd⟩, ih (fun b hb => hs b (by unfold frs; rw [List.filterMap_cons, hf]; exact List.mem_cons_of_mem _ hb)) hr⟩
  exact all X.outer (fun _ hb => hb) I.ok.funs
theorem Inv.stack (I : Inv X pins σ H s) : s.heap.FunFrames X.base X.stack := by
  rcases I.ok.stk with e | ⟨e, hf⟩
  · rw [e]; exact I.funs
  · rw [e]
    obtain ⟨m, hn, _⟩ := I.loc
    refine .cons (by rw [I.ok.kind]; decide) hf hn ?_ I.funs
    exact Heap.get?_none_of_le (Nat.le_trans I.ok.bsz I.ok.above)
theorem Inv.stkSub (I : Inv X pins σ H s) : ∀ b ∈ frs X.stack, b ∈ X.env.locals :: X.fs := fun b hb => by
  rcases I.ok.stk with e | ⟨e, hf⟩
  · rw [e] at hb; exact List.mem_cons_of_mem _ hb
  · rw [e] at hb
    unfold frs at hb
    rw [List.filterMap_cons, hf] at hb
    exact hb
theorem Inv.stkFree (I : Inv X pins σ H s) : ∀ b ∈ frs X.stack, H b = none := fun b hb => by
  rcases List.mem_cons.mp (I.stkSub b hb) with e | hb
  · rw [e]; exact I.free
  · obtain ⟨_, o, ho, _⟩ := I.ok.funs.mem hb
    exact I.base.free b o ho (I.ok.frf b hb) fun z => I.ok.exfs b z hb
theorem Inv.step {g' : Array GenState} {t' : Nat} {d' : Drawn} {ch : List Addr} (I : Inv X pins σ H s)
    (hch : ∀ b ∈ ch, (b ∈ X.ex ∨ X.s₀.heap.objs.size ≤ b) ∧ b ≠ X.env.locals ∧ (∀ x c, X.env.cells.lookup x = some c → c ≠ b) ∧ ∀ p ∈ X.pn ++ pins, p.1 ≠ b)
    (keep : ∀ b o, b ≠ X.env.locals → b ∉ X.fs → b ∉ ch → s.heap.get? b = some o → H b = none → h'.get? b = some o)
    (slot : ∀ b o, b ≠ X.env.locals → b ∈ X.fs → b ∉ ch → s.heap.get? b = some o → H b = none → ∃ sl, h'.get? b = some { o with slots := sl }) (free : ∀ b o, b ∉ ch → s.heap.get? b = some o → H b = none → H' b = none)
    (there : ∀ b o, b ∉ ch → s.heap.get? b = some o → ∃ o', h'.get? b = some o')
    (tups : ∀ b xs, H b = some (.tup xs) → H' b = some (.tup xs)) (frzs : ∀ b o u, H b = some (.frz o u) → H' b = some (.frz o u)) (tbls : ∀ b ps, H b = some (.tbl ps) → ∃ more, H' b = some (.tbl (ps ++ more)))
    (ns : ∀ m, s.heap.Ns X.env.locals m → h'.Ns X.env.locals m) (hok : HOk X.prog X.w H' h') (hg : AllBare g') :
    Inv X pins σ H' { s with heap := h', gens := g', drawn := d', toks := t' } := by
  have neL : ∀ b o, X.s₀.heap.get? b = some o → b ≠ X.env.locals := fun b o e => Nat.ne_of_lt (Nat.lt_of_lt_of_le (Heap.lt_size e) I.ok.above)
  have neC : ∀ b o, X.s₀.heap.get? b = some o → b ∉ X.ex → b ∉ ch := fun b o e hx hb => by
    rcases (hch b hb).1 with z | z
    · exact hx z
    · exact absurd (Nat.lt_of_lt_of_le (Heap.lt_size e) z) (Nat.lt_irrefl _)
  have cellK : ∀ x c, X.env.cells.lookup x = some c → ∀ v, s.heap.IsCell c v → h'.IsCell c v := fun x c e v ⟨o, ho, hd⟩ => by
    have nch : c ∉ ch := fun z => (hch c z).2.2.1 x c e rfl
    by_cases hc : c ∈ X.fs
    · obtain ⟨sl, q⟩ := slot c o (I.cne x c e) hc nch ho (I.freeC x c e)
      exact ⟨_, q, hd⟩
    · exact ⟨o, keep c o (I.cne x c e) hc nch ho (I.freeC x c e), hd⟩
  refine ⟨I.ok, I.os, hg, ⟨fun b o e n hb hx => ?_, fun b o e n hb hx => ?_, fun b o e n hx => ?_, fun b o e hx => ?_, fun b xs e => tups b xs (I.base.tups b xs e), fun b o xs e => frzs b o xs (I.base.frzs b o xs e), fun b ps e => ?_⟩, ?_, fun x c e => ?_, ?_, fun x c e => ?_, fun p hp => ?_, hok, I.len⟩
  · exact keep b o (neL b o e) hb (neC b o e hx) (I.base.keep b o e n hb hx) (I.base.free b o e n hx)
  · obtain ⟨sl, e1⟩ := I.base.slot b o e n hb hx
    obtain ⟨sl', e2⟩ := slot b _ (neL b o e) hb (neC b o e hx) e1 (I.base.free b o e n hx)
    exact ⟨sl', e2⟩
  · obtain ⟨o', e1⟩ := I.base.there b o e hx
    exact free b o' (neC b o e hx) e1 (I.base.free b o e n hx)
  · obtain ⟨o', e1⟩ := I.base.there b o e hx
    exact there b o' (neC b o e hx) e1
  · obtain ⟨m1, e1⟩ := I.base.tbls b ps e
    obtain ⟨m2, e2⟩ := tbls b _ e1
    exact ⟨m1 ++ m2, by rw [e2, Array.append_assoc]⟩
  · obtain ⟨m, hn, hl⟩ := I.loc
    refine ⟨m, ns m hn, fun i x v e1 e2 e3 => ?_⟩
    obtain ⟨u, r, l⟩ := hl i x v e1 e2 e3
    refine ⟨u, r, ?_⟩
    rcases l with l | ⟨k, c, e, z⟩
    · exact .inl l
    · exact .inr ⟨k, c, e, cellK x c e _ z⟩
  · obtain ⟨v, z⟩ := I.cell x c e
    exact ⟨v, cellK x c e v z⟩
  · obtain ⟨m, ⟨o, _, _, ho, _⟩, _⟩ := I.loc
    exact free _ o (fun z => (hch _ z).2.1 rfl) ho I.free
  · obtain ⟨v, o, ho, hd⟩ := I.cell x c e
    exact free c o (fun z => (hch c z).2.2.1 x c e rfl) ho (I.freeC x c e)
  · obtain ⟨e, n, ne, nf, d⟩ := I.pin p hp
    have nch : p.1 ∉ ch := fun z => (hch p.1 z).2.2.2 p hp rfl
    exact ⟨keep p.1 p.2 ne nf nch e n, free p.1 p.2 nch e n, ne, nf, d⟩
theorem Inv.un {t' : Nat} (I : Inv X pins σ H s) (u : Un X.fs [] H H' s.heap h') (hok : HOk X.prog X.w H' h') : Inv X pins σ H' { s with heap := h', toks := t' } := by
  obtain ⟨m, ⟨o, es, ep, ho, r⟩, _⟩ := id I.loc
  obtain ⟨sl, hL⟩ := u.any ho I.free (by simp)
  exact I.step (g' := s.gens) (d' := s.drawn) (ch := []) (fun _ z => nomatch z) (fun b o _ hb _ e n => u.keep b o e n hb (by simp)) (fun b o _ hb _ e n => u.slot b o e n hb (by simp)) (fun b o _ e n => u.free b o e n (by simp)) (fun b o _ e => u.there b o e (by simp)) u.tups u.frzs u.tbls (fun m' hm => by
    obtain ⟨o', es', ep', ho', r'⟩ := hm
    rw [ho] at ho'; cases ho'
    exact ⟨_, es', ep', hL, r'⟩) hok I.bare
theorem Inv.call {g' : Array GenState} {t' : Nat} {d' : Drawn} {ch : List Addr} (I : Inv X pins σ H s) (u : Un (frs X.stack) ch H H' s.heap h') (hok : HOk X.prog X.w H' h') (hg : AllBare g')
    (hch : ∀ b ∈ ch, (b ∈ X.ex ∨ X.s₀.heap.objs.size ≤ b) ∧ b ≠ X.env.locals ∧ (∀ x c, X.env.cells.lookup x = some c → c ≠ b) ∧ ∀ p ∈ X.pn ++ pins, p.1 ≠ b) :
    Inv X pins σ H' { s with heap := h', gens := g', drawn := d', toks := t' } := by
  obtain ⟨m, ⟨o, es, ep, ho, r⟩, _⟩ := id I.loc
  obtain ⟨sl, hL⟩ := u.any ho I.free fun z => (hch _ z).2.1 rfl
  exact I.step (ch := ch) hch (fun b o hL hb hc e n => u.keep b o e n (fun z => (List.mem_cons.mp (I.stkSub b z)).elim hL hb) hc) (fun b o _ _ hc e n => u.any e n hc) (fun b o hc e n => u.free b o e n hc) (fun b o hc e => u.there b o e hc) u.tups u.frzs u.tbls (fun m' hm => by
    obtain ⟨o', es', ep', ho', r'⟩ := hm
    rw [ho] at ho'; cases ho'
    exact ⟨_, es', ep', hL, r'⟩) hok hg
theorem Inv.turned {t' : Nat} {it : Addr} (I : Inv X pins σ H s) (k : ∀ b o, b ≠ it → s.heap.get? b = some o → h'.get? b = some o) (hn : H it = none) (hL : it ≠ X.env.locals)
    (h1 : it ∈ X.ex ∨ X.s₀.heap.objs.size ≤ it) (h2 : ∀ x c, X.env.cells.lookup x = some c → c ≠ it) (h3 : ∀ p ∈ X.pn ++ pins, p.1 ≠ it) : Inv X pins σ H { s with heap := h', toks := t' } := by
  have nit : ∀ b u, H b = some u → b ≠ it := fun b u e z => by rw [z, hn] at e; cases e
  refine I.step (g' := s.gens) (d' := s.drawn) (ch := [it]) (fun b hb => ?_) (fun b o _ _ hc e _ => k b o (fun z => hc (by simp [z])) e) (fun b o _ _ hc e _ => ⟨o.slots, k b o (fun z => hc (by simp [z])) e⟩) (fun _ _ _ _ n => n)
    (fun b o hc e => ⟨o, k b o (fun z => hc (by simp [z])) e⟩) (fun _ _ e => e) (fun _ _ _ e => e) (fun b ps e => ⟨#[], by rw [e]; simp⟩) (fun m hm => ?_) (fun b u e => ?_) I.bare
  · have e : b = it := by simpa using hb
    subst e
    exact ⟨h1, hL, h2, h3⟩
  · obtain ⟨o, es, ep, ho, r⟩ := hm
    exact ⟨o, es, ep, k _ o (Ne.symm hL) ho, r⟩
  · refine (I.hok b u e).stay (fun c v hc q => k c v ?_ q) (fun _ q => q) fun _ _ q => q
    rcases hc with z | z
    · rw [z]; exact nit b u e
    · exact nit c _ z
theorem Inv.tok (I : Inv X pins σ H s) (t : Nat) : Inv X pins σ H { s with toks := t } := I.un (h' := s.heap) (t' := t) Un.refl I.hok
theorem Inv.kept {t' : Nat} (I : Inv X pins σ H s) (k : ∀ b u, s.heap.get? b = some u → h'.get? b = some u) : Inv X pins σ H { s with heap := h', toks := t' } := I.un (Un.kept k) (I.hok.kept k)
theorem Inv.laid {a : Addr} {o : HO} {t' : Nat} (I : Inv X pins σ H s) (k : ∀ b u, s.heap.get? b = some u → h'.get? b = some u) (hp : s.heap.objs.size ≤ a) (new : ObjOk X.prog X.w (upd H a o) h' a o) :
    Inv X pins σ (upd H a o) { s with heap := h', toks := t' } := I.un (Un.laid k hp (I.hok.fresh hp)) (I.hok.laid k hp new)
theorem Inv.write {x e : Addr} {o : HO} {t' : Nat} (I : Inv X pins σ H s) (mu : Mut (H x)) (he : e = x ∨ H e = some (.own x)) (k : ∀ b u, b ≠ e → s.heap.get? b = some u → h'.get? b = some u) (heo : ∃ u, h'.get? e = some u)
    (new : ObjOk X.prog X.w (upd H x o) h' x o) : Inv X pins σ (upd H x o) { s with heap := h', toks := t' } := I.un (Un.write mu he k heo) (I.hok.write mu he k heo new)
theorem Inv.pins_of {pins' : List (Addr × Obj)} (I : Inv X pins σ H s) (h : ∀ p ∈ pins', s.heap.get? p.1 = some p.2 ∧ H p.1 = none ∧ p.1 ≠ X.env.locals ∧ p.1 ∉ X.fs ∧ ∀ v, p.2.data ≠ .cell v) : Inv X pins' σ H s :=
  ⟨I.ok, I.os, I.bare, I.base, I.loc, I.cell, I.free, I.freeC, fun p hp => (List.mem_append.mp hp).elim (fun z => I.pin p (List.mem_append_left _ z)) (h p), I.hok, I.len⟩
theorem nodup_ix {N : List Str} (hN : N.Nodup) {i j : Nat} {x : Str} (a : N[i]? = some x) (b : N[j]? = some x) : i = j := by
  obtain ⟨h1, e1⟩ := List.getElem?_eq_some_iff.mp a
  obtain ⟨h2, e2⟩ := List.getElem?_eq_some_iff.mp b
  exact (List.getElem_inj hN).mp (e1.trans e2.symm)
theorem store_ok2 {M : Model} {A : Around} {E : Value → Shared → Prop} {i : Nat} {x : Str} {v : V} {u : Value} {Q : Unit → Shared → Prop} (I : Inv X pins σ H s) (hN : X.N.Nodup) (hi : X.N[i]? = some x) (hx : Loc X.env.scope x) (r : RelV v u)
    (h : ∀ s', Inv X pins (σ.set i (some v)) H s' → (∃ a, Heap.SameBut a s.heap s'.heap ∧ (a = X.env.locals ∨ X.env.cells.lookup x = some a)) → Q () s') (hf : X.fn x = true ∨ X.env.scope.names.lookup x = some .local := by first | exact .inl rfl | exact .inr rfl | assumption) : wpAny M A (storeName X.env x u) Q E s := by
  obtain ⟨m, hn, hl⟩ := id I.loc
  have hcls : (X.env.scope.kind == .class || (X.env.scope.kind == .module && X.env.locals != X.env.globals)) = false := by rw [I.ok.kind]; rfl
  have hiσ : i < σ.length := by rw [I.len]; exact (List.getElem?_eq_some_iff.mp hi).1
  have cne := I.cne
  have tracked : ∀ {a : Addr} {h' : Heap}, (∃ o, s.heap.get? a = some o ∧ H a = none) → Heap.SameBut a s.heap h' → HOk X.prog X.w H h' := fun {a h'} ha hs b ob e => by
    obtain ⟨_, _, hfree⟩ := ha
    refine (I.hok b ob e).stay (fun c w' hc q => (hs.2 c ?_).trans q) (fun _ q => q) fun _ _ q => q
    rintro rfl
    rcases hc with rfl | hc
    · rw [hfree] at e; cases e
    · rw [hfree] at hc; cases hc
  rcases hx with hk | hk
  · refine wpAny_storeName_local hk hn (fun h' hn' hs => ?_) hcls
    obtain ⟨oL, _, _, hoL, _⟩ := id hn
    refine h _ ⟨I.ok, I.os, I.bare, ⟨fun b o e n hb hx => ?_, fun b o e n hb hx => ?_, I.base.free, fun b o e hx => ?_, I.base.tups, I.base.frzs, I.base.tbls⟩, ⟨_, hn', fun j y v' e1 e2 e3 => ?_⟩, fun y c e => ?_, I.free, I.freeC, fun p hp => ?_, tracked ⟨oL, hoL, I.free⟩ hs, by simpa using I.len⟩ ⟨_, hs, .inl rfl⟩
    · exact (hs.2 b (Nat.ne_of_lt (Nat.lt_of_lt_of_le (Heap.lt_size e) I.ok.above))).trans (I.base.keep b o e n hb hx)
    · obtain ⟨sl, e1⟩ := I.base.slot b o e n hb hx
      exact ⟨sl, (hs.2 b (Nat.ne_of_lt (Nat.lt_of_lt_of_le (Heap.lt_size e) I.ok.above))).trans e1⟩
    · obtain ⟨o', e1⟩ := I.base.there b o e hx
      exact ⟨o', (hs.2 b (Nat.ne_of_lt (Nat.lt_of_lt_of_le (Heap.lt_size e) I.ok.above))).trans e1⟩
    · by_cases hj : j = i
      · subst hj
        rw [hi] at e1; cases e1
        rw [List.getElem?_set_self hiσ] at e2
        cases e2
        exact ⟨u, r, .inl ⟨hk, by simp⟩⟩
      · rw [List.getElem?_set_ne (Ne.symm hj)] at e2
        obtain ⟨u', r', q⟩ := hl j y v' e1 e2 e3
        refine ⟨u', r', ?_⟩
        rcases q with ⟨k, e⟩ | ⟨k, c, e, z⟩
        · refine .inl ⟨k, ?_⟩
          have : y ≠ x := fun e => hj (nodup_ix hN e1 (e ▸ hi))
          simp [this, e]
        · exact .inr ⟨k, c, e, z.sameBut hs (cne y c e)⟩
    · obtain ⟨w', z⟩ := I.cell y c e
      exact ⟨w', z.sameBut hs (cne y c e)⟩
    · obtain ⟨e, n, ne, nf, d⟩ := I.pin p hp
      exact ⟨(hs.2 p.1 ne).trans e, n, ne, nf, d⟩
  · have hfn : X.fn x = true := by
      rcases hf with z | z
      · exact z
      · rw [z] at hk; cases hk
    obtain ⟨c, hc⟩ := I.ok.has x (.inl hk)
    obtain ⟨w', z⟩ := I.cell x c hc
    refine wpAny_storeName_cell I.ok.kind hk hc z (fun h' hc' hs => ?_)
    obtain ⟨oc, hoc, hocd⟩ := id z
    refine h { s with heap := h' } ⟨I.ok, I.os, I.bare, ⟨fun b o e n hb hx => ?_, fun b o e n hb hx => ?_, I.base.free, fun b o e hx => ?_, I.base.tups, I.base.frzs, I.base.tbls⟩, ⟨m, hn.sameBut hs (Ne.symm (cne x c hc)), fun j y v' e1 e2 e3 => ?_⟩, fun y c' e => ?_, I.free, I.freeC, fun p hp => ?_, tracked ⟨oc, hoc, I.freeC x c hc⟩ hs, by simpa using I.len⟩ ⟨c, hs, .inr hc⟩
    · exact (hs.2 b (Nat.ne_of_lt (Nat.lt_of_lt_of_le (Heap.lt_size e) (I.ok.cab x c hfn hc)))).trans (I.base.keep b o e n hb hx)
    · obtain ⟨sl, e1⟩ := I.base.slot b o e n hb hx
      exact ⟨sl, (hs.2 b (Nat.ne_of_lt (Nat.lt_of_lt_of_le (Heap.lt_size e) (I.ok.cab x c hfn hc)))).trans e1⟩
    · obtain ⟨o', e1⟩ := I.base.there b o e hx
      exact ⟨o', (hs.2 b (Nat.ne_of_lt (Nat.lt_of_lt_of_le (Heap.lt_size e) (I.ok.cab x c hfn hc)))).trans e1⟩
    · by_cases hj : j = i
      · subst hj
        rw [hi] at e1; cases e1
        rw [List.getElem?_set_self hiσ] at e2
        cases e2
        exact ⟨u, r, .inr ⟨.inl hk, c, hc, hc'⟩⟩
      · rw [List.getElem?_set_ne (Ne.symm hj)] at e2
        obtain ⟨u', r', q⟩ := hl j y v' e1 e2 e3
        refine ⟨u', r', ?_⟩
        rcases q with q | ⟨k, c', e, z'⟩
        · exact .inl q
        · refine .inr ⟨k, c', e, z'.sameBut hs ?_⟩
          rintro rfl
          exact hj (nodup_ix hN e1 (I.ok.inj _ _ _ e hc ▸ hi))
    · by_cases hcc : c' = c
      · subst hcc; exact ⟨_, hc'⟩
      · obtain ⟨w2, z2⟩ := I.cell y c' e
        exact ⟨w2, z2.sameBut hs hcc⟩
    · obtain ⟨e, n, ne, nf, d⟩ := I.pin p hp
      refine ⟨(hs.2 p.1 ?_).trans e, n, ne, nf, d⟩
      intro q
      rw [q, hoc] at e
      have q' : oc = p.2 := Option.some.inj e
      exact d w' (by rw [← q']; exact hocd)
theorem store_ok {M : Model} {A : Around} {E : Value → Shared → Prop} {i : Nat} {x : Str} {v : V} {u : Value} {Q : Unit → Shared → Prop} (I : Inv X pins σ H s) (hN : X.N.Nodup) (hi : X.N[i]? = some x) (hx : Loc X.env.scope x) (r : RelV v u)
    (h : ∀ s', Inv X pins (σ.set i (some v)) H s' → Q () s') (hf : X.fn x = true ∨ X.env.scope.names.lookup x = some .local := by first | exact .inl rfl | exact .inr rfl | assumption) : wpAny M A (storeName X.env x u) Q E s :=
  store_ok2 I hN hi hx r (fun s' I' _ => h s' I') hf
theorem Inv.call' {s' : Shared} {ch : List Addr} (I : Inv X pins σ H s) (ho : s'.os = s.os) (u : Un (frs X.stack) ch H H' s.heap s'.heap) (hok : HOk X.prog X.w H' s'.heap) (hg : AllBare s'.gens)
    (hch : ∀ b ∈ ch, (b ∈ X.ex ∨ X.s₀.heap.objs.size ≤ b) ∧ b ≠ X.env.locals ∧ (∀ x c, X.env.cells.lookup x = some c → c ≠ b) ∧ ∀ p ∈ X.pn ++ pins, p.1 ≠ b) : Inv X pins σ H' s' := by
  obtain ⟨h', g', d', t', o'⟩ := s'
  have e : o' = s.os := ho
  subst e
  exact I.call (g' := g') (t' := t') (d' := d') u hok hg hch
end
abbrev XK := Value → Option Addr → Hp → Prop
abbrev St := List (Option V)
abbrev VK := V → Hp → Prop
abbrev TE := St → Hp → VK → Prop
abbrev TT := St → Hp → (Bool → Hp → Prop) → Prop
abbrev TA := St → Hp → (List V → Hp → Prop) → Prop
structure Ends where
  nx : St → Hp → Prop
  rt : VK
  bk : St → Hp → Prop := fun _ _ => False
  ct : St → Hp → Prop := fun _ _ => False
abbrev TS := Ends → St → Hp → Prop
def EP (X : Cx) (pins : List (Addr × Obj)) (σ : St) (Q : VK) (u : Value) (s' : Shared) : Prop := ∃ v H', Inv X pins σ H' s' ∧ RelV v u ∧ Q v H'
def TP (X : Cx) (pins : List (Addr × Obj)) (σ : St) (Q : Bool → Hp → Prop) (b : Bool) (s' : Shared) : Prop := ∃ H', Inv X pins σ H' s' ∧ Q b H'
def AP (X : Cx) (pins : List (Addr × Obj)) (σ : St) (Q : List V → Hp → Prop) (us : List Value) (s' : Shared) : Prop := ∃ vs H', Inv X pins σ H' s' ∧ Vals vs us ∧ Q vs H'
def SP (X : Cx) (pins : List (Addr × Obj)) (D : Ends) (f : Flow) (s' : Shared) : Prop :=
  match f with
  | .next => ∃ σ' H', Inv X pins σ' H' s' ∧ D.nx σ' H'
  | .brk => ∃ σ' H', Inv X pins σ' H' s' ∧ D.bk σ' H'
  | .cont => ∃ σ' H', Inv X pins σ' H' s' ∧ D.ct σ' H'
  | .ret u => ∃ v σ' H', Inv X pins σ' H' s' ∧ RelV v u ∧ D.rt v H'
def PE (X : Cx) (e : Expr) (t : TE) : Prop :=
  ∀ (pins : List (Addr × Obj)) (s : Shared) (σ : St) (H : Hp) (Q : VK), Inv X pins σ H s → t σ H Q → wpAny (model X.prog X.w) X.A (eval e X.env) (EP X pins σ Q) X.xe s
def PT (X : Cx) (e : Expr) (t : TT) : Prop :=
  ∀ (pins : List (Addr × Obj)) (s : Shared) (σ : St) (H : Hp) (Q : Bool → Hp → Prop), Inv X pins σ H s → t σ H Q → wpAny (model X.prog X.w) X.A (isTrue e X.env (eval e X.env)) (TP X pins σ Q) X.xe s
def PW (X : Cx) (e : Expr) (t : TT) : Prop :=
  ∀ (whole : Sem Value) (pins : List (Addr × Obj)) (s : Shared) (σ : St) (H : Hp) (Q : Bool → Hp → Prop), Inv X pins σ H s → t σ H Q → wpAny (model X.prog X.w) X.A (isTrue e X.env whole) (TP X pins σ Q) X.xe s
theorem PW.pt {X : Cx} {e : Expr} {t : TT} (h : PW X e t) : PT X e t := h _
def PA (X : Cx) (es : List Expr) (t : TA) : Prop :=
  ∀ (pos : Pos) (pins : List (Addr × Obj)) (s : Shared) (σ : St) (H : Hp) (Q : List V → Hp → Prop), Inv X pins σ H s → t σ H Q → wpAny (model X.prog X.w) X.A (spliced (backTo pos (starEach es X.env))) (AP X pins σ Q) X.xe s
def PS (X : Cx) (st : Stmt) (t : TS) : Prop :=
  ∀ (pins : List (Addr × Obj)) (s : Shared) (σ : St) (H : Hp) (D : Ends), Inv X pins σ H s → t D σ H → wpAny (model X.prog X.w) X.A (exec st X.env) (SP X pins D) X.xe s
def PSs (X : Cx) (st : List Stmt) (t : TS) : Prop :=
  ∀ (pins : List (Addr × Obj)) (s : Shared) (σ : St) (H : Hp) (D : Ends), Inv X pins σ H s → t D σ H → wpAny (model X.prog X.w) X.A (execs st X.env) (SP X pins D) X.xe s
theorem thn {α : Type} {t : Sem α} {Q Q' : α → Shared → Prop} {M : Model} {A : Around} {E : Value → Shared → Prop} {s : Shared} (h : wpAny M A t Q E s) (hQ : ∀ a s, Q a s → Q' a s) : wpAny M A t Q' E s := wpAny_mono h hQ fun _ _ x => x
end L2
namespace L2
open PySem PySem.Spec PyProof.Rows
section
variable {X : Cx}
def tVar (i : Nat) : TE := fun σ H Q => ∃ v, σ[i]? = some (some v) ∧ Q v H
def tC (v : V) : TE := fun _ H Q => Q v H
theorem pe_var {i : Nat} {x : Str} {pos : Pos} (hN : X.N[i]? = some x) (hv : Vis X.env.scope x) (hd : (x == ("__debug__" : Str)) = false := by decide) (hcd : (x == ("__classdict__" : Str)) = false := by decide) : PE X (.Name x pos) (tVar i) := by
  intro pins s σ H Q I h
  obtain ⟨v, e, h⟩ := h
  obtain ⟨m, hn, hl⟩ := I.loc
  obtain ⟨u, r, l⟩ := hl i x v hN e hv
  have fin : EP X pins σ Q u s := ⟨v, H, I, r, h⟩
  rcases l with ⟨hk, hm⟩ | ⟨hk, c, hc, hcell⟩
  · exact wpAny_Name (wpAny_loadName_local I.ok.kind hk hn hm fin) hd
  · rcases hk with hk | hk
    · exact wpAny_Name (wpAny_loadName_cell I.ok.kind hk hc hcell fin) hd
    · exact wpAny_Name (wpAny_loadName_free I.ok.kind hk hc hcell fin hcd) hd
theorem pe_int {i j pos} : PE X (.Constant (.int i) j pos) (tC (.int i)) := fun _ _ _ H _ I h => wpAny_Constant_int ⟨.int i, H, I.tok _, ⟨_, rfl⟩, h⟩
theorem pe_bl {b j pos} : PE X (.Constant (.bool b) j pos) (tC (.bl b)) := fun _ _ _ H _ I h => Constant_bool ⟨.bl b, H, I, rfl, h⟩
theorem pe_non {j pos} : PE X (.Constant .none j pos) (tC .non) := fun _ _ _ H _ I h => Constant_none ⟨.non, H, I, rfl, h⟩
theorem pe_str {x j pos} : PE X (.Constant (.str x) j pos) (tC (.str x)) := fun _ _ _ H _ I h => Calls.Constant_str ⟨.str x, H, I.tok _, ⟨_, rfl⟩, h⟩
def Gl (X : Cx) (x : Str) : Prop := X.env.kindOf x = some .globalImplicit
theorem ld_glob {E : Value → Shared → Prop} {pins : List (Addr × Obj)} {s : Shared} {σ : St} {H : Hp} {x : Str} {u : Value} {pos : Pos} {Q : Value → Shared → Prop} (I : Inv X pins σ H s) (hg : Gl X x) (hm : X.mg x = some u) (h : Q u s)
    (hd : (x == ("__debug__" : Str)) = false := by decide) : wpAny (model X.prog X.w) X.A (eval (.Name x pos) X.env) Q E s :=
  Calls.Name_function_global I.ok.kind hg (Calls.loadGlobal_global (by rw [I.ok.glob]; exact I.mod.glob.keeps I.bk) hm h) hd
theorem ld_blt {E : Value → Shared → Prop} {pins : List (Addr × Obj)} {s : Shared} {σ : St} {H : Hp} {x : Str} {u : Value} {pos : Pos} {Q : Value → Shared → Prop} (I : Inv X pins σ H s) (hg : Gl X x) (hm : X.mg x = none) (hv : bootBuiltins x = some u) (h : Q u s)
    (hn : x ≠ "__name__" := by decide) (hd : (x == ("__debug__" : Str)) = false := by decide) : wpAny (model X.prog X.w) X.A (eval (.Name x pos) X.env) Q E s := by
  obtain ⟨mb, h1, h2⟩ := I.mod.blt
  exact Calls.Name_function_global I.ok.kind hg (Calls.loadGlobal_builtin (by rw [I.ok.glob]; exact I.mod.glob.keeps I.bk) hm (by rw [I.ok.blt]; exact h1.keeps I.bk) ((h2 x hn).trans hv) h) hd
theorem pe_glob {x : Str} {v : V} {u : Value} {pos : Pos} (hg : Gl X x) (hm : X.mg x = some u) (r : RelV v u) (hd : (x == ("__debug__" : Str)) = false := by decide) : PE X (.Name x pos) (tC v) :=
  fun _ _ _ H _ I h => ld_glob I hg hm ⟨v, H, I, r, h⟩ hd
theorem pe_bltn {x : Str} {v : V} {u : Value} {pos : Pos} (hg : Gl X x) (hm : X.mg x = none) (hv : bootBuiltins x = some u) (r : RelV v u) (hn : x ≠ "__name__" := by decide) (hd : (x == ("__debug__" : Str)) = false := by decide) : PE X (.Name x pos) (tC v) :=
  fun _ _ _ H _ I h => ld_blt I hg hm hv ⟨v, H, I, r, h⟩ hn hd
variable {a b : Expr} {ta tb : TE} {pos : Pos}
variable {tA tB' : TT} {rest : List Expr}
def tAnd (t u : TT) : TT := fun σ H Q => t σ H fun c H1 => if c = true then u σ H1 Q else Q false H1
def tOr (t u : TT) : TT := fun σ H Q => t σ H fun c H1 => if c = true then Q true H1 else u σ H1 Q
def tNot (t : TT) : TT := fun σ H Q => t σ H fun c H1 => Q (!c) H1
theorem pw_and1 (ha : PT X a tA) : PW X (.BoolOp .And [a] pos) tA := by
  intro wh pins s σ H Q I h
  refine isTrue_and (thn (ha pins s σ H Q I h) fun c s1 e => ?_)
  cases c with
  | true => exact isTrue_and_nil e
  | false => exact e
theorem pw_or1 (ha : PT X a tA) : PW X (.BoolOp .Or [a] pos) tA := by
  intro wh pins s σ H Q I h
  refine isTrue_or (thn (ha pins s σ H Q I h) fun c s1 e => ?_)
  cases c with
  | false => exact isTrue_or_nil e
  | true => exact e
theorem pw_and (ha : PT X a tA) (hb : PW X (.BoolOp .And (b :: rest) pos) tB') : PW X (.BoolOp .And (a :: b :: rest) pos) (tAnd tA tB') := by
  intro wh pins s σ H Q I h
  refine isTrue_and (thn (ha pins s σ H _ I h) fun c s1 ⟨H1, I1, q1⟩ => ?_)
  cases c with
  | true => exact hb wh pins s1 σ H1 Q I1 q1
  | false => exact ⟨H1, I1, q1⟩
theorem pw_or (ha : PT X a tA) (hb : PW X (.BoolOp .Or (b :: rest) pos) tB') : PW X (.BoolOp .Or (a :: b :: rest) pos) (tOr tA tB') := by
  intro wh pins s σ H Q I h
  refine isTrue_or (thn (ha pins s σ H _ I h) fun c s1 ⟨H1, I1, q1⟩ => ?_)
  cases c with
  | true => exact ⟨H1, I1, q1⟩
  | false => exact hb wh pins s1 σ H1 Q I1 q1
theorem pt_not (ha : PT X a tA) : PT X (.UnaryOp .Not a pos) (tNot tA) := by
  intro pins s σ H Q I h
  exact isTrue_not (ha pins s σ H (fun c H1 => Q (!c) H1) I h)
theorem pe_one {op} {t : TE} (h : PE X a t) : PE X (.BoolOp op [a] pos) t := fun pins s σ H Q I hw => BoolOp_one (h pins s σ H Q I hw)
def tIf (t : TT) (ta tb : TE) : TE := fun σ H Q => t σ H fun c H1 => if c = true then ta σ H1 Q else tb σ H1 Q
theorem pe_ifExp {c : Expr} (hc : PT X c tA) (ha : PE X a ta) (hb : PE X b tb) : PE X (.IfExp c a b pos) (tIf tA ta tb) := by
  intro pins s σ H Q I h
  refine wpAny_IfExp (thn (hc pins s σ H _ I h) fun d s1 ⟨H1, I1, q1⟩ => ?_)
  cases d with
  | true => exact ha pins s1 σ H1 Q I1 q1
  | false => exact hb pins s1 σ H1 Q I1 q1
end
end L2
namespace L2
open PySem PySem.Spec PyProof.Rows
def SqL (K : PySem.W.Frag) (H : Hp) (a : Addr) (xs : List V) : Prop :=
  Rd H a (.lst xs) ∨
    ∃ (o : Obj) (its : Array Value) (n : Nat), K.lookup a = some o ∧ o.cls = .type "list" ∧ o.dict = none ∧ o.data = .seq its n ∧ its.size ≤ sizeLine ∧ Vals xs its.toList
def SqT (K : PySem.W.Frag) (H : Hp) (a : Addr) (xs : List V) : Prop :=
  Rd H a (.tup xs) ∨
    ∃ (o : Obj) (its : Array Value) (n : Nat), K.lookup a = some o ∧ o.cls = .type "tuple" ∧ o.data = .seq its n ∧ its.size ≤ sizeLine ∧ Vals xs its.toList
def absV : Value → Option V
  | .none => some .non
  | .bool b => some (.bl b)
  | .int i _ => some (.int i)
  | .str x _ => some (.str x)
  | .bytes b _ => some (.byt b)
  | .float b _ => some (.flt b)
  | .ref a => some (.ref a)
  | .type n => some (.ty n)
  | _ => none
theorem RelV.abs {x : V} {u : Value} (r : RelV x u) : absV u = some x := by
  cases x with
  | non => cases r; rfl
  | bl _ => cases r; rfl
  | int _ => obtain ⟨t, rfl⟩ := r; rfl
  | str _ => obtain ⟨t, rfl⟩ := r; rfl
  | byt _ => obtain ⟨t, rfl⟩ := r; rfl
  | flt _ => obtain ⟨t, rfl⟩ := r; rfl
  | ref _ => cases r; rfl
  | ty _ => cases r; rfl
theorem RelV.inj {x y : V} {u : Value} (r : RelV x u) (q : RelV y u) : x = y := Option.some.inj (r.abs.symm.trans q.abs)
theorem Vals.inj : ∀ {xs ys : List V} {us : List Value}, Vals xs us → Vals ys us → xs = ys
  | _, _, _, .nil, .nil => rfl
  | _, _, _, .cons r t, .cons r' t' => by rw [r.inj r', Vals.inj t t']
section
variable {X : Cx} {pins : List (Addr × Obj)} {σ : St} {H : Hp} {s : Shared} {a : Addr} {xs ys : List V}
theorem SqL.of {K : PySem.W.Frag} (h : H a = some (.lst xs)) : SqL K H a xs := .inl (.inl h)
theorem SqT.of {K : PySem.W.Frag} (h : H a = some (.tup xs)) : SqT K H a xs := .inl (.inl h)
theorem Inv.list (I : Inv X pins σ H s) (h : SqL X.K H a xs) : ∃ its : List Value, Vals xs its ∧ PlainL s.heap a its.toArray ∧ xs.length ≤ sizeLine := by
  rcases h with h | ⟨o, its, n, hk, hc, hd, hs, hz, r⟩
  · obtain ⟨z, its, n, r, e⟩ := h.ok I.hok
    exact ⟨its, r, ⟨_, n, e, rfl, rfl, rfl⟩, z⟩
  · refine ⟨its.toList, r, ⟨o, n, I.kIn a o hk, hc, hd, by simpa using hs⟩, ?_⟩
    have e := r.length
    simp only [Array.length_toList] at e
    omega
theorem Inv.tuple (I : Inv X pins σ H s) (h : SqT X.K H a xs) : ∃ its : List Value, Vals xs its ∧ IsTup s.heap a its.toArray ∧ xs.length ≤ sizeLine := by
  rcases h with h | ⟨o, its, n, hk, hc, hs, hz, r⟩
  · obtain ⟨z, its, r, p⟩ := h.ok I.hok
    exact ⟨its, r, p, z⟩
  · refine ⟨its.toList, r, ⟨o, I.kIn a o hk, hc, n, by simpa using hs⟩, ?_⟩
    have e := r.length
    simp only [Array.length_toList] at e
    omega
theorem Inv.list_inj (I : Inv X pins σ H s) (h : SqL X.K H a xs) (h' : SqL X.K H a ys) : xs = ys := by
  obtain ⟨its, r, ⟨o, n, e, _, _, d⟩, _⟩ := I.list h
  obtain ⟨its', r', ⟨o', n', e', _, _, d'⟩, _⟩ := I.list h'
  rw [e] at e'; cases e'
  rw [d] at d'
  injection d' with d1 _
  have : its = its' := by simpa using congrArg Array.toList d1
  subst this
  exact r.inj r'
theorem Inv.tuple_inj (I : Inv X pins σ H s) (h : SqT X.K H a xs) (h' : SqT X.K H a ys) : xs = ys := by
  obtain ⟨its, r, ⟨o, e, _, n, d⟩, _⟩ := I.tuple h
  obtain ⟨its', r', ⟨o', e', _, n', d'⟩, _⟩ := I.tuple h'
  rw [e] at e'; cases e'
  rw [d] at d'
  injection d' with d1 _
  have : its = its' := by simpa using congrArg Array.toList d1
  subst this
  exact r.inj r'
end
abbrev Cx.wish (X : Cx) (E : Value → Shared → Prop) : Cx := { X with xe := E }
abbrev Cx.nox (X : Cx) : Cx := X.wish fun _ _ => False
theorem Cx.Ok.wish {X : Cx} (ok : X.Ok) (E : Value → Shared → Prop) : (X.wish E).Ok :=
  ⟨ok.mod, ok.kind, ok.glob, ok.blt, ok.above, ok.inj, ok.has, ok.cab, ok.hd, ok.frames, ok.stk, ok.exf, ok.bs, ok.bsz, ok.noex, ok.exfs, ok.funs, ok.frf⟩
theorem Cx.Ok.unwish {X : Cx} {E : Value → Shared → Prop} (ok : (X.wish E).Ok) : X.Ok :=
  ⟨ok.mod, ok.kind, ok.glob, ok.blt, ok.above, ok.inj, ok.has, ok.cab, ok.hd, ok.frames, ok.stk, ok.exf, ok.bs, ok.bsz, ok.noex, ok.exfs, ok.funs, ok.frf⟩
section
variable {X : Cx} {pins : List (Addr × Obj)} {σ : St} {H : Hp} {s : Shared} {E : Value → Shared → Prop}
theorem Inv.wish (I : Inv X pins σ H s) (E : Value → Shared → Prop) : Inv (X.wish E) pins σ H s := ⟨I.ok.wish E, I.os, I.bare, I.base, I.loc, I.cell, I.free, I.freeC, I.pin, I.hok, I.len⟩
theorem Inv.unwish (I : Inv (X.wish E) pins σ H s) : Inv X pins σ H s := ⟨I.ok.unwish, I.os, I.bare, I.base, I.loc, I.cell, I.free, I.freeC, I.pin, I.hok, I.len⟩
theorem SP.unwish {D : Ends} {f : Flow} {s' : Shared} (h : SP (X.wish E) pins D f s') : SP X pins D f s' := by
  cases f with
  | next => obtain ⟨σ', H', I, q⟩ := h; exact ⟨σ', H', I.unwish, q⟩
  | brk => obtain ⟨σ', H', I, q⟩ := h; exact ⟨σ', H', I.unwish, q⟩
  | cont => obtain ⟨σ', H', I, q⟩ := h; exact ⟨σ', H', I.unwish, q⟩
  | ret u => obtain ⟨v, σ', H', I, r, q⟩ := h; exact ⟨v, σ', H', I.unwish, r, q⟩
theorem PSs.nox {st : List Stmt} {t : TS} (h : PSs X.nox st t) : PSs X st t := fun pins s σ H D I hw =>
  wpAny_mono (h pins s σ H D (I.wish _) hw) (fun _ _ q => q.unwish) fun _ _ z => False.elim z
end
section
variable {X : Cx} {st : Stmt} {rest : List Stmt} {t u : TS} {e : Expr} {te : TE} {pos : Pos}
def tNext : TS := fun D σ H => D.nx σ H
def tSeq (t u : TS) : TS := fun D σ H => t { D with nx := u D } σ H
theorem pss_nil : PSs X [] tNext := fun _ _ σ H _ I h => wpAny_execs_nil ⟨σ, H, I, h⟩
theorem pss_cons (h1 : PS X st t) (h2 : PSs X rest u) : PSs X (st :: rest) (tSeq t u) := by
  intro pins s σ H D I h
  refine wpAny_execs_cons (thn (h1 pins s σ H { D with nx := u D } I h) fun f s1 q => ?_)
  cases f with
  | next =>
    obtain ⟨σ', H', I', q⟩ := q
    exact h2 pins s1 σ' H' D I' q
  | ret v => exact q
  | brk => exact q
  | cont => exact q
def tBreak : TS := fun D σ H => D.bk σ H
def tCont : TS := fun D σ H => D.ct σ H
theorem ps_pass : PS X (.Pass pos) tNext := fun _ _ σ H _ I h => wpAny_Pass ⟨σ, H, I, h⟩
theorem ps_break : PS X (.Break pos) tBreak := fun _ _ σ H _ I h => wpAny_Break ⟨σ, H, I, h⟩
theorem ps_continue : PS X (.Continue pos) tCont := fun _ _ σ H _ I h => wpAny_Continue ⟨σ, H, I, h⟩
theorem Inv.quiet {pins : List (Addr × Obj)} {σ : St} {H : Hp} {s : Shared} (I : Inv X pins σ H s) : interactive X.env = false := by simp [interactive, I.ok.kind]
def tDrop (te : TE) : TS := fun D σ H => te σ H fun _ H1 => D.nx σ H1
theorem ps_expr (he : PE X e te) (hs : swapsWith e none pos.line X.env = pure false := by rfl) : PS X (.Expr e pos) (tDrop te) := by
  intro pins s σ H D I h
  exact wpAny_Expr_any (thn (he pins s σ H _ I h) fun v s1 ⟨x, H1, I1, r1, q1⟩ => ⟨σ, H1, I1, q1⟩) I.quiet hs
def tRet (te : TE) : TS := fun D σ H => te σ H D.rt
theorem ps_ret (he : PE X e te) : PS X (.Return (some e) pos) (tRet te) := by
  intro pins s σ H D I h
  exact wpAny_Return_some (thn (he pins s σ H _ I h) fun v s1 ⟨x, H1, I1, r1, q1⟩ => ⟨x, σ, H1, I1, r1, q1⟩)
def tRetN : TS := fun D _ H => D.rt .non H
theorem ps_retN : PS X (.Return none pos) tRetN := fun _ _ σ H _ I h => wpAny_Return_none ⟨.non, σ, H, I, rfl, h⟩
def tIfS (c : TT) (t u : TS) : TS := fun D σ H => c σ H fun b H1 => if b = true then t D σ H1 else u D σ H1
theorem ps_if {c : Expr} {a b : List Stmt} {tc : TT} (hc : PT X c tc) (ha : PSs X a t) (hb : PSs X b u) : PS X (.If c a b pos) (tIfS tc t u) := by
  intro pins s σ H D I h
  refine wpAny_If (thn (hc pins s σ H _ I h) fun d s1 ⟨H1, I1, q1⟩ => ?_)
  cases d with
  | true => exact ha pins s1 σ H1 D I1 q1
  | false => exact hb pins s1 σ H1 D I1 q1
end
abbrev TG := V → St → Hp → (St → Hp → Prop) → Prop
abbrev TGs := List V → St → Hp → (St → Hp → Prop) → Prop
def PG (X : Cx) (target : Expr) (t : TG) : Prop :=
  ∀ (pins : List (Addr × Obj)) (s : Shared) (σ : St) (H : Hp) (v : V) (u : Value) (Q : St → Hp → Prop), Inv X pins σ H s → RelV v u → t v σ H Q →
    wpAny (model X.prog X.w) X.A (assign target X.env u) (fun _ s' => ∃ σ' H', Inv X pins σ' H' s' ∧ Q σ' H') X.xe s
def PGs (X : Cx) (ts : List Expr) (t : TGs) : Prop :=
  ∀ (pins : List (Addr × Obj)) (s : Shared) (σ : St) (H : Hp) (vs : List V) (us : List Value) (Q : St → Hp → Prop), Inv X pins σ H s → Vals vs us → t vs σ H Q →
    wpAny (model X.prog X.w) X.A (assignInOrder ((assignEach ts X.env).map (·.2)) us) (fun _ s' => ∃ σ' H', Inv X pins σ' H' s' ∧ Q σ' H') X.xe s
abbrev TSet := V → V → V → Hp → (Hp → Prop) → Prop
def PSet (X : Cx) (t : TSet) : Prop :=
  ∀ (pins : List (Addr × Obj)) (s : Shared) (σ : St) (H : Hp) (o i v : V) (ov iv u : Value) (Q : Hp → Prop), Inv X pins σ H s → RelV o ov → RelV i iv → RelV v u → t o i v H Q →
    wpAny (model X.prog X.w) X.A (setItem ov iv u) (fun _ s' => ∃ H', Inv X pins σ H' s' ∧ Q H') X.xe s
section
variable {X : Cx} {pos : Pos}
def gName (i : Nat) : TG := fun v σ H Q => Q (σ.set i (some v)) H
theorem pg_name {i : Nat} {x : Str} (hN : X.N.Nodup) (hi : X.N[i]? = some x) (hx : Loc X.env.scope x) (hf : X.fn x = true ∨ X.env.scope.names.lookup x = some .local := by first | exact .inl rfl | exact .inr rfl | assumption) : PG X (.Name x pos) (gName i) := by
  intro pins s σ H v u Q I r h
  exact wpAny_assign_Name (store_ok I hN hi hx r (fun s' I' => ⟨_, H, I', h⟩) hf)
def gNil : TGs := fun vs σ H Q => vs = [] ∧ Q σ H
def gCons (t : TG) (u : TGs) : TGs := fun vs σ H Q => ∃ v r, vs = v :: r ∧ t v σ H fun σ' H' => u r σ' H' Q
theorem pgs_nil : PGs X [] gNil := by
  intro pins s σ H vs us Q I r h
  obtain ⟨e, h⟩ := h
  subst e
  cases r
  exact assignInOrder_nil ⟨σ, H, I, h⟩
theorem pgs_cons {e : Expr} {es : List Expr} {t : TG} {u : TGs} (h1 : PG X e t) (h2 : PGs X es u)
    (hs : (assignEach (e :: es) X.env).map (·.2) = assign e X.env :: (assignEach es X.env).map (·.2) := by rfl) : PGs X (e :: es) (gCons t u) := by
  intro pins s σ H vs us Q I r h
  obtain ⟨v, vr, e1, h⟩ := h
  subst e1
  cases r with
  | cons r rr =>
    rw [hs]
    refine assignInOrder_cons (thn (h1 pins s σ H _ _ _ I r h) fun _ s1 ⟨σ1, H1, I1, q1⟩ => ?_)
    exact h2 pins s1 σ1 H1 _ _ Q I1 rr q1
def gTup (K : PySem.W.Frag) (n : Nat) (t : TGs) : TG := fun v σ H Q => ∃ a xs, v = .ref a ∧ SqT K H a xs ∧ xs.length = n ∧ t xs σ H Q
theorem pg_tup {es : List Expr} {k : Nat} {t : TGs} {n : Nat} (hc : X.calm = true) (h : PGs X es t)
    (hn : (assignEach es X.env).length = n := by rfl) (hst : (assignEach es X.env).findIdx? (·.1) = none := by rfl) : PG X (.Tuple es k pos) (gTup X.K n t) := by
  intro pins s σ H v u Q I r hw
  obtain ⟨a, xs, e1, hq, hl, hw⟩ := hw
  subst e1
  cases r
  obtain ⟨its, rv, ht, hz⟩ := I.tuple hq
  refine assign_Tuple_tuple (I.ok.hd hc) ht (by simp [hn, ← hl, rv.length]) hst fun h' hx => ?_
  have I1 : Inv X pins σ H { s with heap := h' } := I.kept (t' := s.toks) fun b o e => hx b o (Nat.ne_of_lt (Heap.lt_size e)) e
  exact h pins _ σ H xs _ Q I1 (by simpa using rv) hw
def gSub (to ti : TE) (t : TSet) : TG := fun v σ H Q => to σ H fun o H1 => ti σ H1 fun i H2 => t o i v H2 fun H3 => Q σ H3
theorem pg_sub {o i : Expr} {to ti : TE} {t : TSet} (ho : PE X o to) (hi : PE X i ti) (hs : PSet X t)
    (ha : ∀ v, assign (.Subscript o i pos) X.env v = (do
      let ov ← holding [v] (eval o X.env)
      let iv ← holding [v, ov] (eval i X.env)
      standAt pos
      holding [v, ov, iv] (setItem ov iv v)
      release [v, ov, iv] []) := by intro _; rfl) : PG X (.Subscript o i pos) (gSub to ti t) := by
  intro pins s σ H v u Q I r h
  rw [ha]
  refine wpAny_bind (wpAny_holding (thn (ho pins s σ H _ I h) fun ov s1 ⟨x, H1, I1, r1, q1⟩ => ?_))
  refine wpAny_bind (wpAny_holding (thn (hi pins s1 σ H1 _ I1 q1) fun iv s2 ⟨y, H2, I2, r2, q2⟩ => ?_))
  refine wpAny_bind (wpAny_standAt (wpAny_bind (wpAny_holding (thn (hs pins s2 σ H2 x y v ov iv u _ I2 r1 r2 r q2) fun _ s3 ⟨H3, I3, q3⟩ => ?_))))
  exact wpAny_release ⟨σ, H3, I3, q3⟩
def tAsg (te : TE) (g : TG) : TS := fun D σ H => te σ H fun x H1 => g x σ H1 D.nx
theorem ps_asg {tg e : Expr} {te : TE} {g : TG} (he : PE X e te) (hg : PG X tg g) (hs : swapsWithSole [tg] e pos.line X.env = pure false := by rfl) (hw : swappedStores [tg] e X.env = pure none := by rfl)
    (h1 : (assignEach [tg] X.env).map (·.2) = [assign tg X.env] := by rfl) : PS X (.Assign [tg] e pos) (tAsg te g) := by
  intro pins s σ H D I h
  refine wpAny_Assign_stores (thn (he pins s σ H _ I h) fun v s1 ⟨x, H1, I1, r1, q1⟩ => ?_) hs hw
  rw [h1]
  exact thn (hg pins s1 σ H1 x v _ I1 r1 q1) fun _ s2 q => q
theorem ps_set {i : Nat} {x : Str} {e : Expr} {te : TE} {pos' : Pos} (hN : X.N.Nodup) (hi : X.N[i]? = some x) (hx : Loc X.env.scope x) (he : PE X e te) (hs : swapsWith e (some (.Name x pos')) pos.line X.env = pure false := by rfl) (hf : X.fn x = true ∨ X.env.scope.names.lookup x = some .local := by first | exact .inl rfl | exact .inr rfl | assumption) :
    PS X (.Assign [.Name x pos'] e pos) (tAsg te (gName i)) := by
  intro pins s σ H D I h
  refine wpAny_Assign_Name (thn (he pins s σ H _ I h) fun v s1 ⟨y, H1, I1, r1, q1⟩ => ?_) hs
  exact store_ok I1 hN hi hx r1 (fun s2 I2 => ⟨_, H1, I2, q1⟩) hf
end
section
variable {X : Cx} {pos : Pos}
end
structure It where
  go : Nat → Hp → Prop
  yld : Nat → Hp → V → Hp → Prop
  stop : Nat → Hp → Prop
def FpOk (X : Cx) (pins : List (Addr × Obj)) (H : Hp) (b : Addr) : Prop :=
  H b = none ∧ b ≠ X.env.locals ∧ b ∉ X.fs ∧ (b ∈ X.ex ∨ X.s₀.heap.objs.size ≤ b) ∧ (∀ x c, X.env.cells.lookup x = some c → c ≠ b) ∧ ∀ p ∈ X.pn ++ pins, p.1 ≠ b
theorem Inv.fpOk {X : Cx} {pins : List (Addr × Obj)} {σ : St} {H H' : Hp} {s : Shared} {b : Addr} (I : Inv X pins σ H s) (hb : s.heap.objs.size ≤ b) (hn : H' b = none) : FpOk X pins H' b := by
  refine ⟨hn, Nat.ne_of_gt (Nat.lt_of_lt_of_le I.lt hb), I.nofs hb, .inr (Nat.le_trans I.sz hb), fun x c e z => ?_, fun p hp z => ?_⟩
  · obtain ⟨v, q⟩ := I.cell x c e
    exact absurd (Nat.lt_of_lt_of_le q.lt (by rw [z]; exact hb)) (Nat.lt_irrefl _)
  · exact absurd (Nat.lt_of_lt_of_le (Heap.lt_size (I.pin p hp).1) (by rw [z]; exact hb)) (Nat.lt_irrefl _)
structure Turn (P : Program) (w : World) (K : PySem.W.Frag) (tg : Expr) (J : It) (fp : List Addr) (it : Addr) (tn : Nat → Heap → Prop) : Prop where
  mem : it ∈ fp
  obj : ∀ i h, tn i h → ∀ b ∈ fp, ∃ o, h.get? b = some o ∧ ∀ v, o.data ≠ .cell v
  keep : ∀ i h h', tn i h → (∀ b ∈ fp, ∀ o, h.get? b = some o → h'.get? b = some o) → tn i h'
  item : ∀ (X : Cx), X.prog = P → X.w = w → X.K = K → X.calm = true → ∀ (i : Nat) (pins : List (Addr × Obj)) (s : Shared) (σ : St) (H : Hp) (E : Value → Shared → Prop), Inv X pins σ H s → (∀ b ∈ fp, FpOk X pins H b) → tn i s.heap → J.go i H →
    wpAny (model P w) X.A (pyNext (.ref it)) (fun r s1 => ∃ u, r = some u ∧
      wpAny (model P w) X.A (letOwnedTupleGo tg (.ref it) u) (fun _ s2 => ∃ x H', Inv X pins σ H' s2 ∧ RelV x u ∧ J.yld i H x H' ∧ tn (i + 1) s2.heap ∧ ∀ b ∈ fp, H' b = none) E s1) E s
  done : ∀ (X : Cx), X.prog = P → X.w = w → X.K = K → X.calm = true → ∀ (i : Nat) (pins : List (Addr × Obj)) (s : Shared) (σ : St) (H : Hp) (E : Value → Shared → Prop), Inv X pins σ H s → (∀ b ∈ fp, FpOk X pins H b) → tn i s.heap → J.stop i H →
    wpAny (model P w) X.A (pyNext (.ref it)) (fun r s1 => r = none ∧ Inv X pins σ H s1) E s
  self : ∀ (A : Around) (i : Nat) (s : Shared) (Q : Value → Shared → Prop) (E : Value → Shared → Prop), tn i s.heap → Q (.ref it) s → wpAny (model P w) A (pyIter (.ref it)) Q E s
abbrev TI := St → Hp → (It → Hp → Prop) → Prop
def PIE (X : Cx) (pins : List (Addr × Obj)) (σ : St) (tg : Expr) (R : It → Hp → Prop) (itv : Value) (s2 : Shared) : Prop :=
  ∃ (it : Addr) (fp : List Addr) (tn : Nat → Heap → Prop) (J : It) (H' : Hp), itv = .ref it ∧ Inv X pins σ H' s2 ∧ Turn X.prog X.w X.K tg J fp it tn ∧ tn 0 s2.heap ∧ (∀ b ∈ fp, FpOk X pins H' b) ∧ R J H'
def PI (X : Cx) (tg iter : Expr) (wi : TI) : Prop :=
  ∀ (pins : List (Addr × Obj)) (s : Shared) (σ : St) (H : Hp) (R : It → Hp → Prop), Inv X pins σ H s → wi σ H R →
    wpAny (model X.prog X.w) X.A (eval iter X.env) (fun v s1 => wpAny (model X.prog X.w) X.A (pyIter v) (PIE X pins σ tg R) X.xe s1) X.xe s
theorem go_of {M : Model} {A : Around} {E : Value → Shared → Prop} {s : Shared} {tg : Expr} {it : Addr} {u : Value} {o : Obj} {n : String} {vs : Array Value} {Q : Unit → Shared → Prop} (ho : s.heap.get? it = some o) (hc : o.cls = .type n) (hd : o.data = .fields vs)
    (hn : ["enumerate", "zip", "dict_itemiterator", "dict_reverseitemiterator", "odict_iterator", "itertools.zip_longest", "itertools.pairwise"].contains n = false) (hQ : Q () s) : wpAny M A (letOwnedTupleGo tg (.ref it) u) Q E s := by
  unfold letOwnedTupleGo
  cases tg <;> first
    | exact wpAny_pure hQ
    | (cases u <;> first
        | exact wpAny_pure hQ
        | (refine wpAny_bind (wpAny_load ho ?_)
           rw [hc, hd]
           show wpAny M A (if (["enumerate", "zip", "dict_itemiterator", "dict_reverseitemiterator", "odict_iterator", "itertools.zip_longest", "itertools.pairwise"].contains n && vs[0]? == some (rawInt _)) = true then _ else _) Q E s
           rw [if_neg (by intro h; rw [hn, Bool.false_and] at h; cases h)]
           exact wpAny_pure hQ))
def Itl (K : PySem.W.Frag) (a : Addr) : It :=
  ⟨fun i H => ∃ xs x, SqL K H a xs ∧ xs[i]? = some x, fun i H x H' => H' = H ∧ ∀ xs, SqL K H a xs → xs[i]? = some x, fun i H => ∃ xs, SqL K H a xs ∧ xs.length ≤ i⟩
def Itt (K : PySem.W.Frag) (a : Addr) : It :=
  ⟨fun i H => ∃ xs x, SqT K H a xs ∧ xs[i]? = some x, fun i H x H' => H' = H ∧ ∀ xs, SqT K H a xs → xs[i]? = some x, fun i H => ∃ xs, SqT K H a xs ∧ xs.length ≤ i⟩
def Itr (lo : Int) (n : Nat) : It := ⟨fun i _ => i < n, fun i H x H' => H' = H ∧ x = .int (lo + i), fun i _ => n ≤ i⟩
theorem turn_list {P : Program} {w : World} {K : PySem.W.Frag} {tg : Expr} (a it : Addr) : Turn P w K tg (Itl K a) [it] it (fun i h => h.IsListIter it a i) where
  mem := by simp
  obj := fun i h st b hb => by
    have e : b = it := by simpa using hb
    subst e
    obtain ⟨o, e, c, d⟩ := st
    exact ⟨o, e, fun v z => by rw [d] at z; cases z⟩
  keep := fun i h h' st k => st.at fun o e => k it (by simp) o e
  item := by
    intro X hP hw hK hc i pins s σ H E I hf st hg
    subst hP hw hK
    obtain ⟨xs, x, hq, hx⟩ := hg
    obtain ⟨its, rv, p, hz⟩ := I.list hq
    obtain ⟨u, hu, ru⟩ := rv.get hx
    obtain ⟨f0, f1, f2, f3, f4, f5⟩ := hf it (by simp)
    refine wpAny_pyNext_list_item st p.isList (x := u) (by simpa using hu) fun h' st' sb => ?_
    have I1 : Inv X pins σ H { s with heap := h' } := I.turned (t' := s.toks) (fun b o hb e => (sb.2 b hb).trans e) f0 f1 f3 f4 f5
    obtain ⟨o, e, c, d⟩ := id st'
    exact ⟨u, rfl, go_of (s := { s with heap := h' }) e c d (by decide) ⟨x, H, I1, ru, ⟨rfl, fun ys hy => by rw [I.list_inj hy hq]; exact hx⟩, st', fun b hb => (hf b hb).1⟩⟩
  done := by
    intro X hP hw hK hc i pins s σ H E I hf st hg
    subst hP hw hK
    obtain ⟨xs, hq, hx⟩ := hg
    obtain ⟨its, rv, p, hz⟩ := I.list hq
    obtain ⟨f0, f1, f2, f3, f4, f5⟩ := hf it (by simp)
    have hl := rv.length
    exact wpAny_pyNext_list_end (I.ok.hd hc) st p.isList (by simp; omega) fun h' eb => ⟨rfl, I.turned (t' := s.toks) (fun b o hb e => eb b o hb e) f0 f1 f3 f4 f5⟩
  self := fun _ _ _ _ _ st h => wpAny_pyIter_listiter st h
theorem turn_tuple {P : Program} {w : World} {K : PySem.W.Frag} {tg : Expr} (a it : Addr) : Turn P w K tg (Itt K a) [it] it (fun i h => h.IsTupleIter it a i) where
  mem := by simp
  obj := fun i h st b hb => by
    have e : b = it := by simpa using hb
    subst e
    obtain ⟨o, e, c, d⟩ := st
    exact ⟨o, e, fun v z => by rw [d] at z; cases z⟩
  keep := fun i h h' st k => st.at fun o e => k it (by simp) o e
  item := by
    intro X hP hw hK hc i pins s σ H E I hf st hg
    subst hP hw hK
    obtain ⟨xs, x, hq, hx⟩ := hg
    obtain ⟨its, rv, p, hz⟩ := I.tuple hq
    obtain ⟨u, hu, ru⟩ := rv.get hx
    obtain ⟨f0, f1, f2, f3, f4, f5⟩ := hf it (by simp)
    refine wpAny_pyNext_tuple_item st (show s.heap.IsTuple a its.toArray from p) (x := u) (by simpa using hu) fun h' st' sb => ?_
    have I1 : Inv X pins σ H { s with heap := h' } := I.turned (t' := s.toks) (fun b o hb e => (sb.2 b hb).trans e) f0 f1 f3 f4 f5
    obtain ⟨o, e, c, d⟩ := id st'
    exact ⟨u, rfl, go_of (s := { s with heap := h' }) e c d (by decide) ⟨x, H, I1, ru, ⟨rfl, fun ys hy => by rw [I.tuple_inj hy hq]; exact hx⟩, st', fun b hb => (hf b hb).1⟩⟩
  done := by
    intro X hP hw hK hc i pins s σ H E I hf st hg
    subst hP hw hK
    obtain ⟨xs, hq, hx⟩ := hg
    obtain ⟨its, rv, p, hz⟩ := I.tuple hq
    obtain ⟨f0, f1, f2, f3, f4, f5⟩ := hf it (by simp)
    have hl := rv.length
    exact wpAny_pyNext_tuple_end (I.ok.hd hc) st (show s.heap.IsTuple a its.toArray from p) (by simp; omega) fun h' eb => ⟨rfl, I.turned (t' := s.toks) (fun b o hb e => eb b o hb e) f0 f1 f3 f4 f5⟩
  self := fun _ _ _ _ _ st h => wpAny_pyIter_tupleiter st h
theorem turn_range {P : Program} {w : World} {K : PySem.W.Frag} {tg : Expr} (it : Addr) (lo : Int) (n : Nat) : Turn P w K tg (Itr lo n) [it] it (fun i h => IsRangeIter h it (lo + (i : Nat) * 1) ((n : Int) - (i : Nat)) 1) where
  mem := by simp
  obj := fun i h st b hb => by
    have e : b = it := by simpa using hb
    subst e
    exact ⟨_, st, fun v z => by
      have z' : Data.fields _ = Data.cell v := z
      cases z'⟩
  keep := fun i h h' st k => k it (by simp) _ st
  item := by
    intro X hP hw hK hc i pins s σ H E I hf st hg
    subst hP hw hK
    obtain ⟨f0, f1, f2, f3, f4, f5⟩ := hf it (by simp)
    have W := Walks.range (prog := X.prog) (w := X.w) (I.ok.hd hc) it lo 1 n
    refine W.item i s _ _ hg st fun v h' tk hv st' kk => ?_
    obtain ⟨t, rfl⟩ := hv
    have I1 : Inv X pins σ H { s with heap := h', toks := tk } := I.turned (fun b o hb e => kk b o (by simpa using hb) e) f0 f1 f3 f4 f5
    refine ⟨_, rfl, go_of (s := { s with heap := h', toks := tk }) (n := "range_iterator") st' rfl rfl (by decide) ⟨.int (lo + i), H, I1, ⟨t, ?_⟩, ⟨rfl, rfl⟩, st', fun b hb => (hf b hb).1⟩⟩
    rw [Int.mul_one]
  done := by
    intro X hP hw hK hc i pins s σ H E I hf st hg
    subst hP hw hK
    obtain ⟨f0, f1, f2, f3, f4, f5⟩ := hf it (by simp)
    exact wpAny_pyNext_range_end (I.ok.hd hc) st (by have : n ≤ i := hg; omega) fun h' eb => ⟨rfl, I.turned (t' := s.toks) (fun b o hb e => eb b o hb e) f0 f1 f3 f4 f5⟩
  self := fun _ _ _ _ _ st h => wpAny_pyIter_rangeiter st h
end L2
namespace L2
open PySem PySem.Spec PyProof.Rows
section
variable {X : Cx} {tg : Expr}
theorem range_it {pins : List (Addr × Obj)} {σ : St} {H : Hp} {s : Shared} {R : It → Hp → Prop} {E : Value → Shared → Prop} {lo hi : Int} {t u v : Tok} {tk : Nat} (I : Inv X pins σ H s) (h1 : -(2 ^ 62) ≤ lo) (h2 : lo < 2 ^ 62) (h3 : -(2 ^ 62) ≤ hi) (h4 : hi < 2 ^ 62)
    (q : R (Itr lo (hi - lo).toNat) H) : wpAny (model X.prog X.w) X.A (pyIter (.ref s.heap.objs.size)) (PIE X pins σ tg R) E { s with heap := s.heap.push { cls := .type "range", data := .fields #[.int lo t, .int hi u, .int 1 v] }, toks := tk } := by
  refine wpAny_pyIter_range (IsRange.new ..) (small_one h1 h2 h3 h4) ?_
  have I1 : Inv X pins σ H { s with heap := s.heap.push { cls := .type "range", data := .fields #[.int lo t, .int hi u, .int 1 v] }, toks := tk } := I.kept fun b o e => Heap.get?_push_of_some _ e
  refine ⟨(s.heap.push { cls := .type "range", data := .fields #[.int lo t, .int hi u, .int 1 v] }).objs.size, [(s.heap.push { cls := .type "range", data := .fields #[.int lo t, .int hi u, .int 1 v] }).objs.size], _, _, H, rfl,
    I1.kept (t' := tk) fun b o e => Heap.get?_push_of_some _ e, turn_range _ lo (hi - lo).toNat, ?_, fun b hb => ?_, q⟩
  · have e1 : lo + ((0 : Nat) : Int) * 1 = lo := by simp
    have e2 : (((hi - lo).toNat : Nat) : Int) - ((0 : Nat) : Int) = Builtin.Range.rangeSize lo hi 1 := by rw [rangeSize_one]; split <;> omega
    show IsRangeIter _ _ (lo + ((0 : Nat) : Int) * 1) ((((hi - lo).toNat : Nat) : Int) - ((0 : Nat) : Int)) 1
    rw [e1, e2]
    exact Heap.get?_push_size _ rfl
  · have e : b = (s.heap.push { cls := .type "range", data := .fields #[.int lo t, .int hi u, .int 1 v] }).objs.size := by simpa using hb
    subst e
    exact I1.fpOk (Nat.le_refl _) (I1.hok.fresh (Nat.le_refl _))
def tFor (wi : TI) (g : TG) (tb : TS) : TS := fun D σ H => wi σ H fun J H1 => ∃ W : Nat → Nat → St → Hp → Prop, (∃ m, W 0 m σ H1) ∧ ∀ i m σ H, W i m σ H →
  (J.stop i H ∧ D.nx σ H) ∨ (J.go i H ∧ ∃ N : St → Hp → Prop, (∀ σ' H', N σ' H' → ∃ m', m' < m ∧ W (i + 1) m' σ' H') ∧ ∀ x H', J.yld i H x H' → g x σ H' fun σ2 H2 => tb { D with nx := N, ct := N, bk := D.nx } σ2 H2)
def pinsAt (fp : List Addr) (h : Heap) : List (Addr × Obj) := fp.filterMap fun b => (h.get? b).map fun o => (b, o)
theorem mem_pinsAt {fp : List Addr} {h : Heap} {b : Addr} {o : Obj} (hb : b ∈ fp) (e : h.get? b = some o) : (b, o) ∈ pinsAt fp h := List.mem_filterMap.mpr ⟨b, hb, by rw [e]; rfl⟩
theorem of_pinsAt {fp : List Addr} {h : Heap} {p : Addr × Obj} (hp : p ∈ pinsAt fp h) : p.1 ∈ fp ∧ h.get? p.1 = some p.2 := by
  obtain ⟨b, hb, e⟩ := List.mem_filterMap.mp hp
  cases q : h.get? b with
  | none => rw [q] at e; cases e
  | some o =>
    rw [q] at e
    have e' : (b, o) = p := Option.some.inj e
    subst e'
    exact ⟨hb, q⟩
theorem Inv.pinned {pins : List (Addr × Obj)} {σ : St} {H : Hp} {s : Shared} {fp : List Addr} (I : Inv X pins σ H s) (hf : ∀ b ∈ fp, FpOk X pins H b) (ho : ∀ b ∈ fp, ∃ o, s.heap.get? b = some o ∧ ∀ v, o.data ≠ .cell v) : Inv X (pins ++ pinsAt fp s.heap) σ H s :=
  I.pins_of fun p hp => (List.mem_append.mp hp).elim (fun z => I.pin p (List.mem_append_right _ z)) fun z => by
    obtain ⟨hb, e⟩ := of_pinsAt z
    obtain ⟨f0, f1, f2, _⟩ := hf p.1 hb
    obtain ⟨o, e', d⟩ := ho p.1 hb
    rw [e] at e'; cases e'
    exact ⟨e, f0, f1, f2, d⟩
theorem Inv.unpinned {pins pl : List (Addr × Obj)} {σ : St} {H : Hp} {s : Shared} (I : Inv X (pins ++ pl) σ H s) : Inv X pins σ H s := I.pins_of fun p hp => I.pin p (List.mem_append_right _ (List.mem_append_left _ hp))
theorem ps_for {iter : Expr} {body : List Stmt} {wi : TI} {g : TG} {tb : TS} {pos : Pos} (hp : PassesOwn (model X.prog X.w) X.A X.env X.xe) (hc : X.calm = true) (hi : PI X tg iter wi) (hg : PG X tg g) (hb : PSs X body tb)
    (hs : ∀ x, foldedSetIterable iter X.env x = pure x := by intro _; rfl) : PS X (.For tg iter body [] pos) (tFor wi g tb) := by
  intro pins s σ H D I h
  refine wpAny_For (thn (hi pins s σ H _ I h) fun v s1 h1 => thn h1 fun itv s2 h2 => ?_) hs
  obtain ⟨it, fp, tn, J, H2, e, I2, T, st2, f2, W, ⟨m0, w0⟩, turn⟩ := h2
  subst e
  have stat : ∀ {H' : Hp}, (∀ b ∈ fp, H' b = none) → ∀ b ∈ fp, FpOk X pins H' b := fun hn b hb => ⟨hn b hb, (f2 b hb).2⟩
  refine codeAny_forLoop_any (fun n s' => ∃ i σ' H', Inv X pins σ' H' s' ∧ tn i s'.heap ∧ (∀ b ∈ fp, H' b = none) ∧ W i n σ' H') ?_ m0 ⟨0, σ, H2, I2, st2, fun b hb => (f2 b hb).1, w0⟩
  rintro n s3 ⟨i, σ3, H3, I3, st3, fr3, w3⟩
  rcases turn i n σ3 H3 w3 with ⟨stop, qn⟩ | ⟨go, N, hN, step⟩
  · refine wpAny_passesOwn hp (thn (T.done X rfl rfl rfl hc i pins s3 σ3 H3 X.xe I3 (stat fr3) st3 stop) fun r s4 ⟨hr, I4⟩ => ?_)
    subst hr
    exact wpAny_execs_nil ⟨σ3, H3, I4, qn⟩
  · refine wpAny_passesOwn hp (thn (T.item X rfl rfl rfl hc i pins s3 σ3 H3 X.xe I3 (stat fr3) st3 go) fun r s4 ⟨u, hr, h4⟩ => ?_)
    subst hr
    refine wpAny_passesOwn hp (thn h4 fun _ s5 ⟨x, H5, I5, r5, y5, st5, fr5⟩ => ?_)
    have I5' := I5.pinned (stat fr5) (T.obj _ _ st5)
    refine wpAny_passesOwn hp (thn (hg _ s5 σ3 H5 x u _ I5' r5 (step x H5 y5)) fun _ s6 ⟨σ6, H6, I6, q6⟩ => ?_)
    refine wpAny_passesOwn hp (thn (hb _ s6 σ6 H6 _ I6 q6) fun f s7 q7 => ?_)
    have again : ∀ {σ7 : St} {H7 : Hp}, Inv X (pins ++ pinsAt fp s5.heap) σ7 H7 s7 → N σ7 H7 → ∃ m, m < n ∧ ∃ i σ' H', Inv X pins σ' H' s7 ∧ tn i s7.heap ∧ (∀ b ∈ fp, H' b = none) ∧ W i m σ' H' := fun {σ7 H7} I7 n7 => by
      obtain ⟨m', hm, w7⟩ := hN σ7 H7 n7
      refine ⟨m', hm, i + 1, σ7, H7, I7.unpinned, T.keep _ _ _ st5 fun b hb o e => (I7.pin (b, o) (List.mem_append_right _ (List.mem_append_right _ (mem_pinsAt hb e)))).1, fun b hb => ?_, w7⟩
      obtain ⟨o, e, d⟩ := T.obj _ _ st5 b hb
      exact (I7.pin (b, o) (List.mem_append_right _ (List.mem_append_right _ (mem_pinsAt hb e)))).2.1
    cases f with
    | next => obtain ⟨σ7, H7, I7, n7⟩ := q7; exact again I7 n7
    | cont => obtain ⟨σ7, H7, I7, n7⟩ := q7; exact again I7 n7
    | brk => obtain ⟨σ7, H7, I7, q7⟩ := q7; exact ⟨σ7, H7, I7.unpinned, q7⟩
    | ret v => obtain ⟨x7, σ7, H7, I7, r7, q7⟩ := q7; exact ⟨x7, σ7, H7, I7.unpinned, r7, q7⟩
end
end L2
namespace L2
open PySem PySem.Spec PyProof.Rows
abbrev R2 := V → V → Hp → VK → Prop
def OpR (X : Cx) (f : Value → Value → Sem Value) (r : R2) : Prop :=
  ∀ (pins : List (Addr × Obj)) (s : Shared) (σ : St) (H : Hp) (x y : V) (v u : Value) (Q : VK), Inv X pins σ H s → RelV x v → RelV y u → r x y H Q →
    wpAny (model X.prog X.w) X.A (f v u) (EP X pins σ Q) X.xe s
def UnR (X : Cx) (f : Value → Sem Value) (r : V → Hp → VK → Prop) : Prop :=
  ∀ (pins : List (Addr × Obj)) (s : Shared) (σ : St) (H : Hp) (x : V) (v : Value) (Q : VK), Inv X pins σ H s → RelV x v → r x H Q →
    wpAny (model X.prog X.w) X.A (f v) (EP X pins σ Q) X.xe s
def CallR (X : Cx) (f : Value) (r : List V → Hp → VK → Prop) : Prop :=
  ∀ (pins : List (Addr × Obj)) (s : Shared) (σ : St) (H : Hp) (xs : List V) (us : List Value) (Q : VK), Inv X pins σ H s → Vals xs us → r xs H Q →
    wpAny (model X.prog X.w) X.A (call f us) (EP X pins σ Q) X.xe s
def TruR (X : Cx) (r : V → Hp → (Bool → Hp → Prop) → Prop) : Prop :=
  ∀ (pins : List (Addr × Obj)) (s : Shared) (σ : St) (H : Hp) (x : V) (v : Value) (Q : Bool → Hp → Prop), Inv X pins σ H s → RelV x v → r x H Q →
    wpAny (model X.prog X.w) X.A (truthy v) (TP X pins σ Q) X.xe s
def tOp (r : R2) (ta tb : TE) : TE := fun σ H Q => ta σ H fun x H1 => tb σ H1 fun y H2 => r x y H2 Q
def tUn (r : V → Hp → VK → Prop) (ta : TE) : TE := fun σ H Q => ta σ H fun x H1 => r x H1 Q
def rI (C : Int → Int → Prop) (g : Int → Int → V) : R2 := fun x y H Q => ∃ i j, x = .int i ∧ y = .int j ∧ C i j ∧ Q (g i j) H
def rI0 (g : Int → Int → V) : R2 := fun x y H Q => ∃ i j, x = .int i ∧ y = .int j ∧ Q (g i j) H
def rU (g : Int → V) : V → Hp → VK → Prop := fun x H Q => ∃ i, x = .int i ∧ Q (g i) H
section
variable {X : Cx} {a b c : Expr} {ta tb tc : TE} {pos : Pos}
theorem binT (ha : PE X a ta) (hb : PE X b tb) {pins : List (Addr × Obj)} {s : Shared} {σ : St} {H : Hp} {R : V → V → Hp → Prop} (I : Inv X pins σ H s)
    (h : ta σ H fun x H1 => tb σ H1 fun y H2 => R x y H2) {Q : Value → Shared → Prop} {f : Value → Value → Sem Value}
    (hf : ∀ v u s2 x y H2, Inv X pins σ H2 s2 → RelV x v → RelV y u → R x y H2 → wpAny (model X.prog X.w) X.A (f v u) Q X.xe s2) :
    wpAny (model X.prog X.w) X.A (eval a X.env) (fun v s₁ => wpAny (model X.prog X.w) X.A (eval b X.env) (fun u s₂ => wpAny (model X.prog X.w) X.A (f v u) Q X.xe s₂) X.xe s₁) X.xe s := by
  refine thn (ha pins s σ H _ I h) fun v s1 ⟨x, H1, I1, r1, q1⟩ => ?_
  refine thn (hb pins s1 σ H1 _ I1 q1) fun u s2 ⟨y, H2, I2, r2, q2⟩ => ?_
  exact hf v u s2 x y H2 I2 r1 r2 q2
theorem pe_op {op : Operator} {r : R2} (ho : OpR X (binaryOp op) r) (ha : PE X a ta) (hb : PE X b tb) : PE X (.BinOp a op b pos) (tOp r ta tb) := by
  intro pins s σ H Q I h
  exact wpAny_BinOp (binT ha hb I h fun v u s2 x y H2 I2 rx ry q => ho pins s2 σ H2 x y v u Q I2 rx ry q)
theorem pe_un {op : UnaryOp} {r : V → Hp → VK → Prop} (ho : UnR X (unaryOp op) r) (ha : PE X a ta) : PE X (.UnaryOp op a pos) (tUn r ta) := by
  intro pins s σ H Q I h
  exact UnaryOp_ (thn (ha pins s σ H _ I h) fun v s1 ⟨x, H1, I1, r1, q1⟩ => ho pins s1 σ H1 x v Q I1 r1 q1)
theorem opI {f : Value → Value → Sem Value} {C : Int → Int → Prop} {g : Int → Int → Int}
    (rule : ∀ (i j : Int) (t u : Tok) (s : Shared) (Q : Value → Shared → Prop) (E : Value → Shared → Prop), C i j → Q (.int (g i j) s.toks) { s with toks := s.toks + 1 } → wpAny (model X.prog X.w) X.A (f (.int i t) (.int j u)) Q E s) :
    OpR X f (rI C fun i j => .int (g i j)) := by
  intro pins s σ H x y v u Q I rx ry h
  obtain ⟨i, j, rfl, rfl, hc, q⟩ := h
  obtain ⟨t, rfl⟩ := rx
  obtain ⟨t', rfl⟩ := ry
  exact rule i j t t' s _ _ hc ⟨.int (g i j), H, I.tok _, ⟨_, rfl⟩, q⟩
theorem opI0 {f : Value → Value → Sem Value} {g : Int → Int → Int}
    (rule : ∀ (i j : Int) (t u : Tok) (s : Shared) (Q : Value → Shared → Prop) (E : Value → Shared → Prop), Q (.int (g i j) s.toks) { s with toks := s.toks + 1 } → wpAny (model X.prog X.w) X.A (f (.int i t) (.int j u)) Q E s) :
    OpR X f (rI0 fun i j => .int (g i j)) := by
  intro pins s σ H x y v u Q I rx ry h
  obtain ⟨i, j, rfl, rfl, q⟩ := h
  obtain ⟨t, rfl⟩ := rx
  obtain ⟨t', rfl⟩ := ry
  exact rule i j t t' s _ _ ⟨.int (g i j), H, I.tok _, ⟨_, rfl⟩, q⟩
theorem opB0 {f : Value → Value → Sem Value} {g : Int → Int → Bool}
    (rule : ∀ (i j : Int) (t u : Tok) (s : Shared) (Q : Value → Shared → Prop) (E : Value → Shared → Prop), Q (.bool (g i j)) s → wpAny (model X.prog X.w) X.A (f (.int i t) (.int j u)) Q E s) :
    OpR X f (rI0 fun i j => .bl (g i j)) := by
  intro pins s σ H x y v u Q I rx ry h
  obtain ⟨i, j, rfl, rfl, q⟩ := h
  obtain ⟨t, rfl⟩ := rx
  obtain ⟨t', rfl⟩ := ry
  exact rule i j t t' s _ _ ⟨.bl (g i j), H, I, rfl, q⟩
def CDiv (i j : Int) : Prop := 0 < j ∧ j < 1073741824
def CPow (i j : Int) : Prop := 0 ≤ j ∧ j ≤ 1000000 ∧ i.natAbs < 2 ^ 64
def CMul (i j : Int) : Prop := (-(2 ^ 64) < i ∧ i < 2 ^ 64) ∨ (-(2 ^ 64) < j ∧ j < 2 ^ 64)
theorem CMul.ok {i j : Int} (h : CMul i j) : IntMulOk i j := by
  rcases h with ⟨h1, h2⟩ | ⟨h1, h2⟩
  · exact .of_left (intBits_le_64 h1 h2)
  · exact .of_right (intBits_le_64 h1 h2)
theorem two_pow_nn (k : Nat) : (0 : Int) ≤ 2 ^ k := by
  rw [two_pow_cast]
  exact Int.natCast_nonneg _
theorem op_add : OpR X (binaryOp .Add) (rI0 fun i j => .int (i + j)) := opI0 fun _ _ _ _ _ _ _ q => add_int q
theorem op_sub : OpR X (binaryOp .Sub) (rI0 fun i j => .int (i - j)) := opI0 fun _ _ _ _ _ _ _ q => sub_int q
theorem op_mul : OpR X (binaryOp .Mult) (rI CMul fun i j => .int (i * j)) := opI fun _ _ _ _ _ _ _ hc q => mul_int q hc.ok
theorem op_fdiv : OpR X (binaryOp .FloorDiv) (rI CDiv fun i j => .int (i / j)) := opI fun i j _ _ _ _ _ hc q => by
  have h1 : (0 : Int) < j := hc.1
  have h2 : j < 1073741824 := hc.2
  exact floordiv_int (by omega) (by rw [Int.fdiv_eq_ediv_of_nonneg i (by omega)]; exact q) (.inl (PyProof.noPylong_small (by omega)))
theorem op_mod : OpR X (binaryOp .Mod) (rI (fun _ j => 0 < j) fun i j => .int (i % j)) := opI fun i j _ _ _ _ _ hc q => by
  have h1 : (0 : Int) < j := hc
  exact mod_int' (by omega) (by rw [Int.fmod_eq_emod_of_nonneg i (by omega)]; exact q)
theorem op_pow : OpR X (binaryOp .Pow) (rI CPow fun i j => .int (i ^ j.toNat)) := opI fun _ _ _ _ _ _ _ hc q => pow_int_small hc.1 hc.2.1 hc.2.2 q
theorem op_shl : OpR X (binaryOp .LShift) (rI CPow fun i j => .int (i * 2 ^ j.toNat)) := opI fun _ _ _ _ _ _ _ hc q => lshift_int_small hc.1 hc.2.1 hc.2.2 q
theorem op_shr : OpR X (binaryOp .RShift) (rI (fun _ j => 0 ≤ j) fun i j => .int (i / 2 ^ j.toNat)) := opI fun i j _ _ _ _ _ hc q =>
  rshift_int hc (by rw [Int.fdiv_eq_ediv_of_nonneg i (two_pow_nn _)]; exact q)
theorem op_and : OpR X (binaryOp .BitAnd) (rI0 fun i j => .int (Builtin.bitAnd i j)) := opI0 fun _ _ _ _ _ _ _ q => and_int q
theorem op_or : OpR X (binaryOp .BitOr) (rI0 fun i j => .int (Builtin.bitOr i j)) := opI0 fun _ _ _ _ _ _ _ q => or_int q
theorem unI {f : Value → Sem Value} {g : Int → Int}
    (rule : ∀ (i : Int) (t : Tok) (s : Shared) (Q : Value → Shared → Prop) (E : Value → Shared → Prop), Q (.int (g i) s.toks) { s with toks := s.toks + 1 } → wpAny (model X.prog X.w) X.A (f (.int i t)) Q E s) :
    UnR X f (rU fun i => .int (g i)) := by
  intro pins s σ H x v Q I rx h
  obtain ⟨i, rfl, q⟩ := h
  obtain ⟨t, rfl⟩ := rx
  exact rule i t s _ _ ⟨.int (g i), H, I.tok _, ⟨_, rfl⟩, q⟩
theorem un_neg : UnR X (unaryOp .USub) (rU fun i => .int (-i)) := unI fun _ _ _ _ _ q => neg_int q
theorem un_inv : UnR X (unaryOp .Invert) (rU fun i => .int (Builtin.bitNot i)) := unI fun _ _ _ _ _ q => invert_int q
end
def scal : V → V → Bool
  | .non, .non => true | .non, .int _ => true | .int _, .non => true | .non, .bl _ => true | .bl _, .non => true | .non, .str _ => true | .str _, .non => true
  | .int _, .int _ => true | .bl _, .bl _ => true | .str _, .str _ => true | .byt _, .byt _ => true
  | .int _, .str _ => true | .str _, .int _ => true | .bl _, .str _ => true | .str _, .bl _ => true
  | _, _ => false
def rEq : R2 := fun x y H Q => scal x y = true ∧ Q (.bl (decide (x = y))) H
def rNe : R2 := fun x y H Q => scal x y = true ∧ Q (.bl (!decide (x = y))) H
theorem dec_int {i j : Int} : decide (V.int i = V.int j) = (i == j) := by
  rw [Bool.eq_iff_iff]
  simp
theorem dec_bl {i j : Bool} : decide (V.bl i = V.bl j) = (i == j) := by
  rw [Bool.eq_iff_iff]
  simp
theorem dec_str {i j : Str} : decide (V.str i = V.str j) = (i == j) := by
  rw [Bool.eq_iff_iff]
  simp
theorem dec_byt {i j : Array UInt8} : decide (V.byt i = V.byt j) = (i.toList == j.toList) := by
  rw [Bool.eq_iff_iff]
  cases i
  cases j
  simp
section
variable {X : Cx} {a b c : Expr} {ta tb tc : TE} {pos : Pos}
theorem fin_bl {pins : List (Addr × Obj)} {σ : St} {H : Hp} {s : Shared} {Q : VK} {k k' : Bool} (I : Inv X pins σ H s) (q : Q (.bl k) H) (e : k = k') : EP X pins σ Q (.bool k') s := by
  subst e
  exact ⟨.bl k, H, I, rfl, q⟩
theorem op_eq : OpR X (compareOp .Eq) rEq := by
  intro pins s σ H x y v u Q I rx ry h
  obtain ⟨hs, q⟩ := h
  cases x with
  | non =>
    cases rx
    cases y with
    | non => cases ry; exact PySem.EqNone.eq_none_none (fin_bl I q (by simp))
    | bl j => cases ry; exact PySem.EqNone.eq_none_bool (fin_bl I q (by simp))
    | int j => obtain ⟨t', rfl⟩ := ry; exact PySem.EqNone.eq_none_int (fin_bl I q (by simp))
    | str j => obtain ⟨t', rfl⟩ := ry; exact PySem.EqNone.eq_none_str (fin_bl I q (by simp))
    | _ => exact absurd (show false = true from hs) Bool.false_ne_true
  | bl i =>
    cases rx
    cases y with
    | non => cases ry; exact PySem.EqNone.eq_bool_none (fin_bl I q (by simp))
    | bl j => cases ry; exact eq_bool (fin_bl I q dec_bl)
    | str j => obtain ⟨t', rfl⟩ := ry; exact PySem.EqMixed.eq_bool_str (fin_bl I q (by simp))
    | _ => exact absurd (show false = true from hs) Bool.false_ne_true
  | int i =>
    obtain ⟨t, rfl⟩ := rx
    cases y with
    | non => cases ry; exact PySem.EqNone.eq_int_none (fin_bl I q (by simp))
    | int j => obtain ⟨t', rfl⟩ := ry; exact eq_int (fin_bl I q dec_int)
    | str j => obtain ⟨t', rfl⟩ := ry; exact PySem.EqMixed.eq_int_str (fin_bl I q (by simp))
    | _ => exact absurd (show false = true from hs) Bool.false_ne_true
  | str i =>
    obtain ⟨t, rfl⟩ := rx
    cases y with
    | non => cases ry; exact PySem.EqNone.eq_str_none (fin_bl I q (by simp))
    | bl j => cases ry; exact PySem.EqMixed.eq_str_bool (fin_bl I q (by simp))
    | int j => obtain ⟨t', rfl⟩ := ry; exact PySem.EqMixed.eq_str_int (fin_bl I q (by simp))
    | str j => obtain ⟨t', rfl⟩ := ry; exact eq_str (fin_bl I q dec_str)
    | _ => exact absurd (show false = true from hs) Bool.false_ne_true
  | byt i =>
    obtain ⟨t, rfl⟩ := rx
    cases y with
    | byt j => obtain ⟨t', rfl⟩ := ry; exact PySem.W.eq_bytes (fin_bl I q dec_byt)
    | _ => exact absurd (show false = true from hs) Bool.false_ne_true
  | _ => cases y <;> exact absurd (show false = true from hs) Bool.false_ne_true
theorem op_ne : OpR X (compareOp .NotEq) rNe := by
  intro pins s σ H x y v u Q I rx ry h
  obtain ⟨hs, q⟩ := h
  cases x with
  | non =>
    cases rx
    cases y with
    | non => cases ry; exact PySem.EqNone.ne_none_none (fin_bl I q (by simp))
    | bl j => cases ry; exact PySem.EqNone.ne_none_bool (fin_bl I q (by simp))
    | int j => obtain ⟨t', rfl⟩ := ry; exact PySem.EqNone.ne_none_int (fin_bl I q (by simp))
    | str j => obtain ⟨t', rfl⟩ := ry; exact PySem.EqNone.ne_none_str (fin_bl I q (by simp))
    | _ => exact absurd (show false = true from hs) Bool.false_ne_true
  | bl i =>
    cases rx
    cases y with
    | non => cases ry; exact PySem.EqNone.ne_bool_none (fin_bl I q (by simp))
    | bl j => cases ry; exact ne_bool (fin_bl I q (congrArg not dec_bl))
    | str j => obtain ⟨t', rfl⟩ := ry; exact PySem.EqMixed.ne_bool_str (fin_bl I q (by simp))
    | _ => exact absurd (show false = true from hs) Bool.false_ne_true
  | int i =>
    obtain ⟨t, rfl⟩ := rx
    cases y with
    | non => cases ry; exact PySem.EqNone.ne_int_none (fin_bl I q (by simp))
    | int j => obtain ⟨t', rfl⟩ := ry; exact ne_int (fin_bl I q (congrArg not dec_int))
    | str j => obtain ⟨t', rfl⟩ := ry; exact PySem.EqMixed.ne_int_str (fin_bl I q (by simp))
    | _ => exact absurd (show false = true from hs) Bool.false_ne_true
  | str i =>
    obtain ⟨t, rfl⟩ := rx
    cases y with
    | non => cases ry; exact PySem.EqNone.ne_str_none (fin_bl I q (by simp))
    | bl j => cases ry; exact PySem.EqMixed.ne_str_bool (fin_bl I q (by simp))
    | int j => obtain ⟨t', rfl⟩ := ry; exact PySem.EqMixed.ne_str_int (fin_bl I q (by simp))
    | str j => obtain ⟨t', rfl⟩ := ry; exact ne_str (fin_bl I q (congrArg not dec_str))
    | _ => exact absurd (show false = true from hs) Bool.false_ne_true
  | byt i =>
    obtain ⟨t, rfl⟩ := rx
    cases y with
    | byt j => obtain ⟨t', rfl⟩ := ry; exact PySem.W.ne_bytes (fin_bl I q (congrArg not dec_byt))
    | _ => exact absurd (show false = true from hs) Bool.false_ne_true
  | _ => cases y <;> exact absurd (show false = true from hs) Bool.false_ne_true
theorem op_lt : OpR X (compareOp .Lt) (rI0 fun i j => .bl (decide (i < j))) := opB0 fun _ _ _ _ _ _ _ q => lt_int q
theorem op_le : OpR X (compareOp .LtE) (rI0 fun i j => .bl (decide (i ≤ j))) := opB0 fun _ _ _ _ _ _ _ q => le_int q
theorem op_gt : OpR X (compareOp .Gt) (rI0 fun i j => .bl (decide (j < i))) := opB0 fun _ _ _ _ _ _ _ q => gt_int q
theorem op_ge : OpR X (compareOp .GtE) (rI0 fun i j => .bl (decide (j ≤ i))) := opB0 fun _ _ _ _ _ _ _ q => ge_int q
theorem op_lt_str : OpR X (compareOp .Lt) (fun x y H Q => ∃ i j, x = .str i ∧ y = .str j ∧ Q (.bl (decide (i.cps.toList < j.cps.toList))) H) := by
  intro pins s σ H x y v u Q I rx ry h
  obtain ⟨i, j, rfl, rfl, q⟩ := h
  obtain ⟨t, rfl⟩ := rx
  obtain ⟨t', rfl⟩ := ry
  exact lt_str (fin_bl I q rfl)
theorem op_isN : OpR X (compareOp .Is) (fun x y H Q => y = .non ∧ Q (.bl (decide (x = .non))) H) := by
  intro pins s σ H x y v u Q I rx ry h
  obtain ⟨rfl, q⟩ := h
  cases ry
  refine is_none_gen (fin_bl I q ?_)
  cases x <;> first
    | (cases rx; rfl)
    | (obtain ⟨t, rfl⟩ := rx; rfl)
theorem op_notN : OpR X (compareOp .IsNot) (fun x y H Q => y = .non ∧ Q (.bl (!decide (x = .non))) H) := by
  intro pins s σ H x y v u Q I rx ry h
  obtain ⟨rfl, q⟩ := h
  cases ry
  refine isnot_none_gen (fin_bl I q ?_)
  cases x <;> first
    | (cases rx; rfl)
    | (obtain ⟨t, rfl⟩ := rx; rfl)
theorem OpR.or {f : Value → Value → Sem Value} {r r' : R2} (h : OpR X f r) (h' : OpR X f r') : OpR X f (fun x y H Q => r x y H Q ∨ r' x y H Q) := by
  intro pins s σ H x y v u Q I rx ry q
  rcases q with q | q
  · exact h pins s σ H x y v u Q I rx ry q
  · exact h' pins s σ H x y v u Q I rx ry q
theorem pe_cmpR {op : CmpOp} {r : R2} (ho : OpR X (compareOp op) r) (ha : PE X a ta) (hb : PE X b tb) (hm : behindInMarks op b = false) : PE X (.Compare a [op] [b] pos) (tOp r ta tb) := by
  intro pins s σ H Q I h
  exact wpAny_Compare1 (binT ha hb I h fun v u s2 x y H2 I2 rx ry q => ho pins s2 σ H2 x y v u Q I2 rx ry q) hm
def TruV (K : PySem.W.Frag) (x : V) (H : Hp) (k : Bool) : Prop :=
  match x with
  | .non => k = false
  | .bl b => k = b
  | .int i => k = (i != 0)
  | .str y => y.length ≤ sizeLine ∧ k = ((y.length : Int) != 0)
  | .byt y => y.size ≤ sizeLine ∧ k = ((y.size : Int) != 0)
  | .ref p => (∃ xs, SqL K H p xs ∧ k = !xs.isEmpty) ∨ (∃ xs, SqT K H p xs ∧ k = !xs.isEmpty) ∨ ∃ kvs, H p = some (.dK kvs) ∧ k = !kvs.isEmpty
  | _ => False
theorem isEmpty_kv {κ : Type} {kvs : List (κ × V)} {vs : List (κ × Value)} (r : KV kvs vs) : (!vs.isEmpty) = !kvs.isEmpty := by
  cases r <;> rfl
theorem isEmpty_of {xs : List V} {its : List Value} (r : Vals xs its) : (!its.toArray.isEmpty) = !xs.isEmpty := by
  cases r <;> simp
theorem line63 : (sizeLine : Nat) < 2 ^ 63 := by rw [sizeLine_eq]; decide
theorem tru_ok : TruR X (fun x H Q => ∃ k, TruV X.K x H k ∧ Q k H) := by
  intro pins s σ H x v Q I rx h
  obtain ⟨k, e, q⟩ := h
  have hl := line63
  have hs : sizeLine = 16777216 := sizeLine_eq
  cases x with
  | non =>
    cases rx
    have e' : k = false := e
    subst e'
    exact truthy_none ⟨H, I, q⟩
  | bl b =>
    cases rx
    have e' : k = b := e
    subst e'
    exact wpAny_truthy_bool ⟨H, I, q⟩
  | int i =>
    obtain ⟨t, rfl⟩ := rx
    have e' : k = (i != 0) := e
    subst e'
    exact PySem.P.truthy_int ⟨H, I, q⟩
  | str y =>
    obtain ⟨t, rfl⟩ := rx
    obtain ⟨hy, e'⟩ : y.length ≤ sizeLine ∧ k = ((y.length : Int) != 0) := e
    subst e'
    exact PySem.P.truthy_str (by omega) ⟨H, I.tok _, q⟩
  | byt y =>
    obtain ⟨t, rfl⟩ := rx
    obtain ⟨hy, e'⟩ : y.size ≤ sizeLine ∧ k = ((y.size : Int) != 0) := e
    subst e'
    exact PySem.W.truthy_bytes (by omega) ⟨H, I.tok _, q⟩
  | ref p =>
    cases rx
    have e' : (∃ xs, SqL X.K H p xs ∧ k = !xs.isEmpty) ∨ (∃ xs, SqT X.K H p xs ∧ k = !xs.isEmpty) ∨ ∃ kvs, H p = some (.dK kvs) ∧ k = !kvs.isEmpty := e
    rcases e' with ⟨xs, hx, e'⟩ | ⟨xs, hx, e'⟩ | ⟨kvs, hx, e'⟩
    · subst e'
      obtain ⟨its, r, pl, hz⟩ := I.list hx
      have hlen := r.length
      exact wpAny_truthy_list pl.isList (by simp only [List.size_toArray]; omega) ⟨H, I.tok _, by rw [isEmpty_of r]; exact q⟩
    · subst e'
      obtain ⟨its, r, pl, hz⟩ := I.tuple hx
      have hlen := r.length
      exact truthy_tuple pl (by simp only [List.size_toArray]; omega) ⟨H, I.tok _, by rw [isEmpty_of r]; exact q⟩
    · subst e'
      obtain ⟨hz, hS, vs, r, m⟩ : kvs.length ≤ sizeLine ∧ (p == sysModules) = false ∧ ∃ vs, KV kvs vs ∧ s.heap.DictOf (mixKind X.prog X.w) p vs := I.hok p _ hx
      have hlen : kvs.length = vs.length := Paired.length r
      exact wpAny_truthy_dict hS m (by omega) ⟨H, I.tok _, by rw [isEmpty_kv r]; exact q⟩
  | _ => exact (show False from e).elim
theorem op_add_str : OpR X (binaryOp .Add) (fun x y H Q => ∃ i j, x = .str i ∧ y = .str j ∧ i.length + j.length ≤ sizeLine ∧ Q (.str (i ++ j)) H) := by
  intro pins s σ H x y v u Q I rx ry h
  obtain ⟨i, j, rfl, rfl, hz, q⟩ := h
  obtain ⟨t, rfl⟩ := rx
  obtain ⟨t', rfl⟩ := ry
  exact add_str (fun t' tk => ⟨.str (i ++ j), H, I.tok _, ⟨_, rfl⟩, q⟩) hz
theorem vals1 {x : V} {us : List Value} (r : Vals [x] us) : ∃ u, us = [u] ∧ RelV x u := by
  cases r with
  | cons r1 r2 => cases r2; exact ⟨_, rfl, r1⟩
theorem vals2 {x y : V} {us : List Value} (r : Vals [x, y] us) : ∃ u w', us = [u, w'] ∧ RelV x u ∧ RelV y w' := by
  cases r with
  | cons r1 r2 =>
    cases r2 with
    | cons r3 r4 => cases r4; exact ⟨_, _, rfl, r1, r3⟩
theorem call_int1 : CallR X (.type "int") (fun xs H Q => (∃ i, xs = [.int i] ∧ Q (.int i) H) ∨ ∃ k, xs = [.bl k] ∧ Q (.int (if k then 1 else 0)) H) := by
  intro pins s σ H xs us Q I r h
  rcases h with ⟨i, rfl, q⟩ | ⟨k, rfl, q⟩
  · obtain ⟨u, rfl, t, rfl⟩ := vals1 r
    exact call_int_int ⟨.int i, H, I, ⟨_, rfl⟩, q⟩
  · obtain ⟨u, rfl, r1⟩ := vals1 r
    cases r1
    exact call_int_bool ⟨.int (if k then 1 else 0), H, I.tok _, ⟨_, rfl⟩, q⟩
end
end L2
namespace L2
open PySem PySem.Spec PyProof.Rows
structure ObjM (h : Heap) (x dx C : Addr) (mA : Str → Option Value) : Prop where
  obj : h.get? x = some (PySem.W.instObj C dx)
  ns : h.Ns1 dx mA
  ne : dx ≠ x
theorem lookIn_ns {h : Heap} {dx : Addr} {mA : Str → Option Value} (n : h.Ns1 dx mA) : ∃ od, h.get? dx = some od ∧ ∀ name, PySem.W.lookIn name od = some (mA name) := by
  obtain ⟨o, es, ep, ho, hd, hk, _, hm⟩ := n
  refine ⟨o, ho, fun name => ?_⟩
  have e := hm name
  unfold nsFind findBy at e
  rw [← Array.find?_toList] at e
  unfold PySem.W.lookIn
  rw [hd]
  dsimp only
  split
  · rename_i y q
    rw [q] at e
    exact congrArg some e
  · rename_i q
    rw [q] at e
    have a : es.toList.any (·.refKey) = false := by
      rw [List.any_eq_false]
      intro y hy
      obtain ⟨z, t, hkey⟩ := hk y (Array.mem_toList_iff.mp hy)
      simp [DictEntry.refKey, hkey]
    have a' : ¬ es.toList.any (·.refKey) = true := by rw [a]; exact Bool.false_ne_true
    rw [if_neg a']
    exact congrArg some e
theorem ObjM.look {h : Heap} {x dx C : Addr} {mA : Str → Option Value} (I : ObjM h x dx C mA) : ∃ od, PySem.W.InstAt h x (PySem.W.instObj C dx) C (some od) ∧ ∀ name, PySem.W.lookIn name od = some (mA name) :=
  let ⟨od, ho, hl⟩ := lookIn_ns I.ns
  ⟨od, ⟨I.obj, rfl, rfl, ho⟩, hl⟩
section
variable {prog : Program} {w : World} {A : Around} {E : Value → Shared → Prop} {s : Shared} {K : PySem.W.Frag} {x dx C f : Addr} {mA : Str → Option Value} {name : Str} {v : Value}
theorem get_map {expr : Bool} {Q : Value → Shared → Prop} (X : K.In s.heap) (I : ObjM s.heap x dx C mA) (hg : PySem.W.plainGet K C name = true) (hh : PySem.W.hasDictIn K C = true)
    (ha : PySem.W.findIn K (.ref C) name = some none) (hv : mA name = some v) (hv' : PySem.W.handedIn v = true) (h : Q v { s with toks := s.toks + 1 }) :
    wpAny (model prog w) A (getAttr (.ref x) name expr) Q E s := by
  obtain ⟨od, J, hl⟩ := I.look
  exact PySem.W.get_value X J (PySem.W.plainGet_of hg).1 (PySem.W.findObj_own hh ha rfl (by rw [hl, hv])) hv' h
theorem get_meth {pl : Sem Bool} {Q : Value × List Value → Shared → Prop} (X : K.In s.heap) (I : ObjM s.heap x dx C mA) (hg : PySem.W.plainGet K C name = true)
    (hf : PySem.W.findIn K (.ref C) name = some (some (.ref f))) (ht : PySem.W.isFn K (.ref f) = true) (hv : mA name = none) (h : Q (.ref f, [.ref x]) s) :
    wpAny (model prog w) A (getMethod (.ref x) name pl) Q E s := by
  obtain ⟨od, J, hl⟩ := I.look
  exact PySem.W.method_fn X J (PySem.W.plainGet_of hg).1 (PySem.W.plainGet_of hg).2 hf (beq_iff_eq.mp ht) (by show (PySem.W.lookIn name od).map (·.isSome) = some false; rw [hl, hv]; rfl) h
theorem set_map {ns : List Str} {Q : Unit → Shared → Prop} (X : K.In s.heap) (I : ObjM s.heap x dx C mA)
    (hs : PySem.W.findIn K (.ref C) "__setattr__" = some (some (.builtin "object.__setattr__"))) (hp : PySem.W.plainOver K C = true) (ht : PySem.W.takerIn K C name = some none) (hh : PySem.W.hasDictIn K C = true)
    (hw : PySem.Within mA ns) (hsz : ns.length ≤ sizeLine)
    (h : ∀ h', ObjM h' x dx C (fun y => if y = name then some v else mA y) → Heap.SameBut dx s.heap h' → Q () { s with heap := h', toks := s.toks + 2 }) :
    wpAny (model prog w) A (setAttr (.ref x) name v) Q E s := by
  obtain ⟨od, J, hl⟩ := I.look
  refine PySem.W.set_plain X J hs (PySem.W.osa_open (s := { s with toks := s.toks + 1 }) (r := none) X J hp ht fun b => ?_)
  obtain ⟨cd, hc, hd'⟩ := PySem.W.any_some hh
  have hx : s.heap.get? x = some ⟨.ref C, some dx, .plain, #[]⟩ := I.obj
  refine wpAny_bind (wpAny_pure (wpAny_bind (wpAny_bind (wpAny_loadPart hx (wpAny_bind (PySem.W.Looks.here (s := { s with toks := s.toks + 1 }) (PySem.W.looks_clsIn X hc) ?_))))))
  rw [hd']
  refine wpAny_pure (a := some dx) (wpAny_bind (wpAny_pure (wpAny_bind ?_)))
  refine wpAny_nsSet1 (s := { s with toks := s.toks + 1 }) I.ns fun h' hn2 hs2 => ?_
  obtain ⟨oD, esD, epD, hoD, hdD, hcD⟩ := hn2.count (PySem.Within.cons name v hw)
  refine wpAny_bind (wpAny_lookBehind hoD (by rw [hdD]; exact pastItsLine_dict (Nat.le_trans hcD (by rw [List.length_cons]; omega))) ?_)
  exact wpAny_pure (h _ ⟨(hs2.2 _ (Ne.symm I.ne)).trans I.obj, hn2, I.ne⟩ hs2)
theorem make_map {R : Result → Shared → Prop} {vs : List Value} {kw : List (Str × Value)} (X : K.In s.heap) (hm : PySem.W.makesIn K C = true)
    (hi : PySem.W.findIn K (.ref C) "__init__" = some (some (.ref f))) (hf : PySem.W.typeIn K (.ref f) = some (.type "function"))
    (h : codeAny (model prog w) (A.under (.builtin "type.__call__" ⟨.ref C :: vs, kw⟩)) (.call (.ref f) ⟨.ref (s.heap.objs.size + 1) :: vs, kw⟩) (PySem.W.InitBack (s.heap.objs.size + 1) R)
      { s with heap := (s.heap.push PySem.W.emptyDict).push (PySem.W.instObj C s.heap.objs.size) }) :
    codeAny (model prog w) A (.call (.ref C) ⟨vs, kw⟩) R s := by
  obtain ⟨hh, g, d, t, os⟩ := s
  exact PySem.W.make_core (PySem.W.makes_of X hm) (PySem.W.looks_findIn X hi) (fun self => PySem.W.bind_fn X self hf) (.inl rfl) h
theorem make_map0 {R : Result → Shared → Prop} (X : K.In s.heap) (hm : PySem.W.makesIn K C = true)
    (hi : PySem.W.findIn K (.ref C) "__init__" = some (some (.builtin "object.__init__")))
    (hb : ∀ self, PySem.W.Looks (model prog w) s.heap (bindSpecial (.builtin "object.__init__") self) (.builtin "object.__init__", [self]))
    (h : codeAny (model prog w) (A.under (.builtin "type.__call__" ⟨[.ref C], []⟩)) (.call (.builtin "object.__init__") ⟨[.ref (s.heap.objs.size + 1)], []⟩) (PySem.W.InitBack (s.heap.objs.size + 1) R)
      { s with heap := (s.heap.push PySem.W.emptyDict).push (PySem.W.instObj C s.heap.objs.size) }) :
    codeAny (model prog w) A (.call (.ref C) ⟨[], []⟩) R s := by
  obtain ⟨hh, g, d, t, os⟩ := s
  exact PySem.W.make_core (PySem.W.makes_of X hm) (PySem.W.looks_findIn X hi) hb (.inr ⟨rfl, rfl⟩) h
end
def putF (f : Str) (v : V) : List (Str × V) → List (Str × V)
  | [] => [(f, v)]
  | (g, x) :: r => if g = f then (g, v) :: r else (g, x) :: putF f v r
theorem lookup_putF (f g : Str) (v : V) : ∀ fs : List (Str × V), (putF f v fs).lookup g = if g = f then some v else fs.lookup g
  | [] => by
    show List.lookup g [(f, v)] = _
    by_cases h : g = f
    · have hb : (g == f) = true := beq_iff_eq.mpr h
      simp only [List.lookup, hb, if_pos h]
    · have hb : (g == f) = false := beq_eq_false_iff_ne.mpr h
      simp only [List.lookup, hb, if_neg h]
  | (k, x) :: r => by
    have ih := lookup_putF f g v r
    rw [show putF f v ((k, x) :: r) = (if k = f then (k, v) :: r else (k, x) :: putF f v r) from rfl]
    by_cases hk : k = f
    · rw [if_pos hk]
      by_cases h : g = k
      · have hb : (g == k) = true := beq_iff_eq.mpr h
        simp only [List.lookup, hb, if_pos (h.trans hk)]
      · have hb : (g == k) = false := beq_eq_false_iff_ne.mpr h
        simp only [List.lookup, hb, if_neg (fun e : g = f => h (e.trans hk.symm))]
    · rw [if_neg hk]
      by_cases h : g = k
      · have hb : (g == k) = true := beq_iff_eq.mpr h
        simp only [List.lookup, hb, if_neg (fun e : g = f => hk (h.symm.trans e))]
      · have hb : (g == k) = false := beq_eq_false_iff_ne.mpr h
        simp only [List.lookup, hb]
        exact ih
theorem keys_putF (f : Str) (v : V) : ∀ fs : List (Str × V), f ∈ (putF f v fs).map (·.1) ∧ ∀ g, g ∈ fs.map (·.1) → g ∈ (putF f v fs).map (·.1)
  | [] => ⟨by simp [putF], fun g h => by simp at h⟩
  | (k, x) :: r => by
    obtain ⟨i1, i2⟩ := keys_putF f v r
    rw [show putF f v ((k, x) :: r) = (if k = f then (k, v) :: r else (k, x) :: putF f v r) from rfl]
    by_cases hk : k = f
    · rw [if_pos hk]
      subst hk
      exact ⟨by simp, fun g h => by simpa using h⟩
    · rw [if_neg hk]
      refine ⟨?_, fun g h => ?_⟩
      · rw [List.map_cons]
        exact List.mem_cons_of_mem _ i1
      · rw [List.map_cons] at h ⊢
        rcases List.mem_cons.mp h with e | e
        · exact List.mem_cons.mpr (.inl e)
        · exact List.mem_cons_of_mem _ (i2 g e)
theorem length_putF (f : Str) (v : V) : ∀ fs : List (Str × V), (putF f v fs).length ≤ fs.length + 1
  | [] => by simp [putF]
  | (k, x) :: r => by
    have ih := length_putF f v r
    rw [show putF f v ((k, x) :: r) = (if k = f then (k, v) :: r else (k, x) :: putF f v r) from rfl]
    by_cases hk : k = f
    · rw [if_pos hk, List.length_cons, List.length_cons]; omega
    · rw [if_neg hk, List.length_cons, List.length_cons]; omega
theorem RelO.some_of {v : V} {o : Option Value} (r : RelO (some v) o) : ∃ u, o = some u ∧ RelV v u := by
  cases o with
  | none => exact (show False from r).elim
  | some u => exact ⟨u, rfl, r⟩
theorem RelO.none_of {o : Option Value} (r : RelO none o) : o = none := by
  cases o with
  | none => rfl
  | some u => exact (show False from r).elim
theorem handed_of {v : V} {u : Value} (r : RelV v u) : PySem.W.handedIn u = true := by
  cases v with
  | non => cases (show u = Value.none from r); rfl
  | bl b => cases (show u = Value.bool b from r); rfl
  | int i => obtain ⟨t, e⟩ := (show ∃ t, u = Value.int i t from r); cases e; rfl
  | str x => obtain ⟨t, e⟩ := (show ∃ t, u = Value.str x t from r); cases e; rfl
  | byt b => obtain ⟨t, e⟩ := (show ∃ t, u = Value.bytes b t from r); cases e; rfl
  | flt b => obtain ⟨t, e⟩ := (show ∃ t, u = Value.float b t from r); cases e; rfl
  | ref a => cases (show u = Value.ref a from r); rfl
  | ty n => cases (show u = Value.type n from r); rfl
section
variable {P : Program} {w : World} {H H' : Hp} {h h' : Heap} {a C dx : Addr} {fs fs' : List (Str × V)}
theorem ins_get (hok : HOk P w H h) (e : H a = some (.ins C dx fs)) : ∃ mA, ObjM h a dx C mA ∧ (∀ f, RelO (fs.lookup f) (mA f)) ∧ PySem.Within mA (fs.map (·.1)) ∧ fs.length ≤ 1000 ∧ H dx = some (.own a) := by
  obtain ⟨d, z, ne, ob, mA, n, r, q⟩ := (show ObjOk P w H h a (.ins C dx fs) from hok a _ e)
  exact ⟨mA, ⟨ob, n, ne⟩, r, q, z, d⟩
end
structure Cls (K : PySem.W.Frag) (C : Addr) : Prop where
  pg : PySem.W.plainGet K C Str.empty = true
  hd : PySem.W.hasDictIn K C = true
  po : PySem.W.plainOver K C = true
  sa : PySem.W.findIn K (.ref C) "__setattr__" = some (some (.builtin "object.__setattr__"))
theorem Cls.get {K : PySem.W.Frag} {C : Addr} (c : Cls K C) (f : Str) : PySem.W.plainGet K C f = true := c.pg
def NoAttr (K : PySem.W.Frag) (C : Addr) (f : Str) : Prop := PySem.W.findIn K (.ref C) f = some none
theorem NoAttr.taker {K : PySem.W.Frag} {C : Addr} {f : Str} (n : NoAttr K C f) : PySem.W.takerIn K C f = some none := by
  unfold PySem.W.takerIn
  rw [show PySem.W.findIn K (.ref C) f = some none from n]
  rfl
structure Meth (K : PySem.W.Frag) (C : Addr) (m : Str) (f : Addr) : Prop where
  at_ : PySem.W.findIn K (.ref C) m = some (some (.ref f))
  fn : PySem.W.isFn K (.ref f) = true
  kp : PySem.W.keepIn K (.ref f) = true
section
variable {X : Cx} {pins : List (Addr × Obj)} {σ : St} {H : Hp} {s : Shared} {a C dx : Addr} {fs : List (Str × V)} {f : Str} {v : V} {A : Around} {E : Value → Shared → Prop}
theorem getattr_ok {b : Bool} {Q : Value → Shared → Prop} (I : Inv X pins σ H s) (e : H a = some (.ins C dx fs)) (c : Cls X.K C) (n : NoAttr X.K C f) (l : fs.lookup f = some v)
    (h : ∀ u s', Inv X pins σ H s' → RelV v u → Q u s') : wpAny (model X.prog X.w) A (getAttr (.ref a) f b) Q E s := by
  obtain ⟨mA, O, r, _, _, _⟩ := ins_get I.hok e
  obtain ⟨u, hu, ru⟩ := RelO.some_of (v := v) (o := mA f) (by rw [← l]; exact r f)
  exact get_map I.kIn O (c.get f) c.hd n hu (handed_of ru) (h u _ (I.tok _) ru)
theorem getmeth_ok {m : Str} {g : Addr} {pl : Sem Bool} {Q : Value × List Value → Shared → Prop} (I : Inv X pins σ H s) (e : H a = some (.ins C dx fs)) (c : Cls X.K C) (k : Meth X.K C m g) (l : fs.lookup m = none)
    (h : Q (.ref g, [.ref a]) s) : wpAny (model X.prog X.w) A (getMethod (.ref a) m pl) Q E s := by
  obtain ⟨mA, O, r, _, _, _⟩ := ins_get I.hok e
  have hn : mA m = none := RelO.none_of (by rw [← l]; exact r m)
  exact get_meth I.kIn O (c.get m) k.at_ k.fn hn h
theorem setattr_ok {y : V} {u : Value} {Q : Unit → Shared → Prop} (I : Inv X pins σ H s) (e : H a = some (.ins C dx fs)) (c : Cls X.K C) (n : NoAttr X.K C f) (hl : fs.length < 1000) (ry : RelV y u)
    (h : ∀ s', Inv X pins σ (upd H a (.ins C dx (putF f y fs))) s' → Q () s') : wpAny (model X.prog X.w) A (setAttr (.ref a) f u) Q E s := by
  obtain ⟨mA, O, r, wi, _, ho⟩ := ins_get I.hok e
  have hz : (fs.map (·.1)).length ≤ sizeLine := by rw [List.length_map, sizeLine_eq]; omega
  refine set_map I.kIn O c.sa c.po n.taker c.hd wi hz fun h' O' sb => h _ ?_
  have hd : ∃ o, h'.get? dx = some o := let ⟨o, _, _, e', _⟩ := O'.ns; ⟨o, e'⟩
  refine I.write (x := a) (e := dx) (by rw [e]; exact True.intro) (.inr ho) (fun b q hb z => (sb.2 b hb).trans z) hd ?_
  refine ⟨by rw [upd_ne O.ne]; exact ho, ?_, O.ne, O'.obj, _, O'.ns, fun g => ?_, fun g hg => ?_⟩
  · have := length_putF f y fs; omega
  · show RelO ((putF f y fs).lookup g) (if g = f then some u else mA g)
    rw [lookup_putF]
    by_cases q : g = f
    · rw [if_pos q, if_pos q]; exact ry
    · rw [if_neg q, if_neg q]; exact r g
  · by_cases q : g = f
    · rw [q]; exact (keys_putF f y fs).1
    · refine (keys_putF f y fs).2 g (wi g fun z => hg ?_)
      show (if g = f then some u else mA g) = none
      rw [if_neg q]; exact z
theorem Inv.made (I : Inv X pins σ H s) : Inv X pins σ (upd (upd H s.heap.objs.size (.own (s.heap.objs.size + 1))) (s.heap.objs.size + 1) (.ins C s.heap.objs.size []))
    { s with heap := (s.heap.push PySem.W.emptyDict).push (PySem.W.instObj C s.heap.objs.size) } := by
  have e1 : (s.heap.push PySem.W.emptyDict).get? s.heap.objs.size = some PySem.W.emptyDict := Heap.get?_push_size s.heap rfl
  have e2 : ((s.heap.push PySem.W.emptyDict).push (PySem.W.instObj C s.heap.objs.size)).get? (s.heap.objs.size + 1) = some (PySem.W.instObj C s.heap.objs.size) := by
    have := Heap.get?_push_size (s.heap.push PySem.W.emptyDict) (o := PySem.W.instObj C s.heap.objs.size) rfl
    rwa [Heap.size_push] at this
  have e3 : (s.heap.push PySem.W.emptyDict).Ns s.heap.objs.size (fun _ => none) := ⟨PySem.W.emptyDict, #[], _, e1, rfl, (fun e he => absurd he (by simp)), fun _ => rfl⟩
  have I1 := I.laid (a := s.heap.objs.size) (o := .own (s.heap.objs.size + 1)) (h' := s.heap.push PySem.W.emptyDict) (t' := s.toks) (fun b u q => Heap.get?_push_of_some _ q) (Nat.le_refl _) ⟨_, e1⟩
  refine I1.laid (a := s.heap.objs.size + 1) (o := .ins C s.heap.objs.size []) (t' := s.toks) (fun b u q => Heap.get?_push_of_some _ q) (Nat.le_of_eq (Heap.size_push _ _)) ?_
  have ne : s.heap.objs.size ≠ s.heap.objs.size + 1 := Nat.ne_of_lt (Nat.lt_succ_self _)
  refine ⟨by rw [upd_ne ne, upd_same], Nat.zero_le _, ne, e2, fun _ => none, (Heap.Ns1.of_empty e3).at fun o q => Heap.get?_push_of_some _ q, fun _ => True.intro, fun y hy => absurd rfl hy⟩
theorem attr_of {prog : Program} {w : World} {env : Env} {e : Expr} {f : Str} {pos : Pos} {s : Shared} {Q : Value → Shared → Prop} (hb : attributeBase e f env (eval e env) = eval e env)
    (h : wpAny (model prog w) A (eval e env) (fun o s₁ => wpAny (model prog w) A (getAttr o f true) Q E s₁) E s) : wpAny (model prog w) A (eval (.Attribute e f pos) env) Q E s :=
  Attribute_any_ h (by rw [arm_eval_Attribute, hb])
end
section
variable {X : Cx} {o e value : Expr} {f : Str} {pos pos' tpos : Pos} {ta tv : TE}
end
section
variable {X : Cx} {pins : List (Addr × Obj)} {σ : St} {H : Hp} {s : Shared} {A : Around} {E : Value → Shared → Prop} {Q : Value → Shared → Prop} {c : Value} {b : Bool}
inductive TyOf (K : PySem.W.Frag) (H : Hp) : V → Value → Prop where
  | non : TyOf K H .non (.type "NoneType")
  | bl (x : Bool) : TyOf K H (.bl x) (.type "bool")
  | int (i : Int) : TyOf K H (.int i) (.type "int")
  | str (x : Str) : TyOf K H (.str x) (.type "str")
  | flt (x : UInt64) : TyOf K H (.flt x) (.type "float")
  | lst {a : Addr} {xs : List V} (e : H a = some (.lst xs)) : TyOf K H (.ref a) (.type "list")
  | frz {a : Addr} {o : Obj} {xs : List V} (e : H a = some (.frz o (.lst xs))) : TyOf K H (.ref a) (.type "list")
  | tup {a : Addr} {xs : List V} (e : H a = some (.tup xs)) : TyOf K H (.ref a) (.type "tuple")
  | dK {a : Addr} {kvs : List (Key × V)} (e : H a = some (.dK kvs)) : TyOf K H (.ref a) (.type "dict")
  | dT {a : Addr} {kvs : List (List Key × V)} (e : H a = some (.dT kvs)) : TyOf K H (.ref a) (.type "dict")
  | ins {a C dx : Addr} {fs : List (Str × V)} (e : H a = some (.ins C dx fs)) (cl : Cls K C) (ha : PySem.W.findIn K (.ref C) "__class__" = some (some (.builtin "object.__class__")))
      (hn : PySem.W.specialIn K (.builtin "object.__class__") "__get__" = some (some (.builtin "getset_descriptor.__get__"))) (htk : PySem.W.takesIn K (.builtin "object.__class__") = some true)
      (hm : PySem.W.mroIn K C (.type "object") = some true) : TyOf K H (.ref a) (.ref C)
theorem isinst_ok {x : V} {u t : Value} (I : Inv X pins σ H s) (rx : RelV x u) (ty : TyOf X.K H x t) (e : PySem.W.kitOne X.K t c = some b) (h : ∀ tk, Q (.bool b) { s with toks := tk }) :
    wpAny (model X.prog X.w) A (call (.builtin "isinstance") [u, c]) Q E s := by
  cases ty with
  | non => cases (show u = Value.none from rx); exact PySem.W.kia_one PySem.W.kitx_none I.kIn True.intro e (fun z => nomatch z) h
  | bl y => cases (show u = Value.bool y from rx); exact PySem.W.kia_one PySem.W.kitx_bool I.kIn True.intro e (fun z => nomatch z) h
  | int i => obtain ⟨t, q⟩ := (show ∃ t, u = Value.int i t from rx); cases q; exact PySem.W.kia_one PySem.W.kitx_int I.kIn True.intro e (fun z => nomatch z) h
  | str y => obtain ⟨t, q⟩ := (show ∃ t, u = Value.str y t from rx); cases q; exact PySem.W.kia_one PySem.W.kitx_str I.kIn True.intro e (fun z => nomatch z) h
  | flt y => obtain ⟨t, q⟩ := (show ∃ t, u = Value.float y t from rx); cases q; exact PySem.W.kia_one PySem.W.kitx_float I.kIn True.intro e (fun z => nomatch z) h
  | @lst a xs ea =>
    cases (show u = Value.ref a from rx)
    obtain ⟨_, _, n, _, h1⟩ := (show ObjOk X.prog X.w H s.heap a (.lst xs) from I.hok a _ ea)
    exact PySem.W.kia_one PySem.W.kitx_list I.kIn ⟨_, h1, rfl⟩ e (fun z => nomatch z) h
  | @frz a ob xs ea =>
    cases (show u = Value.ref a from rx)
    obtain ⟨_, _, _, n, _, h1⟩ := (show ObjOk X.prog X.w H s.heap a (.frz ob (.lst xs)) from I.hok a _ ea)
    exact PySem.W.kia_one PySem.W.kitx_list I.kIn ⟨_, h1, rfl⟩ e (fun z => nomatch z) h
  | @tup a xs ea =>
    cases (show u = Value.ref a from rx)
    obtain ⟨_, _, _, p⟩ := (show ObjOk X.prog X.w H s.heap a (.tup xs) from I.hok a _ ea)
    obtain ⟨o, h1, h2, _⟩ := p
    exact PySem.W.kia_one PySem.W.kitx_tuple I.kIn ⟨o, h1, h2⟩ e (fun z => nomatch z) h
  | @dK a kvs ea =>
    cases (show u = Value.ref a from rx)
    obtain ⟨_, _, vs, _, p⟩ := (show ObjOk X.prog X.w H s.heap a (.dK kvs) from I.hok a _ ea)
    obtain ⟨o, es, ep, h1, h2, _⟩ := p
    exact PySem.W.kia_one PySem.W.kitx_dict I.kIn ⟨o, h1, h2.1⟩ e (fun z => nomatch z) h
  | @dT a kvs ea =>
    cases (show u = Value.ref a from rx)
    obtain ⟨_, _, xs, _, o, es, ep, h1, h2, _⟩ := (show ObjOk X.prog X.w H s.heap a (.dT kvs) from I.hok a _ ea)
    exact PySem.W.kia_one PySem.W.kitx_dict I.kIn ⟨o, h1, h2.1⟩ e (fun z => nomatch z) h
  | @ins a C dx fs ea cl ha hn htk hm =>
    cases (show u = Value.ref a from rx)
    obtain ⟨mA, O, _⟩ := ins_get I.hok ea
    obtain ⟨od, J, _⟩ := O.look
    exact PySem.W.kia_one (PySem.W.kitx_own (cl.get _) cl.hd ha hn htk hm) I.kIn J e (fun z => nomatch z) h
end
end L2
namespace L2
open PySem PySem.Spec PyProof.Rows
structure Room (k : Nat) (A : Around) : Prop where
  hd : A.handled = none
  dp : A.depth + 3 * k + 5 < recursionLimit
  un : A.units + 16 * k + 200 < cLine
theorem Room.mono {j k : Nat} {A : Around} (r : Room k A) (h : j ≤ k) : Room j A := ⟨r.hd, by have := r.dp; omega, by have := r.un; omega⟩
theorem Room.deeper {k : Nat} {A : Around} (r : Room (k + 1) A) (env : Env) : Room k (A.deeper env) :=
  ⟨r.hd, by have := r.dp; show A.depth + 1 + 3 * k + 5 < _; omega, by have := r.un; show A.units + 3 + 16 * k + 200 < _; omega⟩
theorem make_depth {A : Around} {C : Addr} {us : List Value} {kw : List (Str × Value)} : (A.under (.builtin "type.__call__" ⟨.ref C :: us, kw⟩)).depth = A.depth + 1 := by
  first | rfl | simp [Around.under, Code.weight, Code.isCreation, Code.isGuard, Code.isCaller, Code.frames, Code.isFrame, guardIds]
theorem make_units {A : Around} {C : Addr} {us : List Value} {kw : List (Str × Value)} : (A.under (.builtin "type.__call__" ⟨.ref C :: us, kw⟩)).units = A.units + 1 := by
  first | rfl | simp [Around.under, Code.cUnits, Code.frames, Code.isFrame]
theorem Room.make {k : Nat} {A : Around} (r : Room (k + 1) A) (C : Addr) (us : List Value) (kw : List (Str × Value)) : Room k (A.under (.builtin "type.__call__" ⟨.ref C :: us, kw⟩)) :=
  ⟨r.hd, by have := r.dp; rw [make_depth]; omega, by have := r.un; rw [make_units]; omega⟩
theorem Room.depth {k : Nat} {A : Around} (r : Room k A) : A.depth < recursionLimit := by have := r.dp; omega
theorem Room.units {k : Nat} {A : Around} (r : Room k A) : A.units + 64 < cLine := by have := r.un; omega
def tNil : TA := fun _ H Q => Q [] H
def tCons (ta : TE) (tr : TA) : TA := fun σ H Q => ta σ H fun x H1 => tr σ H1 fun xs H2 => Q (x :: xs) H2
section
variable {X : Cx} {e : Expr} {es : List Expr} {te : TE} {t : TA} {pos : Pos}
theorem pa_nil : PA X [] tNil := fun _ _ _ _ H Q I h => Calls.spliced_nil ⟨[], H, I, .nil, h⟩
theorem pa_cons (ha : PE X e te) (hr : PA X es t) (hs : starEach (e :: es) X.env = (false, eval e X.env) :: starEach es X.env := by rfl) : PA X (e :: es) (tCons te t) := by
  intro pos pins s σ H Q I h
  rw [hs]
  show wpAny _ _ (spliced ((false, eval e X.env) :: backTo pos (starEach es X.env))) _ _ s
  refine Calls.spliced_cons (thn (ha pins s σ H _ I h) fun u s1 ⟨x, H1, I1, r1, q1⟩ => ?_)
  exact thn (hr pos pins s1 σ H1 _ I1 q1) fun us s2 ⟨xs, H2, I2, r2, q2⟩ => ⟨x :: xs, H2, I2, .cons r1 r2, q2⟩
def tTup (t : TA) : TE := fun σ H Q => t σ H fun xs H1 => xs.length ≤ sizeLine ∧ ∀ p, H1 p = none → Q (.ref p) (upd H1 p (.tup xs))
def tLst (t : TA) : TE := fun σ H Q => t σ H fun xs H1 => xs.length ≤ sizeLine ∧ ∀ p, H1 p = none → Q (.ref p) (upd H1 p (.lst xs))
theorem pe_tup {x1} (h : PA X es t) : PE X (.Tuple es x1 pos) (tTup t) := by
  intro pins s σ H Q I hq
  refine wpAny_Tuple_spliced (thn (h pos pins s σ H _ I hq) fun us s1 ⟨xs, H1, I1, r, z, q⟩ => ⟨by rw [← r.length]; exact z, ?_⟩)
  have hf : H1 s1.heap.objs.size = none := I1.hok.fresh (Nat.le_refl _)
  refine ⟨.ref s1.heap.objs.size, upd H1 s1.heap.objs.size (.tup xs), I1.laid (t' := s1.toks) (fun b u e => Heap.get?_push_of_some _ e) (Nat.le_refl _) ?_, rfl, q _ hf⟩
  exact ⟨z, us, r, ⟨_, Heap.get?_push_size _ rfl, rfl, _, rfl⟩⟩
theorem pe_lst (h : PA X es t) : PE X (.List es pos) (tLst t) := by
  intro pins s σ H Q I hq
  refine wpAny_List_spliced (thn (h pos pins s σ H _ I hq) fun us s1 ⟨xs, H1, I1, r, z, q⟩ => ⟨by rw [← r.length]; exact z, ?_⟩)
  have hf : H1 s1.heap.objs.size = none := I1.hok.fresh (Nat.le_refl _)
  refine ⟨.ref s1.heap.objs.size, upd H1 s1.heap.objs.size (.lst xs), I1.laid (t' := s1.toks) (fun b u e => Heap.get?_push_of_some _ e) (Nat.le_refl _) ?_, rfl, q _ hf⟩
  exact ⟨z, us, 0, r, Heap.get?_push_size _ rfl⟩
end
abbrev Sp := List V → Hp → VK → XK → Prop
abbrev CXT := List Env → Hp → Shared → XK → Value → Shared → Prop
structure Env0 (P : Program) (w : World) (K : PySem.W.Frag) (mg : Str → Option Value) (base : Heap) (A : Around) (outer : List Env) (s : Shared) (H : Hp) : Prop where
  frames : A.frames = some outer
  mod : Mod K mg base
  bs : ∀ b o, base.get? b = some o → s.heap.get? b = some o ∧ H b = none
  bsz : base.objs.size ≤ s.heap.objs.size
  funs : s.heap.FunFrames base outer
  frf : ∀ b ∈ frs outer, H b = none
  hok : HOk P w H s.heap
  bare : AllBare s.gens
def CE (outer : List Env) (P : Program) (w : World) (H : Hp) (s : Shared) (Q : VK) (u : Value) (s' : Shared) : Prop :=
  ∃ v H', s'.os = s.os ∧ AllBare s'.gens ∧ Un (frs outer) [] H H' s.heap s'.heap ∧ HOk P w H' s'.heap ∧ RelV v u ∧ Q v H'
def CR (CX : CXT) (outer : List Env) (P : Program) (w : World) (H : Hp) (s : Shared) (Q : VK) (E : XK) (r : Result) (s' : Shared) : Prop :=
  match r with
  | .ok (.ret u) => CE outer P w H s Q u s'
  | .ok _ => False
  | .error e => CX outer H s E e s'
structure FnOk (P : Program) (w : World) (K : PySem.W.Frag) (mg : Str → Option Value) (base : Heap) (CX : CXT) (k : Nat) (f : Addr) (fd : FuncData) (ps : List Str) (sp : Sp) : Prop where
  len : ∀ vs H Q E, sp vs H Q E → vs.length = ps.length
  run : ∀ (A : Around) (outer : List Env) (s : Shared) (H : Hp) (args : Args) (us : List Value) (vs : List V) (Q : VK) (E : XK), Room k A → Env0 P w K mg base A outer s H → BindsTo s fd args (ps.zip us) → Vals vs us → sp vs H Q E →
    codeAny (model P w) A (.call (.ref f) args) (CR CX outer P w H s Q E) s
theorem FnOk.imp {P : Program} {w : World} {K : PySem.W.Frag} {mg : Str → Option Value} {base : Heap} {CX : CXT} {k : Nat} {f : Addr} {fd : FuncData} {ps : List Str} {sp sp' : Sp} (F : FnOk P w K mg base CX k f fd ps sp)
    (h : ∀ vs H Q E, sp' vs H Q E → sp vs H Q E) : FnOk P w K mg base CX k f fd ps sp' :=
  ⟨fun vs H Q E q => F.len vs H Q E (h _ _ _ _ q), fun A outer s H args us vs Q E hr he hb hv hs => F.run A outer s H args us vs Q E hr he hb hv (h _ _ _ _ hs)⟩
theorem Env0.make {P : Program} {w : World} {K : PySem.W.Frag} {mg : Str → Option Value} {base : Heap} {A : Around} {outer : List Env} {s : Shared} {H : Hp} (e : Env0 P w K mg base A outer s H) (C : Addr) (us : List Value) (kw : List (Str × Value)) :
    Env0 P w K mg base (A.under (.builtin "type.__call__" ⟨.ref C :: us, kw⟩)) outer s H := ⟨by first | exact e.frames | (simpa [Around.under, Code.envs, Code.isFrame, pushEnvs] using e.frames), e.mod, e.bs, e.bsz, e.funs, e.frf, e.hok, e.bare⟩
section
variable {X : Cx} {pins : List (Addr × Obj)} {σ : St} {H : Hp} {s s' : Shared}
theorem Inv.env0 (I : Inv X pins σ H s) : Env0 X.prog X.w X.K X.mg X.base X.A X.stack s H :=
  ⟨I.ok.frames, I.ok.mod, I.bs, Nat.le_trans I.ok.bsz I.sz, I.stack, I.stkFree, I.hok, I.bare⟩
theorem Inv.after {Q : VK} {u : Value} (I : Inv X pins σ H s) (h : CE X.stack X.prog X.w H s Q u s') : EP X pins σ Q u s' := by
  obtain ⟨v, H', os, bare, un, hok, r, q⟩ := h
  obtain ⟨hh, g, d, t, os'⟩ := s'
  obtain rfl : os' = s.os := os
  exact ⟨v, H', I.call (h' := hh) (g' := g) (d' := d) (t' := t) (ch := []) un hok bare (fun b z => absurd z (by simp)), r, q⟩
end
def Binds (K : PySem.W.Frag) (fd : FuncData) (ps : List Str) (ds : List Value) : Prop :=
  ∀ (s : Shared) (us : List Value), K.In s.heap → (us ++ ds).length = ps.length → BindsTo s fd ⟨us, []⟩ (ps.zip (us ++ ds))
theorem Binds.all {K : PySem.W.Frag} {fd : FuncData} {ps : List Str} (h : ∀ us : List Value, us.length = ps.length → bindArgs fd ⟨us, []⟩ = pure (ps.zip us)) : Binds K fd ps [] := fun s us _ hl => by
  rw [List.append_nil] at hl ⊢
  exact .of_eq (h us hl)
section
variable {X : Cx} {CX : CXT} {k : Nat} {f C : Addr} {fd : FuncData} {ps : List Str} {sp : Sp} {dvs : List V} {ds : List Value} {E : XK} {x m : Str} {p pos apos : Pos} {e o : Expr} {es : List Expr} {ta : TE} {t : TA}
structure Mk (K : PySem.W.Frag) (C f : Addr) : Prop where
  makes : PySem.W.makesIn K C = true
  init : PySem.W.findIn K (.ref C) "__init__" = some (some (.ref f))
  fn : PySem.W.isFn K (.ref f) = true
  kp : PySem.W.keepIn K (.ref C) = true
end
section
variable {X : Cx} {CX : CXT} {k : Nat} {f C : Addr} {fd : FuncData} {ps ks : List Str} {sp : Sp} {E : XK} {x m : Str} {p pos apos kpos : Pos} {e o : Expr} {es : List Expr} {kws : List Keyword} {te ta : TE} {t tk : TA} {nm : Option Str}
variable {g : List Value → List Value → List Value} {gV : List V → List V → List V}
end
structure FnScope (N P : List Str) (sc : Scope) : Prop where
  kind : sc.kind = .function
  co : sc.isCoroutine = false
  gen : sc.isGenerator = false
  nd : N.Nodup
  pre : N.take P.length = P
  par : ∀ x ∈ P, sc.names.lookup x = some .local ∨ sc.names.lookup x = some .cell
  nofree : ∀ y ∈ sc.names, y.2 ≠ .free
theorem bindL_out {kindOf : Str → Option NameKind} {x : Str} : ∀ {binds : List (Str × Value)} {m : Str → Option Value}, (∀ v, (x, v) ∉ binds) → bindL kindOf binds m x = m x
  | [], _, _ => rfl
  | (n, v) :: r, m, h => by
    unfold bindL
    rw [bindL_out fun w hw => h w (List.mem_cons_of_mem _ hw)]
    split
    · have : x ≠ n := by rintro rfl; exact h v List.mem_cons_self
      simp [this]
    · rfl
theorem bindC_out {kindOf : Str → Option NameKind} {x : Str} : ∀ {binds : List (Str × Value)} {m : Str → Option Value}, (∀ v, (x, v) ∉ binds) → bindC kindOf binds m x = m x
  | [], _, _ => rfl
  | (n, v) :: r, m, h => by
    unfold bindC
    rw [bindC_out fun w hw => h w (List.mem_cons_of_mem _ hw)]
    split
    · rfl
    · have : x ≠ n := by rintro rfl; exact h v List.mem_cons_self
      simp [this]
theorem bindL_get {kindOf : Str → Option NameKind} {x : Str} {v : Value} : ∀ {P : List Str} {vs : List Value} {i : Nat} {m : Str → Option Value}, P.Nodup → P[i]? = some x → vs[i]? = some v → kindOf x = some .local →
    bindL kindOf (P.zip vs) m x = some v
  | [], _, _, _, _, h, _, _ => by simp at h
  | _ :: _, [], _, _, _, _, h, _ => by simp at h
  | p :: P, w :: vs, 0, m, nd, h1, h2, hk => by
    simp at h1 h2; subst h1; subst h2
    show bindL kindOf ((p, w) :: P.zip vs) m p = _
    unfold bindL
    rw [bindL_out fun v hv => (List.nodup_cons.mp nd).1 (List.of_mem_zip hv).1, if_pos hk]
    simp
  | p :: P, w :: vs, i + 1, m, nd, h1, h2, hk => by
    show bindL kindOf ((p, w) :: P.zip vs) m x = _
    unfold bindL
    exact bindL_get (i := i) (List.nodup_cons.mp nd).2 (by simpa using h1) (by simpa using h2) hk
theorem bindC_get {kindOf : Str → Option NameKind} {x : Str} {v : Value} : ∀ {P : List Str} {vs : List Value} {i : Nat} {m : Str → Option Value}, P.Nodup → P[i]? = some x → vs[i]? = some v → kindOf x ≠ some .local →
    bindC kindOf (P.zip vs) m x = some v
  | [], _, _, _, _, h, _, _ => by simp at h
  | _ :: _, [], _, _, _, _, h, _ => by simp at h
  | p :: P, w :: vs, 0, m, nd, h1, h2, hk => by
    simp at h1 h2; subst h1; subst h2
    show bindC kindOf ((p, w) :: P.zip vs) m p = _
    unfold bindC
    rw [bindC_out fun v hv => (List.nodup_cons.mp nd).1 (List.of_mem_zip hv).1, if_neg hk]
    simp
  | p :: P, w :: vs, i + 1, m, nd, h1, h2, hk => by
    show bindC kindOf ((p, w) :: P.zip vs) m x = _
    unfold bindC
    exact bindC_get (i := i) (List.nodup_cons.mp nd).2 (by simpa using h1) (by simpa using h2) hk
def start (N : List Str) (vs : List V) : St := vs.map some ++ List.replicate (N.length - vs.length) none
def cxOf (CX : CXT) (P : Program) (w : World) (K : PySem.W.Frag) (mg : Str → Option Value) (base : Heap) (N : List Str) (qual : Str) (scope : Scope) (f : Addr) (cd : Value) (A : Around) (outer : List Env) (s : Shared) (H : Hp) (E : XK) : Cx where
  prog := P
  w := w
  K := K
  mg := mg
  base := base
  A := A.deeper (envOfC qual scope s.heap.objs.size f cd)
  N := N
  s₀ := s
  H₀ := H
  env := envOfC qual scope s.heap.objs.size f cd
  outer := outer
  stack := envOfC qual scope s.heap.objs.size f cd :: outer
  ex := []
  calm := true
  fn := fun _ => true
  pn := []
  xe := fun e s' => wpAny (model P w) (A.deeper (envOfC qual scope s.heap.objs.size f cd)) (leaving (envOfC qual scope s.heap.objs.size f cd) e) (fun _ s'' => CX outer H s E e s'') (fun e' s'' => CX outer H s E e' s'') s'
theorem cell_has {sc : Scope} {n : Nat} {x : Str} (h : sc.names.lookup x = some .cell) : ∃ c, (cellsFrom n sc.names []).lookup x = some c := by
  have q := PySem.W.cellsFrom_some sc.names n [] (.inl h)
  exact Option.isSome_iff_exists.mp q
theorem inv_start {CX : CXT} {P : Program} {w : World} {K : PySem.W.Frag} {mg : Str → Option Value} {base : Heap} {N ps : List Str} {qual : Str} {scope : Scope} {f : Addr} {cd : Value} {A : Around} {outer : List Env} {s s1 : Shared} {H : Hp} {E : XK} {us : List Value} {vs : List V}
    (S : FnScope N ps scope) (hd : A.handled = none) (e0 : Env0 P w K mg base A outer s H) (hl : vs.length = ps.length) (r : Vals vs us)
    (x : InCallC s s.heap.objs.size (bindL (envOfC qual scope s.heap.objs.size f cd).kindOf (ps.zip us) fun _ => none) (cellsFrom (s.heap.objs.size + 1) scope.names []) (bindC (envOfC qual scope s.heap.objs.size f cd).kindOf (ps.zip us) fun _ => none) s1) :
    Inv (cxOf CX P w K mg base N qual scope f cd A outer s H E) [] (start N vs) H s1 := by
  have hpl : ps.length ≤ N.length := by have := congrArg List.length S.pre; rw [List.length_take] at this; omega
  obtain ⟨h1, tk, rfl, hk⟩ := x.done
  have noA : ∀ b : Addr, b ∉ (cxOf CX P w K mg base N qual scope f cd A outer s H E).ex := fun b z => absurd (show b ∈ ([] : List Addr) from z) (by simp)
  refine ⟨⟨e0.mod, S.kind, rfl, rfl, Nat.le_refl _, fun y z c h1 h2 => ?_, fun y hy => ?_, fun y c _ h => ?_, fun _ => hd, Around.frames_deeper e0.frames, .inr ⟨rfl, rfl⟩, fun b z => absurd z (noA b), e0.bs, e0.bsz, fun b _ _ => noA b, fun b z => absurd z (noA b), e0.funs, e0.frf⟩,
    rfl, e0.bare, Un.kept hk, ⟨_, x.toInCall.ns, fun i y v h1 h2 h3 => ?_⟩, fun y c h => ⟨_, x.cell y c h⟩, e0.hok.fresh (Nat.le_refl _), fun y c h => ?_, fun p hp => absurd (show p ∈ ([] : List (Addr × Obj)) from hp) (by simp), e0.hok.kept hk, ?_⟩
  · exact name_of_addr x.apart (PySem.mem_of_lookup h1) (PySem.mem_of_lookup h2)
  · have hy : scope.names.lookup y = some .cell ∨ scope.names.lookup y = some .free := hy
    rcases hy with hy | hy
    · exact cell_has hy
    · exact absurd rfl (S.nofree _ (PySem.mem_of_lookup hy))
  · exact Nat.le_of_lt (x.above y c (PySem.mem_of_lookup h))
  · have hi : i < vs.length := by
      unfold start at h2
      by_cases hi : i < vs.length
      · exact hi
      · rw [List.getElem?_append_right (by simpa using hi)] at h2
        rw [List.getElem?_replicate] at h2
        split at h2 <;> cases h2
    have ha : vs[i]? = some v := by
      unfold start at h2
      rw [List.getElem?_append_left (by simpa using hi), List.getElem?_map] at h2
      cases e : vs[i]? with
      | none => rw [e] at h2; cases h2
      | some a => rw [e] at h2; cases h2; rfl
    obtain ⟨u, hu, rv⟩ := r.get ha
    have hp : ps[i]? = some y := by
      rw [← S.pre, List.getElem?_take_of_lt (by omega)]; exact h1
    have ndP : ps.Nodup := by rw [← S.pre]; exact S.nd.sublist (List.take_sublist _ _)
    refine ⟨u, rv, ?_⟩
    rcases S.par y (List.mem_of_getElem? hp) with k | k
    · exact .inl ⟨k, bindL_get ndP hp hu k⟩
    · obtain ⟨c, e⟩ := cell_has (n := s.heap.objs.size + 1) k
      refine .inr ⟨.inl k, c, e, ?_⟩
      have q := x.cell y c e
      rw [bindC_get ndP hp hu (by show scope.names.lookup y ≠ _; rw [k]; decide)] at q
      exact q
  · exact e0.hok.fresh (Nat.le_of_lt (x.above y c (PySem.mem_of_lookup h)))
  · unfold start
    show _ = N.length
    rw [List.length_append, List.length_map, List.length_replicate]
    omega
theorem fn_of {CX : CXT} {P : Program} {w : World} {K : PySem.W.Frag} {mg : Str → Option Value} {base : Heap} {k : Nat} {f : Addr} {name qual : Str} {params : Arguments} {body : List Stmt} {scope : Scope} {dV kV doc pm cdv ct oc : Value} {an od : Option Addr}
    {osl : Array (Option Value)} {N ps : List Str} {sp : Sp} (lk : K.lookup f = some ⟨oc, od, .func (PySem.W.fnOf name qual params body scope dV kV doc pm an cdv ct), osl⟩) (hcd : PySem.W.codeIn K cdv qual = true) (S : FnScope N ps scope)
    (len : ∀ vs H Q E, sp vs H Q E → vs.length = ps.length)
    (hbody : ∀ (A : Around) (outer : List Env) (s : Shared) (H : Hp) (vs : List V) (Q : VK) (E : XK), Room k (A.deeper (envOfC qual scope s.heap.objs.size f cdv)) → sp vs H Q E →
      ∃ t, PSs (cxOf CX P w K mg base N qual scope f cdv A outer s H E) body t ∧ t { nx := fun _ H' => Q .non H', rt := Q } (start N vs) H) :
    FnOk P w K mg base CX (k + 1) f (PySem.W.fnOf name qual params body scope dV kV doc pm an cdv ct) ps sp := by
  refine ⟨len, fun A outer s H args us vs Q E hr e0 hb r hsp => ?_⟩
  have hl := len _ _ _ _ hsp
  have KX : K.In s.heap := e0.mod.kin.keeps fun b o e => (e0.bs b o e).1
  have lim : s.heap.NoLimit := e0.mod.nolimit.keeps fun b o e => (e0.bs b o e).1
  have hkind : ∀ y ∈ ps.zip us, scope.names.lookup y.1 = some .local ∨ (scope.names.lookup y.1 = some .cell ∧ ((cellsFrom (s.heap.objs.size + 1) scope.names []).lookup y.1).isSome = true) := fun ⟨n, v⟩ hy => by
    rcases S.par n (List.of_mem_zip hy).1 with q | q
    · exact .inl q
    · exact .inr ⟨q, PySem.W.cellsFrom_some _ _ _ (.inl q)⟩
  refine codeAny_call_function hr.depth (KX _ _ lk) rfl S.co S.gen rfl (PySem.W.codeRec_of KX hcd) (hb _ _ _ _ ?_)
  refine wpAny_newFunctionEnv_cells S.kind hkind fun env he s1 x => ?_
  subst he
  refine ⟨lim.keeps x.toInCall.keep, codeAny_func ?_⟩
  obtain ⟨t, ht, hq⟩ := hbody A outer s H vs Q E (hr.deeper _) hsp
  have I : Inv (cxOf CX P w K mg base N qual scope f cdv A outer s H E) [] (start N vs) H s1 := inv_start S hr.hd e0 hl r x
  refine wpAny_mono (ht [] s1 (start N vs) H _ I hq) (fun fl s' hs => ?_) fun e s' hs => hs
  have fin : ∀ {σ' : St} {H' : Hp} {v : V} {u : Value}, Inv (cxOf CX P w K mg base N qual scope f cdv A outer s H E) [] σ' H' s' → RelV v u → Q v H' → CE outer P w H s Q u s' :=
    fun {σ' H' v u} J rv q => ⟨v, H', J.os, J.bare, J.base, J.hok, rv, q⟩
  cases fl with
  | ret u =>
    obtain ⟨v, σ', H', J, rv, q⟩ := hs
    exact fin J rv q
  | next =>
    obtain ⟨σ', H', J, q⟩ := hs
    exact fin (v := V.non) (u := Value.none) J rfl q
  | brk =>
    obtain ⟨_, _, _, q⟩ := hs
    exact False.elim q
  | cont =>
    obtain ⟨_, _, _, q⟩ := hs
    exact False.elim q
end L2
namespace L2
open PySem PySem.Spec PyProof.Rows
section
variable {X : Cx} {x : Str} {p pos : Pos} {e : Expr} {es : List Expr} {t : TA} {id T : String} {r : List V → Hp → VK → Prop}
def tCB (r : List V → Hp → VK → Prop) (t : TA) : TE := fun σ H Q => t σ H fun vs H1 => r vs H1 Q
theorem pe_callB (hc : CallR X (.builtin id) r) (hg : Gl X x) (hm : X.mg x = none) (hv : bootBuiltins x = some (.builtin id)) (ha : PA X (e :: es) t) (hn : x ≠ "__name__" := by decide) (hdb : (x == ("__debug__" : Str)) = false := by decide)
    (he : starEach (e :: es) X.env = (false, eval e X.env) :: starEach es X.env := by rfl) (hpl : (backTo pos (starEach es X.env)).any (·.1) = false := by rfl) : PE X (.Call (.Name x p) (e :: es) [] pos) (tCB r t) := by
  intro pins s σ H Q I h
  refine wpAny_Call_Name_kw (ld_blt I hg hm hv ?_ hn hdb)
  exact PyProof.Rows.callWith_builtin1 (thn (ha pos pins s σ H _ I h) fun us s1 ⟨vs, H1, I1, r1, q1⟩ => hc pins s1 σ H1 vs us Q I1 r1 q1) he hpl
theorem pe_callTy (hc : CallR X (.type T) r) (hg : Gl X x) (hm : X.mg x = none) (hv : bootBuiltins x = some (.type T)) (ha : PA X (e :: es) t) (hn : x ≠ "__name__" := by decide) (hdb : (x == ("__debug__" : Str)) = false := by decide)
    (he : starEach (e :: es) X.env = (false, eval e X.env) :: starEach es X.env := by rfl) (hpl : (backTo pos (starEach es X.env)).any (·.1) = false := by rfl) : PE X (.Call (.Name x p) (e :: es) [] pos) (tCB r t) := by
  intro pins s σ H Q I h
  refine wpAny_Call_Name_kw (ld_blt I hg hm hv ?_ hn hdb)
  exact PyProof.Rows.callWith_type1 (thn (ha pos pins s σ H _ I h) fun us s1 ⟨vs, H1, I1, r1, q1⟩ => hc pins s1 σ H1 vs us Q I1 r1 q1) he hpl
end
end L2
namespace HT
open PySem PyProof.Rows
section
open PySem.SeqAt
open PySem.AutoSeq1 (wpAny_loadPart')
open PySem.MeetsSeq PySem.MeetsSeq2 PySem.MeetsSeq3
end
section
variable {prog : Program} {w : World} {A : Around} {E : Value → Shared → Prop} {s : Shared}
theorem cat_tup {t b : Addr} {vs ws : List Value} {Q : Value → Shared → Prop} (ht : IsTup s.heap t vs.toArray) (hb : IsTup s.heap b ws.toArray) (hv : vs ≠ [])
    (h1 : ws = [] → Q (.ref t) s) (h2 : ws ≠ [] → Q (.ref s.heap.objs.size) { s with heap := s.heap.push { cls := .type "tuple", data := .seq (vs ++ ws).toArray } })
    (hsz : vs.length + ws.length ≤ sizeLine) : wpAny (model prog w) A (binaryOp .Add (.ref t) (.ref b)) Q E s := by
  obtain ⟨⟨cls, dd, data, sl⟩, ho, hc, n, hd⟩ := id ht
  obtain ⟨⟨cls2, dd2, data2, sl2⟩, ho2, hc2, n2, hd2⟩ := id hb
  simp only at hc hd hc2 hd2
  subst hc hd hc2 hd2
  have e : vs.toArray ++ ws.toArray = (vs ++ ws).toArray := by simp
  by_cases hw : ws = []
  · exact concat_meets ⟨_, ho, rfl⟩ ⟨_, ho2, rfl⟩ noFill_tuple_add seq_tuple_add PySem.F.slot_tuple_add PySem.F.entry_tuple_add (PySem.F.args_tuple_add_2 _ _)
      (tuple_addW1 t b vs.toArray ws.toArray n n2 dd dd2 sl sl2 (by simpa using hv) (by simp [hw])) ⟨ho, ho2, h1 hw⟩
  · refine concat_meets ⟨_, ho, rfl⟩ ⟨_, ho2, rfl⟩ noFill_tuple_add seq_tuple_add PySem.F.slot_tuple_add PySem.F.entry_tuple_add (PySem.F.args_tuple_add_2 _ _)
      (tuple_addW2 t b vs.toArray ws.toArray n n2 dd dd2 sl sl2 (by simpa using hv) (by simpa using hw) (by rw [List.size_toArray, List.size_toArray]; exact hsz)) ⟨ho, ho2, ?_⟩
    rw [e]
    exact h2 hw
def sIx (n d : Nat) : Option Int → Nat
  | none => d
  | some v => if v < 0 then (v + (n : Int)).toNat else min v.toNat n
theorem sIx_none (n d : Nat) : sIx n d none = d := rfl
theorem sIx_nat (n d k : Nat) : sIx n d (some (k : Int)) = min k n := by
  show (if (k : Int) < 0 then ((k : Int) + (n : Int)).toNat else min (k : Int).toNat n) = min k n
  rw [if_neg (by omega), Int.toNat_natCast]
theorem sIx_le (n d : Nat) (hd : d ≤ n) (o : Option Int) : sIx n d o ≤ n := by
  cases o with
  | none => exact hd
  | some v =>
    show (if v < 0 then (v + (n : Int)).toNat else min v.toNat n) ≤ n
    by_cases hv : v < 0
    · rw [if_pos hv]; omega
    · rw [if_neg hv]; exact Nat.min_le_right _ _
theorem clip_eq (v : Int) (n d : Nat) : (if v < 0 then max (v + (n : Int)) 0 else min v (n : Int)) = ((sIx n d (some v) : Nat) : Int) := by
  show (if v < 0 then max (v + (n : Int)) 0 else min v (n : Int)) = (((if v < 0 then (v + (n : Int)).toNat else min v.toNat n) : Nat) : Int)
  by_cases hv : v < 0
  · simp only [if_pos hv]; omega
  · simp only [if_neg hv]; omega
theorem adjust_gen (lo hi : Option Int) (n : Nat) : Builtin.Slice.sliceAdjust lo hi 1 (n : Int) = (((sIx n 0 lo : Nat) : Int), ((sIx n n hi : Nat) : Int)) := by
  have h1 : ¬ ((1 : Int) < 0) := by omega
  unfold Builtin.Slice.sliceAdjust
  simp only [h1, if_false]
  refine Prod.ext ?_ ?_
  · cases lo with
    | none => rfl
    | some v => exact clip_eq v n 0
  · cases hi with
    | none => rfl
    | some v => exact clip_eq v n n
theorem places_gen (i j : Nat) : Builtin.Slice.slicePlaces (i : Int) (j : Int) 1 = j - i := by
  unfold Builtin.Slice.slicePlaces
  have h1 : (1 : Int) > 0 := by omega
  simp only [h1, if_true, Int.ediv_one]
  split <;> omega
theorem slicePart_ {v : Value} {o : Option Int} {Q : Option Int → Shared → Prop} (p : IsPart v o) (h : Q o s) : wpAny (model prog w) A (Builtin.Slice.slicePartIndex v) Q E s := by
  cases p with
  | none => exact slicePart_none h
  | int i t => exact slicePart_int h
theorem sliceApplied_gen {sl : Addr} {vl vu : Value} {lo hi : Option Int} {n : Nat} {Q : Int × Int × Nat → Shared → Prop} (hs : s.heap.IsSliceOf sl vl vu .none) (pl : IsPart vl lo) (pu : IsPart vu hi)
    (h : Q (((sIx n 0 lo : Nat) : Int), 1, sIx n n hi - sIx n 0 lo) s) : wpAny (model prog w) A (Builtin.Slice.sliceApplied (.ref sl) (pure (n : Int))) Q E s := by
  obtain ⟨os, hos, hcs, hds⟩ := id hs
  unfold Builtin.Slice.sliceApplied Builtin.Slice.sliceFields
  refine wpAny_bind (wpAny_bind (wpAny_field hos hds (x := vl) rfl (wpAny_bind (wpAny_field hos hds (x := vu) rfl (wpAny_bind (wpAny_field hos hds (x := .none) rfl (wpAny_pure ?_)))))))
  refine wpAny_bind (slicePart_none ?_)
  show wpAny _ _ (if ((1 : Int) == 0) = true then _ else _) _ _ s
  rw [if_neg (by decide)]
  refine wpAny_bind (slicePart_ pl (wpAny_bind (slicePart_ pu (wpAny_bind (wpAny_pure ?_)))))
  show wpAny _ _ (match Builtin.Slice.sliceAdjust lo hi 1 (n : Int) with | (lo, hi) => pure (lo, (1 : Int), Builtin.Slice.slicePlaces lo hi 1)) _ _ s
  rw [adjust_gen lo hi n]
  show wpAny _ _ (pure (((sIx n 0 lo : Nat) : Int), (1 : Int), Builtin.Slice.slicePlaces ((sIx n 0 lo : Nat) : Int) ((sIx n n hi : Nat) : Int) 1)) _ _ s
  rw [places_gen]
  exact wpAny_pure h
theorem pick_gen (xs : Array Value) (i k : Nat) : ((List.range k).filterMap fun (m : Nat) => xs[((i : Int) + (m : Int) * 1).toNat]?).toArray = ((xs.toList.drop i).take k).toArray := by
  have e : (fun (m : Nat) => xs[((i : Int) + (m : Int) * 1).toNat]?) = fun m => xs[i + m]? := by
    funext m
    have : ((i : Int) + (m : Int) * 1).toNat = i + m := by omega
    rw [this]
  rw [e]
  have := pick_run xs i k
  rw [List.filterMap_map] at this
  have e2 : ((fun x => xs[x]?) ∘ fun x => i + x) = fun m => xs[i + m]? := rfl
  rw [e2] at this
  rw [this]
theorem getItem_tuple_cut {t sl : Addr} {items : Array Value} {vl vu : Value} {lo hi : Option Int} {Q : Value → Shared → Prop} (ht : IsTup s.heap t items) (hs : s.heap.IsSliceOf sl vl vu .none) (pl : IsPart vl lo) (pu : IsPart vu hi)
    (hw : ¬ (sIx items.size 0 lo = 0 ∧ sIx items.size items.size hi = items.size))
    (h : Q (.ref s.heap.objs.size) { s with heap := s.heap.push { cls := .type "tuple", data := .seq ((items.toList.drop (sIx items.size 0 lo)).take (sIx items.size items.size hi - sIx items.size 0 lo)).toArray } })
    (hsz : items.size ≤ sizeLine) : wpAny (model prog w) A (getItem (.ref t) (.ref sl)) Q E s := by
  have htake : sizeOk (.seq ((items.toList.drop (sIx items.size 0 lo)).take (sIx items.size items.size hi - sIx items.size 0 lo)).toArray) := by
    show ((items.toList.drop (sIx items.size 0 lo)).take (sIx items.size items.size hi - sIx items.size 0 lo)).toArray.size ≤ sizeLine
    rw [List.size_toArray, List.length_take, List.length_drop, Array.length_toList]
    omega
  have hj : sIx items.size items.size hi ≤ items.size := sIx_le _ _ (Nat.le_refl _) hi
  obtain ⟨os, hos, hcs, hds⟩ := id hs
  have hTs : s.TypeIs (.ref sl) "slice" := ⟨os, hos, hcs⟩
  unfold getItem
  try with_reducible refine wpAny_holding ?_
  first | refine wpAny_bind (wpAny_pure ?_) | skip
  refine wpAny_bind (wpAny_sequenceKey ht.typeIs (by decide) ?_)
  refine wpAny_bind (wpAny_callSpecial?_slot (name := Str.ofString "__getitem__") ht.typeIs PyProof.Rows.slot_tuple_getitem
    (wpAny_call_entry PyProof.Rows.slot_tuple_getitem ht.typeIs entry_tuple_getitem ?_ (args_tuple_getitem _ _)))
  show wpAny _ _ (Builtin.Tuple.tupleItemsOf (.ref t) >>= _) _ _ s
  refine wpAny_bind (tupleItemsOf_ ht ?_)
  refine wpAny_bind (wpAny_typeOf hTs ?_)
  rw [if_pos (by decide)]
  refine wpAny_bind (sliceApplied_gen hs pl pu ?_)
  have hno : ¬ ((((sIx items.size 0 lo : Nat) : Int) == 0 && (1 : Int) == 1 && (sIx items.size items.size hi - sIx items.size 0 lo) == items.size) = true) := by
    intro q
    rw [Bool.and_eq_true, Bool.and_eq_true] at q
    have q1 : ((sIx items.size 0 lo : Nat) : Int) = 0 := eq_of_beq q.1.1
    have q2 : sIx items.size items.size hi - sIx items.size 0 lo = items.size := eq_of_beq q.2
    exact hw ⟨by omega, by omega⟩
  show wpAny _ _ (if (((sIx items.size 0 lo : Nat) : Int) == 0 && (1 : Int) == 1 && (sIx items.size items.size hi - sIx items.size 0 lo) == items.size) = true then _ else _) _ _ s
  rw [if_neg hno, pick_gen]
  first
    | exact wpAny_bind (m := Builtin.Tuple.tupleExact _) (wpAny_newObj_type (wpAny_pure ⟨_, rfl, wpAny_pure h⟩) htake)
    | exact wpAny_bind (m := Builtin.Tuple.tupleExact _) (wpAny_newObj_type (wpAny_bind (wpAny_pure (wpAny_pure ⟨_, rfl, wpAny_pure h⟩))) htake)
    | exact wpAny_bind (wpAny_bind (m := Builtin.Tuple.tupleExact _) (wpAny_newObj_type (wpAny_pure (wpAny_pure ⟨_, rfl, wpAny_pure h⟩)) htake))
    | exact wpAny_bind (wpAny_bind (m := Builtin.Tuple.tupleExact _) (wpAny_newObj_type (wpAny_pure ⟨_, rfl, wpAny_pure h⟩) htake))
end
end HT
namespace L2
open PySem PySem.Spec PyProof.Rows
abbrev TO := St → Hp → (Option Int → Hp → Prop) → Prop
def PO (X : Cx) (e : Option Expr) (t : TO) : Prop :=
  ∀ (pins : List (Addr × Obj)) (s : Shared) (σ : St) (H : Hp) (Q : Option Int → Hp → Prop), Inv X pins σ H s → t σ H Q →
    wpAny (model X.prog X.w) X.A (evalPart e X.env) (fun u s' => ∃ o H', Inv X pins σ H' s' ∧ IsPart u o ∧ Q o H') X.xe s
def tNoPart : TO := fun _ H Q => Q none H
section
variable {X : Cx} {e : Expr} {te : TE} {lo hi : Option Expr} {tl th : TO} {pos p2 : Pos}
theorem po_none : PO X none tNoPart := by
  intro pins s σ H Q I h
  rw [evalPart_none]
  exact wpAny_pure ⟨none, H, I, .none, h⟩
def SlR (X : Cx) (r : V → Option Int → Option Int → Hp → VK → Prop) : Prop :=
  ∀ (pins : List (Addr × Obj)) (s : Shared) (σ : St) (H : Hp) (x : V) (v vl vu : Value) (lo hi : Option Int) (sl : Addr) (Q : VK), Inv X pins σ H s → RelV x v → s.heap.IsSliceOf sl vl vu .none → IsPart vl lo → IsPart vu hi → r x lo hi H Q →
    ∃ T id, typeLookup (.type T) "__getitem__" = pure (some (.builtin id)) ∧ s.TypeIs v T ∧ wpAny (model X.prog X.w) X.A (getItem v (.ref sl)) (EP X pins σ Q) X.xe s
def cutV (xs : List V) (lo hi : Option Int) : List V := (xs.drop (HT.sIx xs.length 0 lo)).take (HT.sIx xs.length xs.length hi - HT.sIx xs.length 0 lo)
theorem cutV_length (xs : List V) (lo hi : Option Int) : (cutV xs lo hi).length ≤ xs.length := by
  unfold cutV
  rw [List.length_take, List.length_drop]
  omega
def rSlT (K : PySem.W.Frag) : V → Option Int → Option Int → Hp → VK → Prop := fun x lo hi H Q => ∃ a xs, x = .ref a ∧ SqT K H a xs ∧
  ¬ (HT.sIx xs.length 0 lo = 0 ∧ HT.sIx xs.length xs.length hi = xs.length) ∧ ∀ p, H p = none → Q (.ref p) (upd H p (.tup (cutV xs lo hi)))
theorem sl_tup : SlR X (rSlT X.K) := by
  intro pins s σ H x v vl vu lo hi sl Q I rx hs pl pu h
  obtain ⟨a, xs, rfl, hx, hw, q⟩ := h
  cases rx
  obtain ⟨its, r, ht, hz⟩ := I.tuple hx
  have hlen : its.toArray.size = xs.length := by rw [List.size_toArray]; exact r.length.symm
  refine ⟨"tuple", _, PyProof.Rows.slot_tuple_getitem.lookup, ht.typeIs, ?_⟩
  refine HT.getItem_tuple_cut ht hs pl pu (by rw [hlen]; exact hw) ?_ (by rw [hlen]; exact hz)
  rw [hlen]
  refine ⟨.ref s.heap.objs.size, _, I.laid (t' := s.toks) (o := .tup (cutV xs lo hi)) (fun b ob q => Heap.get?_push_of_some _ q) (Nat.le_refl _) ?_, rfl, q _ (I.hok.fresh (Nat.le_refl _))⟩
  exact ⟨Nat.le_trans (cutV_length xs lo hi) hz, _, (r.drop (HT.sIx xs.length 0 lo)).take (HT.sIx xs.length xs.length hi - HT.sIx xs.length 0 lo), IsTup.new _ _⟩
def rCatT (K : PySem.W.Frag) : R2 := fun x y H Q => ∃ a b xs ys, x = .ref a ∧ y = .ref b ∧ SqT K H a xs ∧ SqT K H b ys ∧ xs ≠ [] ∧ xs.length + ys.length ≤ sizeLine ∧
  (ys = [] → Q (.ref a) H) ∧ (ys ≠ [] → ∀ p, H p = none → Q (.ref p) (upd H p (.tup (xs ++ ys))))
theorem Vals.nil_iff {xs : List V} {us : List Value} (r : Vals xs us) : us = [] ↔ xs = [] := by
  cases r with
  | nil => simp
  | cons _ _ => simp
theorem op_catT : OpR X (binaryOp .Add) (rCatT X.K) := by
  intro pins s σ H x y v u Q I rx ry h
  obtain ⟨a, b, xs, ys, rfl, rfl, ha, hb, hx, hz, q1, q2⟩ := h
  cases rx
  cases ry
  obtain ⟨its, r1, p1, _⟩ := I.tuple ha
  obtain ⟨its2, r2, p2, _⟩ := I.tuple hb
  refine HT.cat_tup p1 p2 (fun z => hx (r1.nil_iff.mp z)) (fun z => ⟨.ref a, H, I, rfl, q1 (r2.nil_iff.mp z)⟩) (fun z => ?_) (by rw [← r1.length, ← r2.length]; exact hz)
  refine ⟨.ref s.heap.objs.size, _, I.laid (t' := s.toks) (o := .tup (xs ++ ys)) (fun b ob q => Heap.get?_push_of_some _ q) (Nat.le_refl _) ?_, rfl, q2 (fun w => z (r2.nil_iff.mpr w)) _ (I.hok.fresh (Nat.le_refl _))⟩
  exact ⟨by rw [List.length_append]; exact hz, _, r1.append r2, IsTup.new _ _⟩
end
end L2
namespace L2
open PySem PySem.Spec PyProof.Rows
def ixN (n : Nat) (i : Int) : Option Nat := if 0 ≤ i then (if i < n then some i.toNat else none) else if -(n : Int) ≤ i then some (i + n).toNat else none
def atI {α : Type} (xs : List α) (i : Int) : Option α := (ixN xs.length i).bind fun j => xs[j]?
theorem ixN_seq {n : Nat} {i : Int} {j : Nat} (h : ixN n i = some j) : seqIndex? i n = some j ∧ j < n ∧ -(n : Int) ≤ i ∧ i < n := by
  unfold ixN at h
  by_cases h0 : 0 ≤ i
  · rw [if_pos h0] at h
    by_cases h1 : i < n
    · rw [if_pos h1] at h
      have e : i.toNat = j := Option.some.inj h
      exact ⟨by rw [seqIndex_of h0 h1, e], by omega, by omega, h1⟩
    · rw [if_neg h1] at h; cases h
  · rw [if_neg h0] at h
    by_cases h1 : -(n : Int) ≤ i
    · rw [if_pos h1] at h
      have e : (i + n).toNat = j := Option.some.inj h
      exact ⟨by rw [seqIndex_neg (by omega) h1, e], by omega, h1, by omega⟩
    · rw [if_neg h1] at h; cases h
theorem atI_get {α : Type} {xs : List α} {i : Int} {v : α} (h : atI xs i = some v) : ∃ j, seqIndex? i xs.length = some j ∧ xs[j]? = some v ∧ j < xs.length ∧ -(xs.length : Int) ≤ i ∧ i < xs.length := by
  unfold atI at h
  cases e : ixN xs.length i with
  | none => rw [e] at h; cases h
  | some j =>
    rw [e] at h
    obtain ⟨h1, h2, h3, h4⟩ := ixN_seq e
    exact ⟨j, h1, h, h2, h3, h4⟩
theorem atI_nat {α : Type} {xs : List α} {j : Nat} {v : α} (h : xs[j]? = some v) : atI xs (j : Int) = some v := by
  have hj : j < xs.length := (List.getElem?_eq_some_iff.mp h).1
  have e : ixN xs.length (j : Int) = some j := by
    unfold ixN
    rw [if_pos (by omega), if_pos (by omega)]; simp
  unfold atI; rw [e]; exact h
def PlainIx (b : Expr) : Prop := ∀ o i, subscripted b false o i = operate [o, i] (getItem o i)
def IxR (X : Cx) (r : R2) : Prop :=
  ∀ (value slice : Expr) (pins : List (Addr × Obj)) (s : Shared) (σ : St) (H : Hp) (x y : V) (v u : Value) (Q : VK), Inv X pins σ H s → RelV x v → RelV y u → r x y H Q →
    subscripted slice false v u = operate [v, u] (getItem v u) → wpAny (model X.prog X.w) X.A (subscriptTail value slice v u) (EP X pins σ Q) X.xe s
def MtR (X : Cx) (id : String) (r : V → List V → Hp → VK → Prop) : Prop :=
  ∀ (pins : List (Addr × Obj)) (s : Shared) (σ : St) (H : Hp) (x : V) (xs : List V) (v : Value) (us : List Value) (Q : VK), Inv X pins σ H s → RelV x v → Vals xs us → r x xs H Q →
    wpAny (model X.prog X.w) X.A (call (.builtin id) (v :: us)) (EP X pins σ Q) X.xe s
section
variable {X : Cx} {a b : Expr} {ta tb : TE} {pos : Pos}
theorem pe_ix {r : R2} (hr : IxR X r) (ha : PE X a ta) (hb : PE X b tb) (hs : PlainIx b) : PE X (.Subscript a b pos) (tOp r ta tb) := by
  intro pins s σ H Q I h
  exact Subscript_ (binT ha hb I h fun v u s2 x y H2 I2 rx ry q => hr a b pins s2 σ H2 x y v u Q I2 rx ry q (hs _ _))
def rIxL (K : PySem.W.Frag) : R2 := fun x y H Q => ∃ p xs i v, x = .ref p ∧ y = .int i ∧ SqL K H p xs ∧ atI xs i = some v ∧ Q v H
def rIxT (K : PySem.W.Frag) : R2 := fun x y H Q => ∃ p xs i v, x = .ref p ∧ y = .int i ∧ SqT K H p xs ∧ atI xs i = some v ∧ Q v H
def rIxS : R2 := fun x y H Q => ∃ z i c, x = .str z ∧ y = .int i ∧ z.length ≤ sizeLine ∧ atI z.cps.toList i = some c ∧ Q (.str ⟨#[c]⟩) H
theorem ix_list : IxR X (rIxL X.K) := by
  intro value slice pins s σ H x y v u Q I rx ry h hs
  obtain ⟨p, xs, i, z, rfl, rfl, hq, he, q⟩ := h
  cases rx
  obtain ⟨t, rfl⟩ := ry
  obtain ⟨its, r, pl, hz⟩ := I.list hq
  obtain ⟨j, h1, h2, h3, h4, h5⟩ := atI_get he
  obtain ⟨w, ew, rw'⟩ := r.get h2
  have hl := r.length
  have hn := line63
  have fin : EP X pins σ Q w s := ⟨z, H, I, rw', q⟩
  by_cases h0 : 0 ≤ i
  · have hj : i.toNat = j := by
      rw [seqIndex_of h0 h5] at h1
      exact Option.some.inj h1
    exact item_listR pl.isList h0 (by omega) (by rw [hj]; simpa using ew) fin hs
  · have hj : (i + (its.toArray.size : Int)).toNat = j := by
      rw [seqIndex_neg (by omega) h4] at h1
      rw [List.size_toArray, ← hl]
      exact Option.some.inj h1
    exact subscriptTail_builtinR (x := w) pl.isList.typeIs slot_list_getitem.lookup
      (wpAny_getItem_list_neg (Q := fun r s' => r = w ∧ EP X pins σ Q r s') pl.isList (by omega) (by rw [List.size_toArray] <;> omega) (by omega) (by rw [hj]; simpa using ew) ⟨rfl, fin⟩) hs
theorem ix_tup : IxR X (rIxT X.K) := by
  intro value slice pins s σ H x y v u Q I rx ry h hs
  obtain ⟨p, xs, i, z, rfl, rfl, hq, he, q⟩ := h
  cases rx
  obtain ⟨t, rfl⟩ := ry
  obtain ⟨its, r, pl, hz⟩ := I.tuple hq
  obtain ⟨j, h1, h2, h3, h4, h5⟩ := atI_get he
  obtain ⟨w, ew, rw'⟩ := r.get h2
  have hl := r.length
  have hn := line63
  have fin : EP X pins σ Q w s := ⟨z, H, I, rw', q⟩
  exact subscriptTail_builtinR (x := w) pl.typeIs slot_tuple_getitem.lookup
    (getItem_tuple (j := j) (Q := fun r s' => r = w ∧ EP X pins σ Q r s') pl (by omega) (by omega) (by rw [List.size_toArray, ← hl]; exact h1) (by simpa using ew) ⟨rfl, fin⟩) hs
theorem ix_str : IxR X rIxS := by
  intro value slice pins s σ H x y v u Q I rx ry h hs
  obtain ⟨z, i, c, rfl, rfl, hz, he, q⟩ := h
  obtain ⟨t, rfl⟩ := rx
  obtain ⟨t', rfl⟩ := ry
  obtain ⟨j, h1, h2, h3, h4, h5⟩ := atI_get he
  have hl : z.cps.toList.length = z.length := by simp [Str.length]
  rw [hl] at h1 h4 h5
  have hn := line63
  exact tail_any (typeIs_str s z t) slot_str_getitem.lookup (getItem_str (c := c) (by
    have e1 : decide (i < -(2 ^ 63 : Int)) = false := decide_eq_false (by omega)
    have e2 : decide (i ≥ 2 ^ 63) = false := decide_eq_false (by omega)
    rw [e1, e2, Bool.or_false]) (by rw [h1]; simpa using h2) ⟨.str ⟨#[c]⟩, H, I.tok _, ⟨_, rfl⟩, q⟩) hs
theorem mapSeq_set (its : List Value) (n j : Nat) (u : Value) : Obj.mapSeq (·.setIfInBounds j u) { cls := .type "list", data := .seq its.toArray n } = { cls := .type "list", data := .seq (its.set j u).toArray n } := by
  simp [Obj.mapSeq]
theorem Inv.lst {pins : List (Addr × Obj)} {σ : St} {H : Hp} {s : Shared} {p : Addr} {xs : List V} (I : Inv X pins σ H s) (h : H p = some (.lst xs)) :
    ∃ (its : List Value) (n : Nat), Vals xs its ∧ s.heap.get? p = some { cls := .type "list", data := .seq its.toArray n } ∧ xs.length ≤ sizeLine := by
  obtain ⟨z, its, n, r, e⟩ := I.hok p _ h
  exact ⟨its, n, r, e, z⟩
theorem Inv.lstUpd {pins : List (Addr × Obj)} {σ : St} {H : Hp} {s : Shared} {p : Addr} {xs ys : List V} {its its' : List Value} {n n' : Nat} {f : Obj → Obj} (I : Inv X pins σ H s) (h : H p = some (.lst xs))
    (ho : s.heap.get? p = some { cls := .type "list", data := .seq its.toArray n }) (hf : f { cls := .type "list", data := .seq its.toArray n } = { cls := .type "list", data := .seq its'.toArray n' }) (r : Vals ys its') (hz : ys.length ≤ sizeLine) (t : Nat) :
    Inv X pins σ (upd H p (.lst ys)) { s with heap := s.heap.update p f, toks := t } := by
  have e : (s.heap.update p f).get? p = some { cls := .type "list", data := .seq its'.toArray n' } := by
    rw [Heap.get?_update_self f ho (by rw [hf] <;> rfl), hf]
  refine I.write (x := p) (e := p) (by rw [h]; trivial) (.inl rfl) (fun b u hb q => (Heap.get?_update_other _ _ (Ne.symm hb)).trans q) ⟨_, e⟩ ?_
  exact ⟨hz, its', n', r, e⟩
def rSetL : V → V → V → Hp → (Hp → Prop) → Prop := fun o i v H Q => ∃ p xs k j, o = .ref p ∧ i = .int k ∧ H p = some (.lst xs) ∧ ixN xs.length k = some j ∧ Q (upd H p (.lst (xs.set j v)))
theorem set_list : PSet X rSetL := by
  intro pins s σ H o i v ov iv u Q I ro ri rv h
  obtain ⟨p, xs, k, j, rfl, rfl, hp, hj, q⟩ := h
  cases ro
  obtain ⟨t, rfl⟩ := ri
  obtain ⟨its, n, r, ho, hz⟩ := I.lst hp
  obtain ⟨h1, h2, h3, h4⟩ := ixN_seq hj
  have hl := r.length
  have hn := line63
  have I' : Inv X pins σ (upd H p (.lst (xs.set j v))) { s with heap := s.heap.update p (Obj.mapSeq (·.setIfInBounds j u)) } :=
    I.lstUpd hp ho (mapSeq_set its n j u) (r.set rv j) (by rw [List.length_set]; exact hz) s.toks
  by_cases h0 : 0 ≤ k
  · have hk : k.toNat = j := by
      rw [seqIndex_of h0 h4] at h1
      exact Option.some.inj h1
    exact PySem.W.ki_setAt ho h0 (by omega) (by rw [List.size_toArray, ← hl]; exact h4) (by rw [hk]; exact ⟨_, I', q⟩)
  · have hk : (k + (its.toArray.size : Int)).toNat = j := by
      rw [seqIndex_neg (by omega) h3] at h1
      rw [List.size_toArray, ← hl]
      exact Option.some.inj h1
    exact PySem.W.ki_setBack ho (by omega) (by rw [List.size_toArray, ← hl]; exact h3) (by omega) (by rw [hk]; exact ⟨_, I', q⟩)
theorem slice_bounds (lo hi : Option Int) (n : Nat) : (sliceBounds lo hi none n).1 = ((HT.sIx n 0 lo : Nat) : Int) ∧ (sliceBounds lo hi none n).2.1 = ((HT.sIx n n hi : Nat) : Int) ∧ (sliceBounds lo hi none n).2.2 = 1 := by
  refine ⟨?_, ?_, rfl⟩
  · cases lo with
    | none => simp [sliceBounds, HT.sIx]
    | some i =>
      simp only [sliceBounds, HT.sIx, Option.getD_none, show (1 : Int) > 0 by decide, if_true]
      by_cases h : i < 0
      · simp only [h, if_true] <;> omega
      · simp only [h, if_false] <;> omega
  · cases hi with
    | none => simp [sliceBounds, HT.sIx]
    | some i =>
      simp only [sliceBounds, HT.sIx, Option.getD_none, show (1 : Int) > 0 by decide, if_true]
      by_cases h : i < 0
      · simp only [h, if_true] <;> omega
      · simp only [h, if_false] <;> omega
theorem slicePick_cut (its : List Value) (lo hi : Option Int) : slicePick its.toArray lo hi none = ((its.drop (HT.sIx its.length 0 lo)).take (HT.sIx its.length its.length hi - HT.sIx its.length 0 lo)).toArray := by
  obtain ⟨h1, h2, h3⟩ := slice_bounds lo hi its.toArray.size
  unfold slicePick
  rw [h1, h2, h3]
  simp only [sliceRange_one, pick_run, List.size_toArray] <;> rfl
def rSlL (K : PySem.W.Frag) : V → Option Int → Option Int → Hp → VK → Prop := fun x lo hi H Q => ∃ a xs, x = .ref a ∧ SqL K H a xs ∧ ∀ p, H p = none → Q (.ref p) (upd H p (.lst (cutV xs lo hi)))
theorem sl_list : SlR X (rSlL X.K) := by
  intro pins s σ H x v vl vu lo hi sl Q I rx hs pl pu h
  obtain ⟨a, xs, rfl, hx, q⟩ := h
  cases rx
  obtain ⟨its, r, ht, hz⟩ := I.list hx
  have hlen := r.length
  refine ⟨"list", _, slot_list_getitem.lookup, ht.isList.typeIs, ?_⟩
  refine wpAny_getItem_list_slice ht.isList hs pl pu .none (by simp) ?_ (by rw [List.size_toArray] <;> omega)
  rw [slicePick_cut, ← hlen]
  refine ⟨.ref s.heap.objs.size, _, I.laid (t' := s.toks) (o := .lst (cutV xs lo hi)) (fun b ob q => Heap.get?_push_of_some _ q) (Nat.le_refl _) ?_, rfl, q _ (I.hok.fresh (Nat.le_refl _))⟩
  exact ⟨Nat.le_trans (cutV_length xs lo hi) hz, _, 0, (r.drop (HT.sIx xs.length 0 lo)).take (HT.sIx xs.length xs.length hi - HT.sIx xs.length 0 lo), Heap.get?_push_size _ rfl⟩
def flatV : V → Bool
  | .non => true
  | .bl _ => true
  | .int _ => true
  | .str _ => true
  | _ => false
def eqV : V → V → Bool
  | .non, .non => true
  | .bl a, .bl b => a == b
  | .bl a, .int b => (if a then 1 else 0) == b
  | .int a, .bl b => a == (if b then 1 else 0)
  | .int a, .int b => a == b
  | .str a, .str b => a == b
  | _, _ => false
theorem eqAt_V {A : Around} {s : Shared} {y x : V} {u v : Value} (ry : RelV y u) (rx : RelV x v) (fy : flatV y = true) (fx : flatV x = true) : SeqAt.EqAt A s u v (eqV y x) := by
  cases y with
  | non =>
    cases ry
    cases x with
    | non => cases rx; exact SeqAt.EqAt.same _
    | bl b => cases rx; exact SeqAt.EqAt.none_bool b
    | int b => obtain ⟨t, rfl⟩ := rx; exact SeqAt.EqAt.none_int b t
    | str b => obtain ⟨t, rfl⟩ := rx; exact SeqAt.EqAt.none_str b t
    | _ => exact absurd (show false = true from fx) Bool.false_ne_true
  | bl a =>
    cases ry
    cases x with
    | non => cases rx; exact SeqAt.EqAt.bool_none a
    | bl b => cases rx; exact SeqAt.EqAt.bool_bool a b
    | int b => obtain ⟨t, rfl⟩ := rx; exact SeqAt.EqAt.bool_int a b t
    | str b => obtain ⟨t, rfl⟩ := rx; exact SeqAt.EqAt.bool_str a b t
    | _ => exact absurd (show false = true from fx) Bool.false_ne_true
  | int a =>
    obtain ⟨t', rfl⟩ := ry
    cases x with
    | non => cases rx; exact SeqAt.EqAt.int_none a t'
    | bl b => cases rx; exact SeqAt.EqAt.int_bool a t' b
    | int b => obtain ⟨t, rfl⟩ := rx; exact SeqAt.EqAt.int_int a t' b t
    | str b => obtain ⟨t, rfl⟩ := rx; exact SeqAt.EqAt.int_str a t' b t
    | _ => exact absurd (show false = true from fx) Bool.false_ne_true
  | str a =>
    obtain ⟨t', rfl⟩ := ry
    cases x with
    | non => cases rx; exact SeqAt.EqAt.str_none a t'
    | bl b => cases rx; exact SeqAt.EqAt.str_bool a t' b
    | int b => obtain ⟨t, rfl⟩ := rx; exact SeqAt.EqAt.str_int a t' b t
    | str b => obtain ⟨t, rfl⟩ := rx; exact SeqAt.EqAt.str_str a t' b t
    | _ => exact absurd (show false = true from fx) Bool.false_ne_true
  | _ => exact absurd (show false = true from fy) Bool.false_ne_true
def eqU (x : V) (u : Value) : Bool := match u with
  | .none => eqV .non x
  | .bool b => eqV (.bl b) x
  | .int i _ => eqV (.int i) x
  | .str z _ => eqV (.str z) x
  | _ => false
theorem eqU_of {x y : V} {u : Value} (r : RelV y u) (f : flatV y = true) : eqU x u = eqV y x := by
  cases y with
  | non => cases r; rfl
  | bl b => cases r; rfl
  | int i => obtain ⟨t, rfl⟩ := r; rfl
  | str z => obtain ⟨t, rfl⟩ := r; rfl
  | _ => exact absurd (show false = true from f) Bool.false_ne_true
theorem any_eqU {x : V} : ∀ {xs : List V} {us : List Value}, Vals xs us → xs.all flatV = true → us.any (eqU x) = xs.any fun y => eqV y x
  | _, _, .nil, _ => rfl
  | y :: xs, u :: us, .cons r t, f => by
    rw [List.all_cons, Bool.and_eq_true] at f
    rw [List.any_cons, List.any_cons, eqU_of r f.1, any_eqU t f.2]
theorem mem_eqAt {A : Around} {s : Shared} {x : V} {v : Value} (rx : RelV x v) (fx : flatV x = true) : ∀ {xs : List V} {us : List Value}, Vals xs us → xs.all flatV = true → ∀ u ∈ us, SeqAt.EqAt A s u v (eqU x u)
  | _, _, .nil, _ => fun u hu => by cases hu
  | y :: xs, u :: us, .cons r t, f => fun u' hu => by
    rw [List.all_cons, Bool.and_eq_true] at f
    rcases List.mem_cons.mp hu with rfl | hu
    · rw [eqU_of r f.1]; exact eqAt_V r rx f.1 fx
    · exact mem_eqAt rx fx t f.2 u' hu
def inV (x : V) (xs : List V) : Bool := xs.any fun y => eqV y x
def rIn (K : PySem.W.Frag) (neg : Bool) : R2 := fun x y H Q => ∃ p xs, y = .ref p ∧ (SqL K H p xs ∨ SqT K H p xs) ∧ flatV x = true ∧ xs.all flatV = true ∧ Q (.bl (if neg then !inV x xs else inV x xs)) H
theorem op_in_seq : OpR X (compareOp .In) (rIn X.K false) := by
  intro pins s σ H x y v u Q I rx ry h
  obtain ⟨p, xs, rfl, hq, fx, fs, q⟩ := h
  cases ry
  rcases hq with hq | hq
  · obtain ⟨its, r, pl, hz⟩ := I.list hq
    refine SeqAt.in_listAt (eqU x) pl.isList (fun w hw => mem_eqAt rx fx r fs w (by simpa using hw)) ⟨.bl _, H, I, rfl, ?_⟩
    rw [show its.toArray.any (eqU x) = its.any (eqU x) by simp, any_eqU r fs]
    exact q
  · obtain ⟨its, r, pl, hz⟩ := I.tuple hq
    refine SeqAt.in_tupleAt (eqU x) pl (fun w hw => mem_eqAt rx fx r fs w (by simpa using hw)) ⟨.bl _, H, I, rfl, ?_⟩
    rw [show its.toArray.any (eqU x) = its.any (eqU x) by simp, any_eqU r fs]
    exact q
theorem op_notIn_seq : OpR X (compareOp .NotIn) (rIn X.K true) := by
  intro pins s σ H x y v u Q I rx ry h
  obtain ⟨p, xs, rfl, hq, fx, fs, q⟩ := h
  cases ry
  rcases hq with hq | hq
  · obtain ⟨its, r, pl, hz⟩ := I.list hq
    refine SeqAt.notIn_listAt (eqU x) pl.isList (fun w hw => mem_eqAt rx fx r fs w (by simpa using hw)) ⟨.bl _, H, I, rfl, ?_⟩
    rw [show its.toArray.any (eqU x) = its.any (eqU x) by simp, any_eqU r fs]
    exact q
  · obtain ⟨its, r, pl, hz⟩ := I.tuple hq
    refine SeqAt.notIn_tupleAt (eqU x) pl (fun w hw => mem_eqAt rx fx r fs w (by simpa using hw)) ⟨.bl _, H, I, rfl, ?_⟩
    rw [show its.toArray.any (eqU x) = its.any (eqU x) by simp, any_eqU r fs]
    exact q
theorem call_len_seq : CallR X (.builtin "len") (fun xs H Q => ∃ p ys, xs = [.ref p] ∧ (SqL X.K H p ys ∨ SqT X.K H p ys) ∧ Q (.int ys.length) H) := by
  intro pins s σ H xs us Q I r h
  obtain ⟨p, ys, rfl, hq, q⟩ := h
  obtain ⟨u, rfl, rx⟩ := vals1 r
  cases rx
  have hn := line63
  rcases hq with hq | hq
  · obtain ⟨its, r', pl, hz⟩ := I.list hq
    have hlen := r'.length
    exact Calls.call_len_list pl.isList (by simp only [List.size_toArray] <;> omega) ⟨.int ys.length, H, I.tok _, ⟨s.toks + 1, by rw [List.size_toArray, hlen]⟩, q⟩
  · obtain ⟨its, r', pl, hz⟩ := I.tuple hq
    have hlen := r'.length
    exact len_tuple pl (by simp only [List.size_toArray] <;> omega) ⟨.int ys.length, H, I.tok _, ⟨s.toks + 1, by rw [List.size_toArray, hlen]⟩, q⟩
theorem call_len_str : CallR X (.builtin "len") (fun xs H Q => ∃ z, xs = [.str z] ∧ z.length ≤ sizeLine ∧ Q (.int z.length) H) := by
  intro pins s σ H xs us Q I r h
  obtain ⟨z, rfl, hz, q⟩ := h
  obtain ⟨u, rfl, t, rfl⟩ := vals1 r
  have hn := line63
  exact len_str (by omega) ⟨.int z.length, H, I.tok _, ⟨_, rfl⟩, q⟩
theorem call_list_of : CallR X (.type "list") (fun xs H Q => ∃ p ys, xs = [.ref p] ∧ (SqL X.K H p ys ∨ SqT X.K H p ys) ∧ ∀ l, H l = none → Q (.ref l) (upd H l (.lst ys))) := by
  intro pins s σ H xs us Q I r h
  obtain ⟨p, ys, rfl, hq, q⟩ := h
  obtain ⟨u, rfl, rx⟩ := vals1 r
  cases rx
  have fin : ∀ (its : List Value), Vals ys its → ys.length ≤ sizeLine → ∀ (h' : Heap) (c' : Nat), (∀ b o', s.heap.get? b = some o' → h'.get? b = some o') →
      h'.get? s.heap.objs.size = some { cls := .type "list", dict := none, data := .seq its.toArray c', slots := #[] } → EP X pins σ Q (.ref s.heap.objs.size) { s with heap := h' } := fun its r' hz h' c' kp e =>
    ⟨.ref s.heap.objs.size, _, I.laid (t' := s.toks) kp (Nat.le_refl _) (show ObjOk X.prog X.w _ h' _ (.lst ys) from ⟨hz, its, c', r', e⟩), rfl, q _ (I.hok.fresh (Nat.le_refl _))⟩
  rcases hq with hq | hq
  · obtain ⟨its, r', pl, hz⟩ := I.list hq
    have hlen := r'.length
    obtain ⟨o, ho, hc, n, hd⟩ := pl.isList
    exact call_list_seq p (.inl rfl) ho hc hd (fun h' c' kp e => fin its r' hz h' c' kp e) (by simp only [List.size_toArray] <;> omega)
  · obtain ⟨its, r', pl, hz⟩ := I.tuple hq
    have hlen := r'.length
    obtain ⟨o, ho, hc, n, hd⟩ := pl
    exact call_list_seq p (.inr rfl) ho hc hd (fun h' c' kp e => fin its r' hz h' c' kp e) (by simp only [List.size_toArray] <;> omega)
theorem call_tuple_of : CallR X (.type "tuple") (fun xs H Q => ∃ p ys, xs = [.ref p] ∧ ((SqL X.K H p ys ∧ ∀ l, H l = none → Q (.ref l) (upd H l (.tup ys))) ∨ (SqT X.K H p ys ∧ Q (.ref p) H))) := by
  intro pins s σ H xs us Q I r h
  obtain ⟨p, ys, rfl, h⟩ := h
  obtain ⟨u, rfl, rx⟩ := vals1 r
  cases rx
  rcases h with ⟨hq, q⟩ | ⟨hq, q⟩
  · obtain ⟨its, r', pl, hz⟩ := I.list hq
    have hlen := r'.length
    refine call_tuple_list pl.isList (fun h' kp => ?_) (by simp only [List.size_toArray] <;> omega)
    have I1 : Inv X pins σ H { s with heap := h' } := I.kept (t' := s.toks) kp
    have I2 : Inv X pins σ (upd H h'.objs.size (.tup ys)) { s with heap := h'.push { cls := .type "tuple", data := .seq its.toArray } } :=
      I1.laid (t' := s.toks) (fun b o e => Heap.get?_push_of_some _ e) (Nat.le_refl _) (show ObjOk X.prog X.w _ _ _ (.tup ys) from ⟨hz, its, r', IsTup.new _ _⟩)
    exact ⟨.ref h'.objs.size, _, I2, rfl, q _ (I1.hok.fresh (Nat.le_refl _))⟩
  · obtain ⟨its, r', pl, hz⟩ := I.tuple hq
    exact call_tuple_same pl ⟨.ref p, H, I, rfl, q⟩
def tyV (K : PySem.W.Frag) (T : String) (x : V) (H : Hp) : Prop := match x with
  | .str _ => T = "str"
  | .int _ => T = "int"
  | .ref p => (T = "list" ∧ ∃ xs, SqL K H p xs) ∨ (T = "tuple" ∧ ∃ o, K.lookup p = some o ∧ o.cls = .type "tuple" ∧ o.dict = none) ∨
      (T = "dict" ∧ ((∃ kvs, H p = some (.dK kvs)) ∨ ∃ kvs, H p = some (.dT kvs))) ∨ (T = "set" ∧ ∃ S n, H p = some (.set S n))
  | _ => False
theorem tyV_is {pins : List (Addr × Obj)} {σ : St} {H : Hp} {s : Shared} {T : String} {x : V} {v : Value} (I : Inv X pins σ H s) (r : RelV x v) (ty : tyV X.K T x H) :
    s.TypeIs v T ∧ ∀ a, v = .ref a → ∃ ob, s.heap.get? a = some ob ∧ ob.dict = none := by
  cases x with
  | str z =>
    obtain ⟨t, rfl⟩ := r
    cases (show T = "str" from ty)
    exact ⟨typeIs_str s z t, fun _ e => nomatch e⟩
  | int i =>
    obtain ⟨t, rfl⟩ := r
    cases (show T = "int" from ty)
    exact ⟨typeIs_int s i t, fun _ e => nomatch e⟩
  | ref p =>
    cases r
    rcases ty with ⟨rfl, xs, hq⟩ | ⟨rfl, o, hk, hc, hd⟩ | ⟨rfl, hk⟩ | ⟨rfl, S, n, hk⟩
    · obtain ⟨its, _, pl, _⟩ := I.list hq
      refine ⟨pl.isList.typeIs, fun a e => ?_⟩
      cases e
      obtain ⟨o, n, e, c, hd, _⟩ := pl
      exact ⟨o, e, hd⟩
    · refine ⟨⟨o, I.kIn p o hk, hc⟩, fun a e => ?_⟩
      cases e
      exact ⟨o, I.kIn _ o hk, hd⟩
    · have z : ∃ o, s.heap.get? p = some o ∧ o.ExactDict := by
        rcases hk with ⟨kvs, hk⟩ | ⟨kvs, hk⟩
        · obtain ⟨_, _, _, _, o, _, _, e, ex, _⟩ := I.hok p _ hk
          exact ⟨o, e, ex⟩
        · obtain ⟨_, _, _, _, o, _, _, e, ex, _⟩ := I.hok p _ hk
          exact ⟨o, e, ex⟩
      obtain ⟨o, e, ex⟩ := z
      refine ⟨⟨o, e, ex.1⟩, fun a e2 => ?_⟩
      cases e2
      exact ⟨o, e, ex.2.1⟩
    · obtain ⟨o, _, _, _, e, ex, _⟩ := I.hok p _ hk
      refine ⟨⟨o, e, ex.1⟩, fun a e2 => ?_⟩
      cases e2
      exact ⟨o, e, ex.2.1⟩
  | _ => exact False.elim ty
variable {o e : Expr} {es : List Expr} {to : TE} {t : TA} {name : Str} {apos cpos : Pos} {T id : String} {r : V → List V → Hp → VK → Prop}
/- xs.append(e), list.index on a module's tuple .. are MtR facts of 06m -/
end
end L2
namespace L2
open PySem PySem.Spec PyProof.Rows
def MtM (X : Cx) (id : String) (r : V → List V → Hp → VK → Prop) : Prop :=
  ∀ (pins : List (Addr × Obj)) (s : Shared) (σ : St) (H : Hp) (x : V) (xs : List V) (v : Value) (us : List Value) (Q : VK), Inv X pins σ H s → RelV x v → Vals xs us → r x xs H Q →
    wpAny (model X.prog X.w) X.A (call (.builtin id) (v :: us)) (EP X pins σ Q) X.xe s
theorem Vals.one : ∀ {x : V} {us : List Value}, Vals [x] us → ∃ u, us = [u] ∧ RelV x u
  | _, _, .cons r .nil => ⟨_, rfl, r⟩
theorem Vals.two : ∀ {x y : V} {us : List Value}, Vals [x, y] us → ∃ u v, us = [u, v] ∧ RelV x u ∧ RelV y v
  | _, _, _, .cons r (.cons q .nil) => ⟨_, _, rfl, r, q⟩
theorem Vals.zero : ∀ {us : List Value}, Vals [] us → us = []
  | _, .nil => rfl
section
variable {X : Cx} {pins : List (Addr × Obj)} {σ : St} {H : Hp} {s : Shared} {l b : Addr} {xs ys zs : List V}
theorem Inv.lset {its its' : List Value} {n : Nat} {f : Array Value → Array Value} {t' : Nat} (I : Inv X pins σ H s) (hH : H l = some (.lst xs))
    (e : s.heap.get? l = some { cls := .type "list", data := .seq its.toArray n }) (hf : f its.toArray = its'.toArray) (hv : Vals ys its') (hz : ys.length ≤ sizeLine) :
    Inv X pins σ (upd H l (.lst ys)) { s with heap := s.heap.update l (Obj.mapSeq f), toks := t' } := by
  have q := PySem.IsL.update e f
  rw [hf] at q
  refine I.write (x := l) (e := l) (by rw [hH]; exact trivial) (.inl rfl) (fun b' u hb hu => (Heap.get?_update_other s.heap (Obj.mapSeq f) (Ne.symm hb)).trans hu) ⟨_, q⟩ ?_
  exact ⟨hz, its', _, hv, q⟩
theorem Inv.lnew {its : List Value} {t' : Nat} (I : Inv X pins σ H s) (hv : Vals ys its) (hz : ys.length ≤ sizeLine) :
    Inv X pins σ (upd H s.heap.objs.size (.lst ys)) { s with heap := s.heap.push { cls := .type "list", data := .seq its.toArray }, toks := t' } :=
  I.laid (fun _ _ q => Heap.get?_push_of_some _ q) (Nat.le_refl _) ⟨hz, its, 0, hv, Heap.get?_push_size _ rfl⟩
theorem Inv.fresh (I : Inv X pins σ H s) : H s.heap.objs.size = none := I.hok.fresh (Nat.le_refl _)
theorem Inv.lstM (I : Inv X pins σ H s) (hH : H l = some (.lst xs)) : xs.length ≤ sizeLine ∧ ∃ (its : List Value) (n : Nat), Vals xs its ∧ xs.length = its.length ∧ s.heap.get? l = some { cls := .type "list", data := .seq its.toArray n } := by
  obtain ⟨z, its, n, r, e⟩ := I.hok l _ hH
  exact ⟨z, its, n, r, r.length, e⟩
theorem notLongL {n : Nat} (h : n ≤ sizeLine) : Builtin.List.listTooLong n = false := by
  unfold Builtin.List.listTooLong
  exact decide_eq_false (by omega)
end
section
variable {X : Cx}
def rAppend : V → List V → Hp → VK → Prop := fun x vs H Q => ∃ l xs y, x = .ref l ∧ vs = [y] ∧ H l = some (.lst xs) ∧ xs.length < sizeLine ∧ Q .non (upd H l (.lst (xs ++ [y])))
theorem mt_append : MtM X "list.append" rAppend := by
  intro pins s σ H x vs v us Q I rx rv h
  obtain ⟨l, xs, y, rfl, rfl, hH, hz, q⟩ := h
  cases rx
  obtain ⟨u, rfl, ru⟩ := rv.one
  obtain ⟨z, its, n, r, hl, e⟩ := I.lstM hH
  refine call_meets F.slot_list_append ⟨_, e, rfl⟩ F.entry_list_append (F.args_list_append_2 _ _) (PySem.list_append l its.toArray n u (by rw [List.size_toArray]; omega)) ⟨e, ?_⟩
  refine ⟨.non, _, I.lset (its' := its ++ [u]) hH e (by simp) (r.append (.cons ru .nil)) ?_, rfl, q⟩
  rw [List.length_append, List.length_singleton]
  omega
def rExtend : V → List V → Hp → VK → Prop := fun x vs H Q => ∃ l b xs zs, x = .ref l ∧ vs = [.ref b] ∧ H l = some (.lst xs) ∧ H b = some (.lst zs) ∧ xs.length + zs.length ≤ sizeLine ∧ Q .non (upd H l (.lst (xs ++ zs)))
theorem mt_extend : MtM X "list.extend" rExtend := by
  intro pins s σ H x vs v us Q I rx rv h
  obtain ⟨l, b, xs, zs, rfl, rfl, hH, hB, hz, q⟩ := h
  cases rx
  obtain ⟨u, rfl, ru⟩ := rv.one
  cases ru
  obtain ⟨z, its, n, r, hl, e⟩ := I.lstM hH
  obtain ⟨z2, its2, n2, r2, hl2, e2⟩ := I.lstM hB
  have hsz : its.toArray.size + its2.toArray.size ≤ sizeLine := by rw [List.size_toArray, List.size_toArray]; omega
  have hlong : ¬ (!its.toArray.isEmpty && Builtin.List.listTooLong (its.toArray.size + its2.toArray.size)) = true := by
    rw [notLongL hsz, Bool.and_false]
    exact Bool.false_ne_true
  refine call_meets F.slot_list_extend ⟨_, e, rfl⟩ F.entry_list_extend (F.args_list_extend_2 _ _)
    (AutoSeq1.list_extend_list_list_0 l its.toArray n b its2.toArray n2 hlong (by rw [List.size_toArray]; omega) (by omega)) ⟨e, e2, ?_⟩
  refine ⟨.non, _, I.lset (its' := its ++ its2) hH e (by simp) (r.append r2) ?_, rfl, q⟩
  rw [List.length_append]
  omega
def rClear : V → List V → Hp → VK → Prop := fun x vs H Q => ∃ l xs, x = .ref l ∧ vs = [] ∧ H l = some (.lst xs) ∧ Q .non (upd H l (.lst []))
theorem mt_clear : MtM X "list.clear" rClear := by
  intro pins s σ H x vs v us Q I rx rv h
  obtain ⟨l, xs, rfl, rfl, hH, q⟩ := h
  cases rx
  have hus := rv.zero
  subst hus
  obtain ⟨z, its, n, r, hl, e⟩ := I.lstM hH
  refine call_meets F.slot_list_clear ⟨_, e, rfl⟩ F.entry_list_clear (F.args_list_clear_1 _) (AutoSeq1.list_clear_list_0 l its.toArray n (by rw [List.size_toArray]; omega)) ⟨e, ?_⟩
  exact ⟨.non, _, I.lset (its' := []) (ys := []) hH e rfl .nil (Nat.zero_le _), rfl, q⟩
def rCat : R2 := fun x y H Q => ∃ l b xs zs, x = .ref l ∧ y = .ref b ∧ H l = some (.lst xs) ∧ H b = some (.lst zs) ∧ xs.length + zs.length ≤ sizeLine ∧ ∀ p, H p = none → Q (.ref p) (upd H p (.lst (xs ++ zs)))
theorem op_cat : OpR X (binaryOp .Add) rCat := by
  intro pins s σ H x y v u Q I rx ry h
  obtain ⟨l, b, xs, zs, rfl, rfl, hH, hB, hz, q⟩ := h
  cases rx
  cases ry
  obtain ⟨z, its, n, r, hl, e⟩ := I.lstM hH
  obtain ⟨z2, its2, n2, r2, hl2, e2⟩ := I.lstM hB
  refine PySem.P.add_list e e2 ?_ (by rw [List.size_toArray, List.size_toArray]; omega)
  have ea : its.toArray ++ its2.toArray = (its ++ its2).toArray := by simp
  rw [ea]
  exact ⟨.ref _, _, I.lnew (t' := s.toks) (r.append r2) (by rw [List.length_append]; omega), rfl, q _ I.fresh⟩
end
section
variable {prog : Program} {w : World} {A : Around} {E : Value → Shared → Prop} {s : Shared}
set_option maxRecDepth 100000 in
end
section
variable {X : Cx}
end
end L2
namespace Att
open PySem PySem.W PySem.Calls PyProof.Rows
theorem ints_of_wellAll {P : Params} {h : Heap} : ∀ (ns : List Int) (vs : List Value), WellAll P h vs (ns.map WData.int) → IntsAre vs ns := by
  intro ns
  induction ns with
  | nil =>
    intro vs w
    rw [List.map_nil] at w
    cases w
    exact .nil
  | cons n ns ih =>
    intro vs w
    rw [List.map_cons] at w
    cases w with
    | cons a b =>
      cases a
      exact .cons _ _ (ih _ b)
theorem script_of {l : OpenLaw} {n : Nat} (hn : l.most = some n) {P : Params} {h : Heap} {args : List WData} {vals : List Value}
    (hpre : l.row.toRowW.claim.pre args = true) (hwl : WellAll P h vals args) :
    ∃ a vs ns, vals = [Value.ref a] ∧ args = [WData.list (ns.map WData.int)] ∧ h.get? a = some { cls := .type "list", data := .seq vs.toArray } ∧ IntsAre vs ns ∧ ns.length ≤ n := by
  have hsh : WShape.hasAll [] args [.list .int] = true := (pre_splitW hpre).1
  have hc : l.pre.holds [] { args := args } = true := (pre_splitW hpre).2
  obtain ⟨d, r, rfl, h1, h2⟩ := hasAllW_cons hsh
  obtain rfl := hasAllW_nil h2
  obtain ⟨xs, rfl, h3⟩ := hasW_list h1
  obtain ⟨ns, rfl⟩ := items_int h3
  have hlen : ns.length ≤ n := by
    unfold OpenLaw.pre at hc
    have h4 : (WTm.not (.lt (.lit (.int (n : Int))) (.len (.arg 0)))).holds [] { args := [.list (ns.map .int)] } = true := by
      have h4 := (holds_andW hc).1
      rw [hn] at h4
      exact h4
    have h5 := condW_of h4 (w_not (w_lt w_lit (w_len_list (w_arg rfl))))
    rw [List.length_map] at h5
    refine Nat.le_of_not_lt fun q => ?_
    have q' : (n : Int) < ((ns.length : Nat) : Int) := by omega
    first
      | (rw [decide_eq_true q'] at h5; exact absurd h5 (by decide))
      | (simp at h5; omega)
  cases hwl with
  | cons w1 w2 =>
    cases w2
    cases w1 with
    | list ho hall => exact ⟨_, _, ns, rfl, rfl, ho, ints_of_wellAll ns _ hall, hlen⟩
theorem post_true (l : OpenLaw) (args : List WData) : l.row.toRowW.claim.post args (.bool true) args = true :=
  postW_of (r := l.row.toRowW) (X := (true == true))
    (show WShape.has [] (.bool true) .bool = true by first | rfl | decide | simp [WShape.has, WShape.arms, WShape.armsAll])
    (show (WTm.eq .res (.lit (.bool true))).value [] { args := args, res := some (.bool true), after := args } = some (.bool (true == true)) from w_eq_bool (w_res rfl) w_lit) rfl
theorem attach_call {l : OpenLaw} {n : Nat} {q : Program} {loose : List Str} {XP : (Str → Option Value) → Heap → Prop} {YP : World → Heap → Prop} {d : DefRec}
    (hn : l.most = some n) (hdf : d.params.defaults = [])
    (call : ∀ (w : World) (s₀ s₁ : Shared) (mg mb : Str → Option Value) (fa : Addr) (o : Obj) (pm cd doc : Value) (a : Addr) (vs : List Value) (ns : List Int),
      Ground q loose [] XP w s₀ mg mb s₁.heap → YP w s₁.heap →
      s₁.heap.get? fa = some o → o.data = .func (docDef d.name d.params d.body d.scope pm cd doc) → s₁.heap.CodeRec cd d.name → mg d.name = some (.ref fa) →
      s₁.heap.get? a = some { cls := .type "list", data := .seq vs.toArray } → IntsAre vs ns → ns.length ≤ n → s₁.gens = #[] →
      codeAny (model l.prog w) callerA (.call (.ref fa) ⟨[.ref a], []⟩) (fun r s' => r = .ok (.ret (.bool true)) ∧ OldK s₁.heap s'.heap ∧ s'.os = s₁.os ∧ AllBare s'.gens) s₁) :
    WalkO q loose XP YP l.row.toRowW d [] (fun f vs => PySem.call f vs) := by
  intro w s₀ s₁ mg mb G Y fa o pm cd doc dV kV ho hd hcd hD hmg hg args vals as hpre hlay hrd hwl hlo
  obtain rfl : dV = .none := Dflts.none hD hdf
  obtain rfl : kV = .none := Dflts.noKw hD
  obtain ⟨a, vs, ns, rfl, rfl, hobj, hints, hlen⟩ := script_of hn hpre hwl
  refine enter_call (codeAny_mono (call w s₀ s₁ mg mb fa o pm cd doc a vs ns G Y ho (fd_plain hd) hcd hmg hobj hints hlen hg) fun r s' hq => ?_)
  obtain ⟨rfl, h2, h3, h4⟩ := hq
  exact ⟨.inl ⟨.bool true, .bool true, [], rfl, fun _ => rfl, .bool true, post_true l _, fun _ => ⟨List.Pairwise.nil, fun _ hm => (nomatch hm)⟩⟩, h2, h3, h4⟩
section
variable {prog : Program} {w : World} {A : Around} {E : Value → Shared → Prop} {s : Shared} {K : Frag}
end
end Att
namespace L2
open PySem PySem.Spec PyProof.Rows
theorem vals_ints : ∀ {vs : List Value} {ns : List Int}, IntsAre vs ns → Vals (ns.map V.int) vs
  | _, _, .nil => .nil
  | _, _, .cons n t h => .cons ⟨t, rfl⟩ (vals_ints h)
def Only (H : Hp) : Prop := ∀ b, H b = none ∨ ∃ o xs, H b = some (.frz o (.lst xs))
theorem law_call {P : Program} {w : World} {K : PySem.W.Frag} {mg mb : Str → Option Value} {CX : CXT} {k : Nat} {fa a : Addr} {fd : FuncData} {x : Str} {sp : Sp} {s₁ : Shared} {vs : List Value} {ns : List Int}
    (KX : K.In s₁.heap) (hns : s₁.heap.Ns mainGlobals mg) (hb : s₁.heap.Ns builtinsNs mb) (hbb : ∀ x : Str, x ≠ "__name__" → mb x = bootBuiltins x) (hlim : s₁.heap.NoLimit) (hg : s₁.gens = #[])
    (ha : s₁.heap.get? a = some { cls := .type "list", data := .seq vs.toArray }) (hi : IntsAre vs ns) (hl : ns.length ≤ sizeLine) (hr : Room k callerA)
    (F : ∀ base : Heap, K.In base → base.Ns mainGlobals mg → FnOk P w K mg base CX k fa fd [x] sp) (hbind : ∀ (s : Shared) (u : Value), BindsTo s fd ⟨[u], []⟩ [(x, u)])
    (hsp : ∀ H : Hp, Only H → SqL K H a (ns.map V.int) → sp [.ref a] H (fun v _ => v = .bl true) fun _ _ _ => False)
    (hCX : ∀ H e s', CX [] H s₁ (fun _ _ _ => False) e s' → False) :
    codeAny (model P w) callerA (.call (.ref fa) ⟨[.ref a], []⟩) (fun r s' => r = .ok (.ret (.bool true)) ∧ OldK s₁.heap s'.heap ∧ s'.os = s₁.os ∧ AllBare s'.gens) s₁ := by
  have rv := vals_ints hi
  have lenV := hi.length
  have core : ∀ H : Hp, Only H → SqL K H a (ns.map V.int) → HOk P w H s₁.heap → (∀ b, H b ≠ none → b = a) → (H a ≠ none → K.lookup a = none) →
      codeAny (model P w) callerA (.call (.ref fa) ⟨[.ref a], []⟩) (fun r s' => r = .ok (.ret (.bool true)) ∧ OldK s₁.heap s'.heap ∧ s'.os = s₁.os ∧ AllBare s'.gens) s₁ := by
    intro H hO hS hok hA hK
    have base_of : ∀ {b : Addr} {o : Obj}, s₁.heap.get? b = some o → H b = none → (hidT s₁.heap H).get? b = some o := fun e n => hidT_get e n
    have noA : ∀ {b : Addr} {o : Obj} {es : Array DictEntry} {ep : Nat}, s₁.heap.get? b = some o → o.data = .dict es ep → H b = none := fun {b o es ep} e d => by
      cases q : H b with
      | none => rfl
      | some u =>
        have e' : b = a := hA b (by rw [q]; simp)
        subst e'
        rw [ha] at e; cases e
        have d' : Data.seq vs.toArray _ = Data.dict es ep := d
        cases d'
    have nsK : ∀ {b : Addr} {m : Str → Option Value}, s₁.heap.Ns b m → (hidT s₁.heap H).Ns b m := fun {b m} ⟨o, es, ep, e, d, r⟩ => ⟨o, es, ep, base_of e (noA e d), d, r⟩
    have hKb : K.In (hidT s₁.heap H) := fun b o e => base_of (KX b o e) (by
      cases q : H b with
      | none => rfl
      | some u =>
        have e' : b = a := hA b (by rw [q]; simp)
        subst e'
        rw [hK (by rw [q]; simp)] at e; cases e)
    have hM : Mod K mg (hidT s₁.heap H) := ⟨hKb, nsK hns, ⟨mb, nsK hb, hbb⟩, let ⟨mc, h1, h2⟩ := hlim; ⟨mc, nsK h1, h2⟩⟩
    have e0 : Env0 P w K mg (hidT s₁.heap H) callerA [] s₁ H := ⟨rfl, hM, fun b o e => of_hidT e, Nat.le_of_eq (hidT_size _ _), trivial, fun b hb => absurd (show b ∈ ([] : List Addr) from hb) (by simp), hok, .of_eq hg⟩
    refine codeAny_mono ((F _ hKb (nsK hns)).run callerA [] s₁ H ⟨[.ref a], []⟩ [.ref a] [.ref a] _ _ hr e0 (hbind s₁ (.ref a)) (.cons rfl .nil) (hsp H hO hS)) fun r s' h => ?_
    cases r with
    | error e => exact (hCX H e s' h).elim
    | ok fl =>
      cases fl with
      | next => exact False.elim h
      | brk => exact False.elim h
      | cont => exact False.elim h
      | ret u =>
        obtain ⟨v, H', os, bare, un, hok', r', q⟩ := h
        have q' : v = .bl true := q
        subst q'
        obtain rfl : u = Value.bool true := r'
        refine ⟨rfl, OldK.of_keep fun b o e => ?_, os, bare⟩
        cases q : H b with
        | none => exact un.keep b o e q (by intro z; exact absurd (show b ∈ ([] : List Addr) from z) (by simp)) (by simp)
        | some u =>
          rcases hO b with z | ⟨ob, xs, z⟩
          · rw [q] at z; cases z
          · have z2 := un.frzs b ob _ z
            obtain ⟨e1, _⟩ := hok b _ z
            obtain ⟨e2, _⟩ := hok' b _ z2
            rw [e] at e1; cases e1
            exact e2
  cases hk : K.lookup a with
  | some o =>
    have e := KX a o hk
    rw [ha] at e
    cases e
    refine core (fun _ => none) (fun _ => .inl rfl) (.inr ⟨_, vs.toArray, _, hk, rfl, rfl, rfl, by rw [List.size_toArray, lenV]; exact hl, by simpa using rv⟩) (fun b u z => by have z' : (none : Option HO) = some u := z; cases z') (fun b z => absurd rfl z) fun z => absurd rfl z
  | none =>
    refine core (fun b => if b = a then some (.frz { cls := .type "list", data := .seq vs.toArray } (.lst (ns.map V.int))) else none) (fun b => ?_) (.inl (.inr ⟨{ cls := .type "list", data := .seq vs.toArray }, if_pos rfl⟩)) (fun b u z => ?_) (fun b z => ?_) fun _ => hk
    · by_cases hb : b = a
      · exact .inr ⟨_, _, if_pos hb⟩
      · exact .inl (if_neg hb)
    · by_cases hb : b = a
      · have z' := (if_pos hb).symm.trans z
        cases z'
        subst hb
        exact ⟨ha, by rw [List.length_map]; exact hl, vs, _, rv, ha⟩
      · have z' := (if_neg hb).symm.trans z
        cases z'
    · by_cases hb : b = a
      · exact hb
      · exact absurd (if_neg hb) z
end L2
namespace L2
open PySem PySem.Spec PyProof.Rows
theorem walk_of {l : PySem.W.OpenLaw} {n k : Nat} {q : Program} {loose : List Str} {XP : (Str → Option Value) → Heap → Prop} {YP : World → Heap → Prop} {d : DefRec} {K : Params → PySem.W.Frag} {CX : World → CXT} {sp : World → Sp} {x : Str}
    (hn : l.most = some n) (hn2 : n ≤ sizeLine) (hdf : d.params.defaults = []) (hr : Room k callerA)
    (hY : ∀ (w : World) (h : Heap), YP w h → (K w.params).In h)
    (F : ∀ (w : World) (mg : Str → Option Value) (fa : Addr) (h : Heap), (K w.params).In h → h.Ns mainGlobals mg → mg d.name = some (.ref fa) →
      ∃ fd : FuncData, (∀ (s : Shared) (u : Value), BindsTo s fd ⟨[u], []⟩ [(x, u)]) ∧
        ∀ base : Heap, (K w.params).In base → base.Ns mainGlobals mg → FnOk l.prog w (K w.params) mg base (CX w) k fa fd [x] (sp w))
    (hsp : ∀ (w : World) (H : Hp) (a : Addr) (ns : List Int), ns.length ≤ n → Only H → SqL (K w.params) H a (ns.map V.int) → sp w [.ref a] H (fun v _ => v = .bl true) fun _ _ _ => False)
    (hCX : ∀ (w : World) (H : Hp) (s : Shared) (e : Value) (s' : Shared), CX w [] H s (fun _ _ _ => False) e s' → False) :
    PySem.W.WalkO q loose XP YP l.row.toRowW d [] (fun f vs => PySem.call f vs) := by
  refine Att.attach_call hn hdf fun w s₀ s₁ mg mb fa o pm cd doc a vs ns G Y ho hd hcd hmg hobj hints hlen hg => ?_
  have KX := hY w _ Y
  obtain ⟨fd, hb, hF⟩ := F w mg fa _ KX G.T.g hmg
  exact law_call KX G.T.g G.T.b G.T.builtins G.T.nolimit hg hobj hints (Nat.le_trans hlen hn2) hr hF hb (fun H hO hS => hsp w H a ns hlen hO hS) fun H e s' => hCX w H s₁ e s'
end L2
/- THE LAST THEOREM (shape; LID, My.* are yours):
   My.Adr: a structure of the addresses that your layer names (classes, functions); My.Txt K t: a structure (Prop) of the equations over K;
   My.txt_mk : {K} {implicit addresses ..} (e1 : nsIn K mainGlobals "law" = some (some (.ref f))) (e2 : K.lookup f = some ⟨oc, od, .func (fnOf "law" "law" params body scope dV kV doc pm an cdv ct), sl⟩) (e3 : codeIn K cdv "law" = true) .. : ∃ t, My.Txt K t
set_option maxRecDepth 100000 in
set_option maxHeartbeats 0 in
theorem PySem.Challenge.cw_LID_holds : PySem.Challenge.rw_LID.Holds := by
  w_on; o_law; k_head; (case hw => w_witness2)
  k_fill
  refine L2.walk_of (l := PySem.Challenge.rw_LID) (n := 63) (k := 40) (x := "script") (CX := fun w => ..) (sp := fun _ => My.sp_law) rfl (by decide) rfl ⟨rfl, by decide, by decide⟩ (fun w h Y => PySem.W.kIn_of Y) ?F ?S ?C
  case F =>
    intro w mg fa h KX G hmg
    have T : ∃ t, My.Txt (L2.KOf KX) t := by
      dsimp only [L2.KOf]                          -- K must stand as «<heap const> w.params» for k_is
      refine' My.txt_mk ?e1 ?e2 ?e3 ..
      (case e1 => PySem.W.k_is)                    -- in the order: a name -> its address -> its object -> its parts
      (case e2 => PySem.W.k_is)
      ..
    obtain ⟨t, T⟩ := T
    have e0 := hmg.symm.trans (PySem.W.mg_of KX G T.law)
    cases e0                                       -- fa is the law's own address
    exact ⟨_, fun s u => .of_eq rfl, fun base kb nb => My.law_fn T kb nb⟩     -- if «.of_eq rfl» comes too early: refine' ⟨_, ?b, fun base kb nb => My.law_fn T kb nb⟩; exact fun s u => .of_eq rfl
  case S => exact fun w H a ns hl hO hS => ..
  case C => exact ..
(the tactic k_is has no namespace: write k_is) -/
namespace L2
open PySem PySem.Spec PyProof.Rows
def inClass (s : Stmt) (j : Nat) : Stmt := match s with
  | .ClassDef _ _ _ body _ _ _ _ _ _ _ => body.getD j (.Pass ⟨0, 0, 0, 0⟩)
  | _ => .Pass ⟨0, 0, 0, 0⟩
def defArgs (s : Stmt) : Arguments := match s with
  | .FunctionDef _ a _ _ _ _ _ _ _ _ => a
  | _ => { posonlyargs := [], args := [], vararg := none, kwonlyargs := [], kw_defaults := [], kwarg := none, defaults := [] }
def defBody (s : Stmt) : List Stmt := match s with
  | .FunctionDef _ _ b _ _ _ _ _ _ _ => b
  | _ => []
def defScope (s : Stmt) : Scope := match s with
  | .FunctionDef _ _ _ _ _ _ sc _ _ _ => sc
  | _ => { kind := .function, names := [], isGenerator := false, isCoroutine := false }
abbrev CX0 : CXT := fun _ _ _ _ _ _ => False
structure Fun (K : PySem.W.Frag) (x qual : Str) (st : Stmt) (f : Addr) (fd : FuncData) : Prop where
  ex : ∃ (oc : Value) (od : Option Addr) (kV doc pm : Value) (an : Option Addr) (cdv ct : Value) (osl : Array (Option Value)),
    fd = PySem.W.fnOf x qual (defArgs st) (defBody st) (defScope st) .none kV doc pm an cdv ct ∧ K.lookup f = some ⟨oc, od, .func fd, osl⟩ ∧ PySem.W.codeIn K cdv qual = true
  kp : PySem.W.keepIn K (.ref f) = true
section
variable {P : Program} {w : World} {K : PySem.W.Frag} {mg : Str → Option Value} {base : Heap}
theorem Fun.binds {x qual : Str} {st : Stmt} {f : Addr} {fd : FuncData} {ps : List Str} (F : Fun K x qual st f fd)
    (h : ∀ (kV doc pm : Value) (an : Option Addr) (cdv ct : Value) (us : List Value), us.length = ps.length → bindArgs (PySem.W.fnOf x qual (defArgs st) (defBody st) (defScope st) .none kV doc pm an cdv ct) ⟨us, []⟩ = pure (ps.zip us)) : Binds K fd ps [] := by
  obtain ⟨oc, od, kV, doc, pm, an, cdv, ct, osl, rfl, lk, hcd⟩ := F.ex
  exact .all (h kV doc pm an cdv ct)
theorem fun_mk {x qual : Str} {st : Stmt} {f : Addr} {oc : Value} {od an : Option Addr} {osl : Array (Option Value)} {kV doc pm cdv ct : Value} (l : K.lookup f = some ⟨oc, od, .func (PySem.W.fnOf x qual (defArgs st) (defBody st) (defScope st) .none kV doc pm an cdv ct), osl⟩)
    (c : PySem.W.codeIn K cdv qual = true) (k : PySem.W.keepIn K (.ref f) = true) : Fun K x qual st f (PySem.W.fnOf x qual (defArgs st) (defBody st) (defScope st) .none kV doc pm an cdv ct) := ⟨⟨oc, od, kV, doc, pm, an, cdv, ct, osl, rfl, l, c⟩, k⟩
end
section
variable {X : Cx}
end
theorem iteF {A B : Prop} (h : B) : if false = true then A else B := by
  rw [if_neg Bool.false_ne_true]
  exact h
theorem iteT {A B : Prop} (h : A) : if true = true then A else B := by
  rw [if_pos rfl]
  exact h
theorem ite2 {c A B : Prop} [Decidable c] (h1 : c → A) (h2 : ¬ c → B) : if c then A else B := by
  by_cases h : c
  · rw [if_pos h]
    exact h1 h
  · rw [if_neg h]
    exact h2 h
def Same (H H' : Hp) : Prop := ∀ b o, H b = some o → H' b = some o
theorem Same.refl (H : Hp) : Same H H := fun _ _ h => h
theorem Same.trans {H H1 H2 : Hp} (a : Same H H1) (b : Same H1 H2) : Same H H2 := fun c o h => b c o (a c o h)
theorem Same.free {H H' : Hp} (e : Same H H') {l : Addr} (h : H' l = Option.none) : H l = Option.none := by
  cases q : H l with
  | none => rfl
  | some o =>
    rw [e l o q] at h
    cases h
end L2
set_option maxRecDepth 100000
namespace L2
open PySem PySem.Spec PyProof.Rows
def Cx.comp (X : Cx) (N' : List Str) (scope : Scope) (cl : List (Str × Addr)) (fp : List Addr) (C : Addr) (s : Shared) (H : Hp) : Cx :=
  { prog := X.prog, w := X.w, K := X.K, mg := X.mg, base := X.base, A := X.A, N := N', s₀ := s, H₀ := H, env := compEnvC scope cl C X.env, outer := X.stack, stack := X.stack,
    ex := fp, fn := fun x => (cl.lookup x).isNone, calm := X.calm, pn := [], xe := fun _ _ => False }
def capt (srcs : List (Option Nat)) (σ : St) : St := srcs.map fun o => o.bind fun j => (σ[j]?).join
structure CompSc (X : Cx) (N' : List Str) (srcs : List (Option Nat)) (scope : Scope) (cl : List (Str × Addr)) : Prop where
  clos : closureFor scope X.env = pure cl
  nocell : ∀ y ∈ scope.names, y.2 ≠ .cell
  kind : scope.kind = .function
  names : ∀ y ∈ scope.names, y.2 = .local → scope.names.lookup y.1 = some .local
  sub : ∀ x c, cl.lookup x = some c → X.env.cells.lookup x = some c
  has : ∀ x, ((relabel scope X.env).names.lookup x = some .cell ∨ (relabel scope X.env).names.lookup x = some .free) → ∃ c, cl.lookup x = some c
  len : srcs.length = N'.length
  src : ∀ (k j : Nat) (x : Str), N'[k]? = some x → srcs[k]? = some (some j) → X.N[j]? = some x ∧ (X.env.scope.names.lookup x = some .cell ∨ X.env.scope.names.lookup x = some .free) ∧
    ((relabel scope X.env).names.lookup x = some .cell ∨ (relabel scope X.env).names.lookup x = some .free)
def PIfs (X : Cx) (ifs : List Expr) (t : TT) : Prop :=
  ∀ (pins : List (Addr × Obj)) (s : Shared) (σ : St) (H : Hp) (Q : Bool → Hp → Prop), Inv X pins σ H s → t σ H Q →
    wpAny (model X.prog X.w) X.A (forIn ifs true fun c r => if r = true then do let ok ← isTrue c X.env (eval c X.env); pure (ForInStep.yield ok) else pure (ForInStep.yield r)) (TP X pins σ Q) X.xe s
def tYes : TT := fun _ H Q => Q true H
theorem pifs_nil {X : Cx} : PIfs X [] tYes := fun _ _ _ H _ I h => wpAny_tests_nil ⟨H, I, h⟩
theorem pifs_one {X : Cx} {c : Expr} {t : TT} (h : PT X c t) : PIfs X [c] t := fun pins s σ H Q I q => wpAny_tests_one (h pins s σ H Q I q)
def tComp (srcs : List (Option Nat)) (wi : TI) (g : TG) (tc : TT) (te : TE) : TE := fun σ H Q => wi σ H fun J H1 => ∀ D, H1 D = none →
  ∃ W : Nat → Nat → St → Hp → Prop, (∃ m, W 0 m (capt srcs σ) (upd H1 D (.lst []))) ∧ ∀ i m σ' H', W i m σ' H' →
    (J.stop i H' ∧ Q (.ref D) H') ∨ (J.go i H' ∧ ∃ N : St → Hp → Prop, (∀ σ2 H2, N σ2 H2 → ∃ m', m' < m ∧ W (i + 1) m' σ2 H2) ∧ ∀ x H2, J.yld i H' x H2 → g x σ' H2 fun σ3 H3 => tc σ3 H3 fun b H4 => if b = true then
        te σ3 H4 fun v H5 => ∃ ys, H5 D = some (.lst ys) ∧ ys.length < sizeLine ∧ N σ3 (upd H5 D (.lst (ys ++ [v])))
      else N σ3 H4)
section
variable {g : TG} {tc : TT} {te : TE} {D : Addr} {R : Hp → Prop} {σ : St} {H : Hp}
end
theorem noxW {α : Type} {t : Sem α} {Q : α → Shared → Prop} {M : Model} {A : Around} {E : Value → Shared → Prop} {s : Shared} (h : wpAny M A t Q (fun _ _ => False) s) : wpAny M A t Q E s :=
  wpAny_mono h (fun _ _ q => q) fun _ _ f => f.elim
section
variable {prog : Program} {w : World} {A : Around} {E : Value → Shared → Prop} {R : Result → Shared → Prop} {s : Shared}
theorem compLoop_any {elt target iter : Expr} {ifs : List Expr} {scope : Scope} {pos : Pos} {it acc : Value} {env : Env} (I : Nat → Shared → Prop)
    (turn : ∀ n s, I n s → wpAny (model prog w) A (pyNext it) (fun r s₁ => match r with
      | none => R (.ok .next) s₁
      | some v => wpAny (model prog w) A (letOwnedTupleGo target it v) (fun _ s₀ => wpAny (model prog w) A (assign target env v) (fun _ s₂ =>
          wpAny (model prog w) A (forIn ifs true fun c r => if r = true then do let ok ← isTrue c env (eval c env); pure (ForInStep.yield ok) else pure (ForInStep.yield r)) (fun ok s₃ =>
            if ok = true then wpAny (model prog w) A (eval elt env) (fun x s₄ =>
              wpAny (model prog w) A (call (.builtin "list.append") [acc, x]) (fun _ s₅ => ∃ m, m < n ∧ I m s₅) (fun _ _ => False) s₄) (fun _ _ => False) s₃
            else ∃ m, m < n ∧ I m s₃) (fun _ _ => False) s₂) (fun _ _ => False) s₀) (fun _ _ => False) s₁) (fun _ _ => False) s)
    (n : Nat) (h : I n s) :
    codeAny (model prog w) A (.compLoop (.ListComp elt [⟨target, iter, ifs, 0⟩] scope pos) 0 it acc env) R s := by
  refine codeAny_loop rfl I (fun n s hI => ?_) n h
  show wpAny _ A ((compTurn (.ListComp elt [⟨target, iter, ifs, 0⟩] scope pos) 0 it acc env).onRaise (fun x => do noteFrame x env; theTreesLotGoes x)) _ _ s
  refine wpAny_noted (noxW ?_)
  rw [compTurn_list]
  refine wpAny_bind (wpAny_standAt (wpAny_bind (wpAny_mono (turn n s hI) (fun r s₁ h₁ => ?_) fun _ _ h' => h')))
  cases r with
  | none => exact wpAny_pure h₁
  | some v =>
    refine wpAny_bind (wpAny_mono h₁ (fun _ s₀ h₀ => ?_) fun _ _ h' => h')
    refine wpAny_bind (wpAny_mono h₀ (fun _ s₂ h₂ => wpAny_bind (wpAny_mono h₂ (fun ok s₃ h₃ => ?_) fun _ _ h' => h')) fun _ _ h' => h')
    cases ok with
    | false => exact wpAny_pure ⟨rfl, h₃⟩
    | true =>
      exact wpAny_bind (wpAny_bind (wpAny_mono h₃ (fun x s₄ h₄ => wpAny_bind (wpAny_mono h₄ (fun _ s₅ h₅ => wpAny_pure (wpAny_pure ⟨rfl, h₅⟩)) fun _ _ h' => h')) fun _ _ h' => h'))
end
section
variable {X : Cx} {elt tg iter : Expr} {ifs : List Expr} {scope : Scope} {pos : Pos} {N' : List Str} {srcs : List (Option Nat)} {cl : List (Str × Addr)} {wi : TI} {g : TG} {tc : TT} {te : TE}
theorem comp_start {pins : List (Addr × Obj)} {σ : St} {H : Hp} {s : Shared} {fp : List Addr} {C D : Addr} {h₁ : Heap} {tk : Nat} (S : CompSc X N' srcs scope cl) (I : Inv X pins σ H s) (f : ∀ b ∈ fp, FpOk X pins H b) (fo : ∀ b ∈ fp, b < s.heap.objs.size)
    (hD : s.heap.objs.size ≤ D) (hC : s.heap.objs.size ≤ C) (hDC : C ≠ D) (hns : ∃ m, h₁.Ns C m) (old : ∀ b o, s.heap.get? b = some o → h₁.get? b = some o) (hacc : ∃ n, h₁.get? D = some { cls := .type "list", data := .seq ([] : List Value).toArray n }) :
    Inv (X.comp N' scope cl fp C s H) [] (capt srcs σ) (upd H D (.lst [])) { s with heap := h₁, toks := tk } := by
  have hfD := I.hok.fresh hD
  have ok : (X.comp N' scope cl fp C s H).Ok := by
    refine ⟨I.ok.mod, S.kind, I.ok.glob, I.ok.blt, hC, fun x y c a b => I.ok.inj x y c (S.sub x c a) (S.sub y c b), S.has, fun x c hf hl => ?_, I.ok.hd, I.ok.frames, .inl rfl, fun b hb => ⟨?_, fun x c hl => ?_⟩, I.bs, Nat.le_trans I.ok.bsz I.sz, fun b o e hb => ?_, fun b hb hfs => ?_, I.stack, I.stkFree⟩
    · have hl' : cl.lookup x = some c := hl
      have hf' : (cl.lookup x).isNone = true := hf
      rw [hl'] at hf'
      cases hf'
    · exact Nat.ne_of_lt (Nat.lt_of_lt_of_le (fo b hb) hC)
    · exact (f b hb).2.2.2.2.1 x c (S.sub x c hl)
    · rcases (f b hb).2.2.2.1 with z | z
      · exact I.ok.noex b o e z
      · exact absurd (Nat.lt_of_lt_of_le (Heap.lt_size e) (Nat.le_trans I.ok.bsz z)) (Nat.lt_irrefl _)
    · rcases List.mem_cons.mp (I.stkSub b hfs) with z | z
      · exact (f b hb).2.1 z
      · exact (f b hb).2.2.1 z
  obtain ⟨m0, hns⟩ := hns
  obtain ⟨nn, hacc⟩ := hacc
  refine ⟨ok, rfl, I.bare, Un.laid old hD hfD, ⟨m0, hns, fun k x v e1 e2 e3 => ?_⟩, fun x c hl => ?_, ?_, fun x c hl => ?_, fun p hp => absurd (show p ∈ ([] : List (Addr × Obj)) from hp) (by simp), I.hok.laid old hD ⟨Nat.zero_le _, [], nn, .nil, hacc⟩, ?_⟩
  · -- the captured names
    have e1 : N'[k]? = some x := e1
    have e2 : (srcs.map fun o => o.bind fun j => (σ[j]?).join)[k]? = some (some v) := e2
    rw [List.getElem?_map] at e2
    cases hk : srcs[k]? with
    | none => rw [hk] at e2; cases e2
    | some o =>
      rw [hk] at e2
      cases o with
      | none => cases e2
      | some j =>
        have e2' : (σ[j]?).join = some v := Option.some.inj e2
        have e3' : σ[j]? = some (some v) := by
          cases hj : σ[j]? with
          | none => rw [hj] at e2'; cases e2'
          | some y => rw [hj] at e2'; exact congrArg some e2'
        obtain ⟨a1, a2, a3⟩ := S.src k j x e1 hk
        obtain ⟨m, hn, hl⟩ := I.loc
        obtain ⟨u, r, l⟩ := hl j x v a1 e3' (a2.elim (fun z => .inr (.inl z)) fun z => .inr (.inr z))
        refine ⟨u, r, .inr ⟨a3, ?_⟩⟩
        obtain ⟨c, hc⟩ := S.has x a3
        refine ⟨c, hc, ?_⟩
        rcases l with ⟨z, _⟩ | ⟨_, c', hc', o, ho, hd⟩
        · have z' : X.env.scope.names.lookup x = some .local := z
          rcases a2 with q | q <;> rw [q] at z' <;> cases z'
        · have e := S.sub x c hc
          rw [hc'] at e
          cases e
          exact ⟨o, old _ o ho, hd⟩
  · obtain ⟨v, o, ho, hd⟩ := I.cell x c (S.sub x c hl)
    exact ⟨v, o, old _ o ho, hd⟩
  · show upd H D (.lst []) C = none
    rw [upd_ne hDC]
    exact I.hok.fresh hC
  · have hx := S.sub x c hl
    obtain ⟨v, o, ho, hd⟩ := I.cell x c hx
    rw [upd_ne (Nat.ne_of_lt (Nat.lt_of_lt_of_le (Heap.lt_size ho) hD))]
    exact I.freeC x c hx
  · show (capt srcs σ).length = N'.length
    unfold capt
    rw [List.length_map, S.len]
theorem comp_core {pins : List (Addr × Obj)} {s : Shared} {σ : St} {H : Hp} {Q : VK} {use : Option (Value → Sem Unit)} {Q2 : Value → Shared → Prop} (hc : X.calm = true) (S : CompSc X N' srcs scope cl) (hi : PI X tg iter wi)
    (hg : ∀ fp C s H, PG (X.comp N' scope cl fp C s H) tg g) (ht : ∀ fp C s H, PIfs (X.comp N' scope cl fp C s H) ifs tc) (he : ∀ fp C s H, PE (X.comp N' scope cl fp C s H) elt te)
    (I : Inv X pins σ H s) (h : tComp srcs wi g tc te σ H Q)
    (fin : ∀ (D C : Addr) (H' : Hp) (s' : Shared), Inv X pins σ H' s' → (∃ m, s'.heap.Ns C m) → FpOk X pins H' C → Q (.ref D) H' → compPost (model X.prog X.w) X.A X.xe use Q2 (.ref D) C (.ok .next) s')
    (hs : ∀ x, foldedSetIterable iter X.env x = pure x) :
    wpAny (model X.prog X.w) X.A (comprehension (.ListComp elt [⟨tg, iter, ifs, 0⟩] scope pos) scope X.env (firstIterPos [⟨tg, iter, ifs, 0⟩] pos) (newList []) false (eval iter X.env) use) Q2 X.xe s := by
  refine wpAny_comprehension_free rfl hs S.clos S.kind S.names (thn (hi pins s σ H _ I h) fun v s1 h1 => thn h1 fun itv s2 h2 => ?_)
  obtain ⟨it, fp, tn, J, H2, e, I2, T, st2, f2, q2⟩ := h2
  subst e
  refine wpAny_newObj_type (wpAny_newFunctionEnv S.nocell (by intro y hy; simp at hy) (fun h₁ hns₁ hsb₁ => ?_) S.kind)
  dsimp only at hns₁ hsb₁ ⊢
  generalize hH2 : s2.heap.push { cls := .type "list", dict := none, data := .seq ([] : List Value).toArray } = G2 at hns₁ hsb₁ ⊢
  have hCe : G2.objs.size = s2.heap.objs.size + 1 := by rw [← hH2, Heap.size_push]
  have hDC : G2.objs.size ≠ s2.heap.objs.size := by rw [hCe]; exact Nat.ne_of_gt (Nat.lt_succ_self _)
  have hCle : s2.heap.objs.size ≤ G2.objs.size := by rw [hCe]; exact Nat.le_succ _
  have old : ∀ b o, s2.heap.get? b = some o → h₁.get? b = some o := fun b o e =>
    hsb₁.extBut b o (Nat.ne_of_lt (Nat.lt_of_lt_of_le (Heap.lt_size e) hCle)) (Heap.get?_push_of_some _ (hH2 ▸ Heap.get?_push_of_some _ e))
  have hacc : ∃ n, h₁.get? s2.heap.objs.size = some { cls := .type "list", data := .seq ([] : List Value).toArray n } := ⟨_, hsb₁.extBut _ _ (Ne.symm hDC) (Heap.get?_push_of_some _ (hH2 ▸ Heap.get?_push_size _ rfl))⟩
  have fo : ∀ b ∈ fp, b < s2.heap.objs.size := fun b hb => by
    obtain ⟨o, ho, _⟩ := T.obj _ _ st2 b hb
    exact Heap.lt_size ho
  have st3 : tn 0 h₁ := T.keep _ _ _ st2 fun b _ o e => old b o e
  obtain ⟨W, ⟨m0, w0⟩, turn⟩ := q2 s2.heap.objs.size (I2.hok.fresh (Nat.le_refl _))
  have loop : ∀ s3 : Shared, s3 = { s2 with heap := h₁, toks := s2.toks + ([] : List (Str × Value)).length } →
      codeAny (model X.prog X.w) X.A (.compLoop (.ListComp elt [⟨tg, iter, ifs, 0⟩] scope pos) 0 (.ref it) (.ref s2.heap.objs.size) (compEnvC scope cl G2.objs.size X.env))
        (compPost (model X.prog X.w) X.A X.xe use Q2 (.ref s2.heap.objs.size) G2.objs.size) s3 := by
    rintro s3 rfl
    have I3 : Inv (X.comp N' scope cl fp G2.objs.size s2 H2) [] (capt srcs σ) (upd H2 s2.heap.objs.size (.lst [])) { s2 with heap := h₁, toks := s2.toks + ([] : List (Str × Value)).length } :=
      comp_start S I2 f2 fo (Nat.le_refl _) hCle hDC ⟨_, hns₁⟩ old hacc
    have stat : ∀ {H' : Hp}, (∀ b ∈ fp, H' b = none) → ∀ b ∈ fp, FpOk (X.comp N' scope cl fp G2.objs.size s2 H2) [] H' b := fun hn b hb =>
      ⟨hn b hb, Nat.ne_of_lt (Nat.lt_of_lt_of_le (fo b hb) hCle), (fun z => (List.mem_cons.mp (I2.stkSub b z)).elim (f2 b hb).2.1 (f2 b hb).2.2.1), .inl hb, fun x c hl => (f2 b hb).2.2.2.2.1 x c (S.sub x c hl), fun p hp => absurd (show p ∈ ([] : List (Addr × Obj)) from hp) (by simp)⟩
    refine compLoop_any (fun n s' => ∃ i σ' H', Inv (X.comp N' scope cl fp G2.objs.size s2 H2) [] σ' H' s' ∧ tn i s'.heap ∧ (∀ b ∈ fp, H' b = none) ∧ W i n σ' H') ?_ m0
      ⟨0, _, _, I3, st3, fun b hb => by rw [upd_ne (Nat.ne_of_lt (fo b hb))]; exact (f2 b hb).1, w0⟩
    rintro n s4 ⟨i, σ4, H4, I4, st4, fr4, w4⟩
    rcases turn i n σ4 H4 w4 with ⟨stop, qn⟩ | ⟨go, NN, hNN, step⟩
    · refine thn (T.done (X.comp N' scope cl fp G2.objs.size s2 H2) rfl rfl rfl hc i [] s4 σ4 H4 (fun _ _ => False) I4 (stat fr4) st4 stop) fun r s5 ⟨hr, I5⟩ => ?_
      subst hr
      obtain ⟨m5, hn5, _⟩ := id I5.loc
      have I6 : Inv X pins σ H4 s5 := I2.call' (ch := fp) I5.os I5.base I5.hok I5.bare fun b hb => ⟨(f2 b hb).2.2.2.1, (f2 b hb).2.1, (f2 b hb).2.2.2.2.1, (f2 b hb).2.2.2.2.2⟩
      exact fin _ _ H4 s5 I6 ⟨m5, hn5⟩ (I2.fpOk hCle I5.free) qn
    · refine thn (T.item (X.comp N' scope cl fp G2.objs.size s2 H2) rfl rfl rfl hc i [] s4 σ4 H4 (fun _ _ => False) I4 (stat fr4) st4 go) fun r s5 ⟨u, hr, h5⟩ => ?_
      subst hr
      refine thn h5 fun _ s6 ⟨x, H6, I6, r6, y6, st6, fr6⟩ => ?_
      have I6' := I6.pinned (stat fr6) (T.obj _ _ st6)
      refine thn (hg fp G2.objs.size s2 H2 _ s6 σ4 H6 x u _ I6' r6 (step x H6 y6)) fun _ s7 ⟨σ7, H7, I7, q7⟩ => ?_
      have again : ∀ {s9 : Shared} {H9 : Hp}, Inv (X.comp N' scope cl fp G2.objs.size s2 H2) ([] ++ pinsAt fp s6.heap) σ7 H9 s9 → NN σ7 H9 →
          ∃ m, m < n ∧ ∃ i σ' H', Inv (X.comp N' scope cl fp G2.objs.size s2 H2) [] σ' H' s9 ∧ tn i s9.heap ∧ (∀ b ∈ fp, H' b = none) ∧ W i m σ' H' := fun {s9 H9} I9 n9 => by
        obtain ⟨m', hm, w9⟩ := hNN σ7 H9 n9
        refine ⟨m', hm, i + 1, σ7, H9, I9.unpinned, T.keep _ _ _ st6 fun b hb o e => (I9.pin (b, o) (List.mem_append_right _ (List.mem_append_right _ (mem_pinsAt hb e)))).1, fun b hb => ?_, w9⟩
        obtain ⟨o, e, d⟩ := T.obj _ _ st6 b hb
        exact (I9.pin (b, o) (List.mem_append_right _ (List.mem_append_right _ (mem_pinsAt hb e)))).2.1
      refine thn (ht fp G2.objs.size s2 H2 _ s7 σ7 H7 _ I7 q7) fun b s8 ⟨H8, I8, q8⟩ => ?_
      cases b with
      | false =>
        rw [if_neg Bool.false_ne_true] at q8
        exact again I8 q8
      | true =>
        rw [if_pos rfl] at q8
        refine thn (he fp G2.objs.size s2 H2 _ s8 σ7 H8 _ I8 q8) fun y s9 ⟨v9, H9, I9, r9, ys, hD, hlen, w9⟩ => ?_
        refine thn (mt_append (X := X.comp N' scope cl fp G2.objs.size s2 H2) ([] ++ pinsAt fp s6.heap) s9 σ7 H9 (.ref s2.heap.objs.size) [v9] (.ref s2.heap.objs.size) [y] (fun _ H' => H' = upd H9 s2.heap.objs.size (.lst (ys ++ [v9]))) I9 rfl (.cons r9 .nil)
          ⟨_, ys, v9, rfl, rfl, hD, hlen, rfl⟩) fun _ s10 ⟨_, H10, I10, _, e10⟩ => ?_
        subst e10
        exact again I10 w9
  exact codeAny_compStart_list (loop _ rfl) (T.self X.A 0 _ _ _ st3 (loop _ rfl))
theorem pe_comp (hc : X.calm = true) (S : CompSc X N' srcs scope cl) (hi : PI X tg iter wi) (hg : ∀ fp C s H, PG (X.comp N' scope cl fp C s H) tg g)
    (ht : ∀ fp C s H, PIfs (X.comp N' scope cl fp C s H) ifs tc) (he : ∀ fp C s H, PE (X.comp N' scope cl fp C s H) elt te) (hs : ∀ x, foldedSetIterable iter X.env x = pure x := by intro _; rfl) :
    PE X (.ListComp elt [⟨tg, iter, ifs, 0⟩] scope pos) (tComp srcs wi g tc te) := by
  intro pins s σ H Q I h
  rw [eval_ListComp]
  refine comp_core (use := none) hc S hi hg ht he I h (fun D C H' s' I' ns fo q => ?_) hs
  obtain ⟨m, hn⟩ := ns
  obtain ⟨f0, f1, f2, f3, f4, f5⟩ := fo
  exact ⟨m, hn, fun h' sb => ⟨.ref D, H', I'.turned (t' := s'.toks) (fun b o hb e => (sb.2 b hb).trans e) f0 f1 f3 f4 f5, rfl, q⟩⟩
theorem ps_setComp {i : Nat} {x : Str} {pos' spos : Pos} (hc : X.calm = true) (hN : X.N.Nodup) (hx : X.N[i]? = some x) (hl : X.env.scope.names.lookup x = some .local) (S : CompSc X N' srcs scope cl) (hi : PI X tg iter wi) (hg : ∀ fp C s H, PG (X.comp N' scope cl fp C s H) tg g)
    (ht : ∀ fp C s H, PIfs (X.comp N' scope cl fp C s H) ifs tc) (he : ∀ fp C s H, PE (X.comp N' scope cl fp C s H) elt te)
    (hsw : swapsWith (.ListComp elt [⟨tg, iter, ifs, 0⟩] scope pos) (some (.Name x pos')) spos.line X.env = pure true := by rfl) (hs : ∀ x, foldedSetIterable iter X.env x = pure x := by intro _; rfl) :
    PS X (.Assign [.Name x pos'] (.ListComp elt [⟨tg, iter, ifs, 0⟩] scope pos) spos) (tAsg (tComp srcs wi g tc te) (gName i)) := by
  intro pins s σ H D I h
  rw [exec_Assign_Name_used _ _ _ _ hsw]
  refine wpAny_bind (wpAny_standAt (wpAny_bind ?_))
  show wpAny _ X.A (do let _ ← comprehension (.ListComp elt [⟨tg, iter, ifs, 0⟩] scope pos) scope X.env _ (newList []) false (eval iter X.env) (some (assign (.Name x pos') X.env))) _ _ s
  refine wpAny_bind (thn (comp_core (use := some (assign (.Name x pos') X.env)) (Q := fun v H' => D.nx (σ.set i (some v)) H') (Q2 := fun _ s' => SP X pins D .next s') hc S hi hg ht he I h (fun L C H' s' I' ns fo q => ?_) hs) fun _ s' hq => wpAny_pure (wpAny_pure hq))
  obtain ⟨m, hn⟩ := ns
  obtain ⟨f0, f1, f2, f3, f4, f5⟩ := fo
  obtain ⟨oC, es, ep, hoC, hd, hr⟩ := id hn
  have I2 : Inv X (pins ++ [(C, oC)]) σ H' s' := I'.pins_of fun p hp => (List.mem_append.mp hp).elim (fun z => I'.pin p (List.mem_append_right _ z)) fun z => by
    have z' : p = (C, oC) := by simpa using z
    subst z'
    exact ⟨hoC, f0, f1, f2, fun v e => by rw [hd] at e; cases e⟩
  refine wpAny_assign_Name (store_ok (i := i) (v := .ref L) I2 hN hx (.inl hl) rfl (fun s2 I3 => ?_) (.inr hl))
  have hoC' := (I3.pin (C, oC) (List.mem_append_right _ (List.mem_append_right _ (by simp)))).1
  refine ⟨m, ⟨oC, es, ep, hoC', hd, hr⟩, fun h' sb => ?_⟩
  exact ⟨_, H', (I3.unpinned).turned (t' := s2.toks) (fun b o hb e => (sb.2 b hb).trans e) f0 f1 f3 f4 f5, q⟩
end
end L2
set_option maxRecDepth 100000
namespace L2
open PySem PySem.Spec PyProof.Rows
def Its (x : Str) : It := ⟨fun i _ => i < x.cps.size, fun i H v H' => H' = H ∧ ∃ c, x.cps[i]? = some c ∧ v = .str ⟨#[c]⟩, fun i _ => i = x.cps.size⟩
theorem turn_str {P : Program} {w : World} {K : PySem.W.Frag} {tg : Expr} (it : Addr) (x : Str) (t : Tok) (ty : String) (hty : ty = "str_ascii_iterator" ∨ ty = "str_iterator") :
    Turn P w K tg (Its x) [it] it (fun i h => h.IsStrIter it ty x t i) where
  mem := by simp
  obj := fun i h st b hb => by
    have e : b = it := by simpa using hb
    subst e
    obtain ⟨o, e, c, d⟩ := st
    exact ⟨o, e, fun v z => by rw [d] at z; cases z⟩
  keep := fun i h h' st k => by
    obtain ⟨o, e, r⟩ := st
    exact ⟨o, k it (by simp) o e, r⟩
  item := by
    intro X hP hw hK hc i pins s σ H E I hf st hg
    subst hP hw hK
    obtain ⟨f0, f1, f2, f3, f4, f5⟩ := hf it (by simp)
    have W : Walks X.prog X.w X.A it [it] [it] x.cps.size (SignAt x) (fun i h => h.IsStrIter it ty x t i) := by
      rcases hty with rfl | rfl
      · exact Walks.strAscii (I.ok.hd hc) it x t
      · exact Walks.strWide (I.ok.hd hc) it x t
    refine W.item i s _ _ hg st fun v h' tk hv st' kk => ?_
    obtain ⟨c, u, hcp, rfl⟩ := hv
    have I1 : Inv X pins σ H { s with heap := h', toks := tk } := I.turned (fun b o hb e => kk b o (by simpa using hb) e) f0 f1 f3 f4 f5
    obtain ⟨o, e, cc, d⟩ := id st'
    exact ⟨_, rfl, go_of (s := { s with heap := h', toks := tk }) e cc d (by rcases hty with rfl | rfl <;> decide) ⟨.str ⟨#[c]⟩, H, I1, ⟨_, rfl⟩, ⟨rfl, c, hcp, rfl⟩, st', fun b hb => (hf b hb).1⟩⟩
  done := by
    intro X hP hw hK hc i pins s σ H E I hf st hg
    subst hP hw hK
    obtain ⟨f0, f1, f2, f3, f4, f5⟩ := hf it (by simp)
    have hg : i = x.cps.size := hg
    subst hg
    have W : Walks X.prog X.w X.A it [it] [it] x.cps.size (SignAt x) (fun i h => h.IsStrIter it ty x t i) := by
      rcases hty with rfl | rfl
      · exact Walks.strAscii (I.ok.hd hc) it x t
      · exact Walks.strWide (I.ok.hd hc) it x t
    exact W.done s _ _ st fun h' tk kk => ⟨rfl, I.turned (fun b o hb e => kk b o (by simpa using hb) e) f0 f1 f3 f4 f5⟩
  self := by
    intro A i s Q E st h
    rcases hty with rfl | rfl
    · exact wpAny_pyIter_striter_ascii st h
    · exact wpAny_pyIter_striter_wide st h
section
variable {X : Cx} {tg : Expr}
end
section
variable {X : Cx} {pins : List (Addr × Obj)} {σ : St} {H : Hp} {s : Shared} {h' : Heap} {ch : List Addr} {t' : Nat}
theorem Inv.turnedL (I : Inv X pins σ H s) (hf : ∀ b ∈ ch, FpOk X pins H b) (k : ∀ b o, b ∉ ch → s.heap.get? b = some o → h'.get? b = some o) : Inv X pins σ H { s with heap := h', toks := t' } := by
  have tr : ∀ b ob, H b = some ob → b ∉ ch := fun b ob e hb => by rw [(hf b hb).1] at e; cases e
  refine I.step (g' := s.gens) (d' := s.drawn) (ch := ch) (fun b hb => ⟨(hf b hb).2.2.2.1, (hf b hb).2.1, (hf b hb).2.2.2.2.1, (hf b hb).2.2.2.2.2⟩) (fun b o _ _ hb e _ => k b o hb e) (fun b o _ _ hb e _ => ⟨o.slots, k b o hb e⟩) (fun _ _ _ _ n => n) (fun b o hb e => ⟨o, k b o hb e⟩)
    (fun _ _ e => e) (fun _ _ _ e => e) (fun b ps e => ⟨#[], by rw [e]; simp⟩) (fun m hm => ?_) (fun b ob e => ?_) I.bare
  · obtain ⟨o, es, ep, ho, r⟩ := hm
    exact ⟨o, es, ep, k _ o (fun z => (hf _ z).2.1 rfl) ho, r⟩
  · refine (I.hok b ob e).stay (fun b' w' hc' q => k b' w' ?_ q) (fun _ q => q) fun _ _ q => q
    rcases hc' with rfl | hc'
    · exact tr _ _ e
    · exact tr _ _ hc'
theorem Inv.turnedN {T : Addr} {o : HO} (I : Inv X pins σ H s) (hf : ∀ b ∈ ch, FpOk X pins H b) (k : ∀ b o, b ∉ ch → s.heap.get? b = some o → h'.get? b = some o) (hT : s.heap.objs.size ≤ T) (new : ObjOk X.prog X.w (upd H T o) h' T o) :
    Inv X pins σ (upd H T o) { s with heap := h', toks := t' } := by
  have tr : ∀ b ob, H b = some ob → b ∉ ch := fun b ob e hb => by rw [(hf b hb).1] at e; cases e
  have hn := I.hok.fresh hT
  have nT : ∀ {b o}, s.heap.get? b = some o → b ≠ T := fun e => Nat.ne_of_lt (Nat.lt_of_lt_of_le (Heap.lt_size e) hT)
  refine I.step (g' := s.gens) (d' := s.drawn) (ch := ch) (fun b hb => ⟨(hf b hb).2.2.2.1, (hf b hb).2.1, (hf b hb).2.2.2.2.1, (hf b hb).2.2.2.2.2⟩) (fun b o _ _ hb e _ => k b o hb e) (fun b o _ _ hb e _ => ⟨o.slots, k b o hb e⟩) (fun b o _ e n => by rw [upd_ne (nT e)]; exact n) (fun b o hb e => ⟨o, k b o hb e⟩)
    (fun b zs e => by rw [upd_ne (ne_of_none e hn)]; exact e) (fun b o zs e => by rw [upd_ne (ne_of_none e hn)]; exact e) (fun b ps e => ⟨#[], by rw [upd_ne (ne_of_none e hn), e]; simp⟩) (fun m hm => ?_) (fun b ob e => ?_) I.bare
  · obtain ⟨o, es, ep, ho, r⟩ := hm
    exact ⟨o, es, ep, k _ o (fun z => (hf _ z).2.1 rfl) ho, r⟩
  · by_cases hb : b = T
    · subst hb
      rw [upd_same] at e
      cases e
      exact new
    · rw [upd_ne hb] at e
      refine (I.hok b ob e).stay (fun b' w' hc' q => k b' w' ?_ q) (fun b' q => by rw [upd_ne (ne_of_none q hn)]; exact q) fun b' zs q => by rw [upd_ne (ne_of_none q hn)]; exact q
      rcases hc' with rfl | hc'
      · exact tr _ _ e
      · exact tr _ _ hc'
end
section
variable {X : Cx}
end
theorem range_all {bs : List Bool} : (List.range bs.length).all (fun i => bs.getD i true) = bs.all fun b => b := by
  rw [Bool.eq_iff_iff, List.all_eq_true, List.all_eq_true]
  constructor
  · intro h b hb
    obtain ⟨i, hi, e⟩ := List.mem_iff_getElem.mp hb
    have q := h i (List.mem_range.mpr hi)
    rw [List.getD_eq_getElem?_getD, List.getElem?_eq_getElem hi, e] at q
    exact q
  · intro h i hi
    have hi := List.mem_range.mp hi
    rw [List.getD_eq_getElem?_getD, List.getElem?_eq_getElem hi]
    exact h _ (List.getElem_mem hi)
section
variable {X : Cx}
theorem call_all (hc : X.calm = true) : CallR X (.builtin "all") (fun xs H Q => ∃ (p : Addr) (bs : List Bool), xs = [.ref p] ∧ SqL X.K H p (bs.map V.bl) ∧ Q (.bl (bs.all fun b => b)) H) := by
  intro pins s σ H xs us Q I r h
  obtain ⟨p, bs, rfl, hq, q⟩ := h
  obtain ⟨u, rfl, ru⟩ := r.one
  cases ru
  obtain ⟨its, rv, pl, hz⟩ := I.list hq
  have hlen := rv.length
  rw [List.length_map] at hlen
  obtain ⟨o, n, e, c, hd, ds⟩ := id pl
  have plt := Heap.lt_size e
  refine call_all_walk (wpAny_pyIter_list pl.isList ?_)
  refine ⟨s.heap.objs.size, _, _, _, _, _, (fun i => bs.getD i true), rfl, Walks.list (A := X.A.in1) (show X.A.in1.handled = none from I.ok.hd hc) s.heap.objs.size p (Nat.ne_of_lt plt) its.toArray, ⟨⟨_, Heap.get?_push_size _ rfl, rfl, rfl⟩, pl.isList.push _⟩, ?_, fun h' tk kk => ?_⟩
  · intro i v s' Q' E' hv hq'
    have hv : its[i]? = some v := by simpa using hv
    have hi : i < bs.length := by rw [hlen]; exact (List.getElem?_eq_some_iff.mp hv).1
    have e1 : (bs.map V.bl)[i]? = some (.bl bs[i]) := by simp [hi]
    obtain ⟨u', hu', ru'⟩ := rv.get e1
    rw [hv] at hu'
    cases hu'
    cases ru'
    have e2 : bs.getD i true = bs[i] := by simp [List.getD_eq_getElem?_getD, hi]
    have hq' : Q' (bs.getD i true) s' := hq'
    rw [e2] at hq'
    exact wpAny_truthy_bool hq'
  · have e3 : (List.range its.toArray.size).all (fun i => bs.getD i true) = bs.all fun b => b := by
      rw [List.size_toArray, ← hlen]
      exact range_all
    rw [e3]
    refine ⟨.bl _, H, I.kept (t' := tk) fun b o' eb => kk b o' ?_ (Heap.get?_push_of_some _ eb), rfl, q⟩
    have hb : b ≠ s.heap.objs.size := Nat.ne_of_lt (Heap.lt_size eb)
    simpa using hb
theorem call_isT : CallR X (.builtin "isinstance") (fun xs H Q => ∃ x T t b, xs = [x, .ty T] ∧ TyOf X.K H x t ∧ PySem.W.kitOne X.K t (.type T) = some b ∧ Q (.bl b) H) := by
  intro pins s σ H xs us Q I r h
  obtain ⟨x, T, t, b, rfl, ty, e, q⟩ := h
  obtain ⟨u, v, rfl, ru, rv⟩ := r.two
  cases rv
  exact isinst_ok I ru ty e fun tk => ⟨.bl b, H, I.tok tk, rfl, q⟩
theorem op_le_str : OpR X (compareOp .LtE) (fun x y H Q => ∃ i j, x = .str i ∧ y = .str j ∧ Q (.bl (!decide (j.cps.toList < i.cps.toList))) H) := by
  intro pins s σ H x y v u Q I rx ry h
  obtain ⟨i, j, rfl, rfl, q⟩ := h
  obtain ⟨t, rfl⟩ := rx
  obtain ⟨t', rfl⟩ := ry
  exact PySem.P.le_str ⟨.bl _, H, I, rfl, q⟩
end
def eqVs (xs ys : List V) : Bool := decide (xs.length = ys.length) && (List.range xs.length).all fun j => eqV (xs.getD j .non) (ys.getD j .non)
theorem eqVs_len {xs ys : List V} (h : xs.length ≠ ys.length) : eqVs xs ys = false := by
  unfold eqVs
  rw [decide_eq_false h]
  rfl
def rEqL (K : PySem.W.Frag) (neg : Bool) : R2 := fun x y H Q => ∃ a b xs ys, x = .ref a ∧ y = .ref b ∧ SqL K H a xs ∧ SqL K H b ys ∧ xs.all flatV = true ∧ ys.all flatV = true ∧ Q (.bl (if neg then !eqVs xs ys else eqVs xs ys)) H
section
variable {X : Cx}
theorem items_eqAt {A : Around} {s : Shared} {xs ys : List V} {us ws : List Value} (rx : Vals xs us) (ry : Vals ys ws) (fx : xs.all flatV = true) (fy : ys.all flatV = true) (j : Nat) (h1 : j < us.toArray.size) (h2 : j < ws.toArray.size) :
    SeqAt.EqAt A s us.toArray[j] ws.toArray[j] (eqV (xs.getD j .non) (ys.getD j .non)) := by
  have e1 := rx.length
  have e2 := ry.length
  have h1' : j < us.length := by simpa using h1
  have h2' : j < ws.length := by simpa using h2
  have a1 : xs[j]? = some (xs[j]'(by omega)) := by simp
  have a2 : ys[j]? = some (ys[j]'(by omega)) := by simp
  obtain ⟨u, hu, ru⟩ := rx.get a1
  obtain ⟨v, hv, rv⟩ := ry.get a2
  have b1 : us.toArray[j] = u := by
    have : us[j]? = some us[j] := by simp
    rw [this] at hu
    simpa using Option.some.inj hu
  have b2 : ws.toArray[j] = v := by
    have : ws[j]? = some ws[j] := by simp
    rw [this] at hv
    simpa using Option.some.inj hv
  have c1 : xs.getD j .non = xs[j]'(by omega) := by rw [List.getD_eq_getElem?_getD, a1]; rfl
  have c2 : ys.getD j .non = ys[j]'(by omega) := by rw [List.getD_eq_getElem?_getD, a2]; rfl
  rw [b1, b2, c1, c2]
  exact eqAt_V ru rv (List.all_eq_true.mp fx _ (List.getElem_mem _)) (List.all_eq_true.mp fy _ (List.getElem_mem _))
theorem op_eqL (hu : X.A.units < cLine) : OpR X (compareOp .Eq) (rEqL X.K false) := by
  intro pins s σ H x y v u Q I rx ry h
  obtain ⟨a, b, xs, ys, rfl, rfl, qa, qb, fx, fy, q⟩ := h
  cases rx
  cases ry
  obtain ⟨its, r, pl, hz⟩ := I.list qa
  obtain ⟨its2, r2, pl2, hz2⟩ := I.list qb
  have e1 := r.length
  have e2 := r2.length
  by_cases hl : xs.length = ys.length
  · refine SeqAt.eq_listAt (e := fun j => eqV (xs.getD j .non) (ys.getD j .non)) pl.isList pl2.isList (by simp; omega) hu (fun j h1 h2 => items_eqAt r r2 fx fy j h1 h2) ⟨.bl _, H, I, rfl, ?_⟩
    have e : eqVs xs ys = (List.range its.toArray.size).all fun j => eqV (xs.getD j .non) (ys.getD j .non) := by
      unfold eqVs
      rw [decide_eq_true hl, List.size_toArray, ← e1]
      rfl
    rw [← e]
    exact q
  · refine SeqAt.eq_list_lengthsAt pl.isList pl2.isList (by simp; omega) hu ⟨.bl _, H, I, rfl, ?_⟩
    rw [eqVs_len hl] at q
    exact q
theorem op_neL (hu : X.A.units < cLine) : OpR X (compareOp .NotEq) (rEqL X.K true) := by
  intro pins s σ H x y v u Q I rx ry h
  obtain ⟨a, b, xs, ys, rfl, rfl, qa, qb, fx, fy, q⟩ := h
  cases rx
  cases ry
  obtain ⟨its, r, pl, hz⟩ := I.list qa
  obtain ⟨its2, r2, pl2, hz2⟩ := I.list qb
  have e1 := r.length
  have e2 := r2.length
  by_cases hl : xs.length = ys.length
  · refine SeqAt.RcNeAt.lists (e := fun j => eqV (xs.getD j .non) (ys.getD j .non)) pl.isList pl2.isList (by simp; omega) hu (fun j h1 h2 => items_eqAt r r2 fx fy j h1 h2) _ _ _ _ ⟨.bl _, H, I, rfl, ?_⟩
    have e : eqVs xs ys = (List.range its.toArray.size).all fun j => eqV (xs.getD j .non) (ys.getD j .non) := by
      unfold eqVs
      rw [decide_eq_true hl, List.size_toArray, ← e1]
      rfl
    rw [← e]
    exact q
  · refine SeqAt.RcNeAt.lists_lengths pl.isList pl2.isList (by simp; omega) hu _ _ _ _ ⟨.bl _, H, I, rfl, ?_⟩
    rw [eqVs_len hl] at q
    exact q
end
theorem mem_look {cl : List (Str × Addr)} {x : Str} (h : x ∈ cl.map (·.1)) : ∃ c, cl.lookup x = some c := by
  induction cl with
  | nil => simp at h
  | cons p r ih =>
    obtain ⟨n, a⟩ := p
    rw [List.lookup_cons]
    cases e : x == n with
    | true => exact ⟨a, rfl⟩
    | false =>
      refine ih ?_
      rcases List.mem_cons.mp h with q | q
      · rw [show x = n from q] at e; simp at e
      · exact q
end L2
set_option maxRecDepth 100000
namespace L2
open PySem PySem.Spec PyProof.Rows
section
variable {X : Cx} {e : Expr} {te : TE} {lo hi : Option Expr} {tl th : TO} {pos p2 : Pos}
theorem strsAre_of {ys : List Str} : ∀ {us : List Value}, Vals (ys.map V.str) us → StrsAre us ys := by
  induction ys with
  | nil => intro us r; rw [List.map_nil] at r; cases r; exact .nil
  | cons y ys ih =>
    intro us r
    rw [List.map_cons] at r
    cases r with
    | cons r1 r2 =>
      obtain ⟨t, e⟩ := r1
      subst e
      exact .cons y t (ih r2)
theorem mt_join : MtR X "str.join" (fun x xs H Q => ∃ z p ys, x = .str z ∧ xs = [.ref p] ∧ SqL X.K H p (ys.map V.str) ∧ (ys.map (·.length)).sum + ys.length * z.length ≤ 16777216 ∧ Q (.str (Txt.join z ys)) H) := by
  intro pins s σ H x xs v us Q I rx rs h
  obtain ⟨z, p, ys, rfl, rfl, hq, hz, q⟩ := h
  obtain ⟨t, rfl⟩ := rx
  obtain ⟨u, rfl, ru⟩ := rs.one
  cases ru
  obtain ⟨its, rv, pl, _⟩ := I.list hq
  exact PyProof.Rows.join_list pl.isList (by simpa using strsAre_of rv) hz fun t' k => ⟨.str _, H, I.tok k, ⟨_, rfl⟩, q⟩
end
end L2
set_option maxRecDepth 100000
set_option maxHeartbeats 4000000
namespace L2
open PySem PySem.Spec PyProof.Rows
section
variable {κ : Type} [DecidableEq κ]
def valV (kvs : List (κ × V)) (k : κ) : Option V := (kvs.find? fun kv => decide (kv.1 = k)).map (·.2)
def putK (kvs : List (κ × V)) (k : κ) (v : V) : List (κ × V) :=
  if (kvs.any fun kv => decide (kv.1 = k)) = true then kvs.map (fun kv => if kv.1 = k then (kv.1, v) else kv) else kvs ++ [(k, v)]
theorem valV_pos {p : κ × V} {r : List (κ × V)} {k : κ} (e : p.1 = k) : valV (p :: r) k = some p.2 := by simp [valV, List.find?_cons, e]
theorem valV_neg {p : κ × V} {r : List (κ × V)} {k : κ} (e : ¬ p.1 = k) : valV (p :: r) k = valV r k := by simp [valV, List.find?_cons, e]
theorem valV_any (k : κ) : ∀ kvs : List (κ × V), (kvs.any fun kv => decide (kv.1 = k)) = (valV kvs k).isSome
  | [] => rfl
  | p :: r => by
    rw [List.any_cons]
    by_cases e : p.1 = k
    · simp only [valV_pos e, decide_eq_true e, Bool.true_or, Option.isSome_some]
    · rw [valV_neg e, decide_eq_false e, Bool.false_or]; exact valV_any k r
theorem length_putK (kvs : List (κ × V)) (k : κ) (v : V) : (putK kvs k v).length ≤ kvs.length + 1 := by
  unfold putK
  split
  · rw [List.length_map]; omega
  · rw [List.length_append, List.length_cons, List.length_nil]; omega
theorem putK_new {kvs : List (κ × V)} {k : κ} (v : V) (h : valV kvs k = none) : putK kvs k v = kvs ++ [(k, v)] := by
  unfold putK
  rw [valV_any, h]
  exact if_neg (by decide)
theorem RelO.isSome_eq {o : Option V} {u : Option Value} (r : RelO o u) : o.isSome = u.isSome := by
  cases o with
  | none => cases u with
    | none => rfl
    | some _ => exact (show False from r).elim
  | some _ => cases u with
    | none => exact (show False from r).elim
    | some _ => rfl
theorem RelO.getD {o : Option V} {u : Option Value} {d : V} {d' : Value} (r : RelO o u) (rd : RelV d d') : RelV (o.getD d) (u.getD d') := by
  cases o with
  | none => cases u with
    | none => exact rd
    | some _ => exact (show False from r).elim
  | some _ => cases u with
    | none => exact (show False from r).elim
    | some _ => exact r
theorem KV.val {kvs : List (κ × V)} {vs : List (κ × Value)} (r : KV kvs vs) (k : κ) : RelO (valV kvs k) (valueAt vs k) := by
  unfold KV at r
  induction r with
  | nil => exact True.intro
  | @cons p q ps qs h t ih =>
    obtain ⟨h1, h2⟩ := h
    by_cases e : p.1 = k
    · have e' : q.1 = k := h1.symm.trans e
      have b : valueAt (q :: qs) k = some q.2 := by simp [valueAt, List.find?_cons, e']
      rw [valV_pos e, b]; exact h2
    · have e' : ¬ q.1 = k := fun z => e (h1.trans z)
      have b : valueAt (q :: qs) k = valueAt qs k := by simp [valueAt, List.find?_cons, e']
      rw [valV_neg e, b]; exact ih
theorem KV.any {kvs : List (κ × V)} {vs : List (κ × Value)} (r : KV kvs vs) (k : κ) : (kvs.any fun kv => decide (kv.1 = k)) = vs.any fun kv => decide (kv.1 = k) := by
  unfold KV at r
  induction r with
  | nil => rfl
  | cons h t ih => rw [List.any_cons, List.any_cons, ih, h.1]
theorem KV.repl {kvs : List (κ × V)} {vs : List (κ × Value)} (r : KV kvs vs) (k : κ) {y : V} {u : Value} (ry : RelV y u) :
    KV (kvs.map fun kv => if kv.1 = k then (kv.1, y) else kv) (vs.map fun kv => if kv.1 = k then (kv.1, u) else kv) := by
  unfold KV at r ⊢
  induction r with
  | nil => exact .nil
  | @cons p q ps qs h t ih =>
    rw [List.map_cons, List.map_cons]
    refine .cons ?_ ih
    obtain ⟨h1, h2⟩ := h
    by_cases e : p.1 = k
    · rw [if_pos e, if_pos (h1.symm.trans e)]; exact ⟨h1, ry⟩
    · rw [if_neg e, if_neg (fun z => e (h1.trans z))]; exact ⟨h1, h2⟩
theorem KV.put {kvs : List (κ × V)} {vs : List (κ × Value)} (r : KV kvs vs) (k : κ) {y : V} {u : Value} (ry : RelV y u) : KV (putK kvs k y) (stored vs k u) := by
  unfold putK stored
  rw [r.any k]
  by_cases e : (vs.any fun kv => decide (kv.1 = k)) = true
  · rw [if_pos e, if_pos e]; exact r.repl k ry
  · rw [if_neg e, if_neg e]; exact Paired.snoc r ⟨rfl, ry⟩
theorem KV.length {kvs : List (κ × V)} {vs : List (κ × Value)} (r : KV kvs vs) : kvs.length = vs.length := Paired.length r
end
theorem kV_is {P : Program} {w : World} {k : Key} {u : Value} (r : RelV (kV k) u) : (mixKind P w).is k u = true := by
  cases k with
  | inl i => obtain ⟨t, e⟩ := (show ∃ t, u = Value.int i t from r); subst e; exact mixKind_int P w i t
  | inr x => obtain ⟨t, e⟩ := (show ∃ t, u = Value.str x t from r); subst e; exact mixKind_str P w x t
theorem items_are {P : Program} {w : World} : ∀ {ks : List Key} {us : List Value}, Vals (ks.map kV) us → ItemsAre (mixKind P w) ks us
  | [], _, r => by rw [List.map_nil] at r; cases r; exact .nil
  | k :: ks, _, r => by
    rw [List.map_cons] at r
    cases r with
    | cons h t => exact .cons (kV_is h) (items_are t)
abbrev KT (H : Hp) : List (List Key × V) → List (List Key × Addr × Value) → Prop := Paired fun p q => p.1 = q.1 ∧ H q.2.1 = some (.tup (p.1.map kV)) ∧ RelV p.2 q.2.2
theorem KT.val {H : Hp} {kvs : List (List Key × V)} {xs : List (List Key × Addr × Value)} (r : KT H kvs xs) (k : List Key) : RelO (valV kvs k) ((atKey xs k).map (·.2)) := by
  induction r with
  | nil => exact True.intro
  | @cons p q ps qs h t ih =>
    obtain ⟨h1, _, h2⟩ := h
    by_cases e : p.1 = k
    · have e' : q.1 = k := h1.symm.trans e
      have b : atKey (q :: qs) k = some q.2 := by simp [atKey, List.find?_cons, e']
      rw [valV_pos e, b]; exact h2
    · have e' : ¬ q.1 = k := fun z => e (h1.trans z)
      have b : atKey (q :: qs) k = atKey qs k := by simp [atKey, List.find?_cons, e']
      rw [valV_neg e, b]; exact ih
theorem KT.repl {H : Hp} {kvs : List (List Key × V)} {xs : List (List Key × Addr × Value)} (r : KT H kvs xs) (k : List Key) {y : V} {u : Value} (ry : RelV y u) :
    KT H (kvs.map fun kv => if kv.1 = k then (kv.1, y) else kv) (xs.map (putAt k u)) := by
  induction r with
  | nil => exact .nil
  | @cons p q ps qs h t ih =>
    rw [List.map_cons, List.map_cons]
    refine .cons ?_ ih
    obtain ⟨h1, h2, h3⟩ := h
    unfold putAt
    by_cases e : p.1 = k
    · rw [if_pos e, if_pos (h1.symm.trans e)]; exact ⟨h1, h2, ry⟩
    · rw [if_neg e, if_neg (fun z => e (h1.trans z))]; exact ⟨h1, h2, h3⟩
theorem KT.put {H : Hp} {kvs : List (List Key × V)} {xs : List (List Key × Addr × Value)} (r : KT H kvs xs) (k : List Key) {b : Addr} {y : V} {u : Value} (hb : H b = some (.tup (k.map kV))) (ry : RelV y u) :
    KT H (putK kvs k y) (storedH xs k b u) := by
  have e : (kvs.any fun kv => decide (kv.1 = k)) = (atKey xs k).isSome := by
    rw [valV_any, (r.val k).isSome_eq, Option.isSome_map]
  unfold putK storedH
  rw [e]
  by_cases q : (atKey xs k).isSome = true
  · rw [if_pos q, if_pos q]; exact r.repl k ry
  · rw [if_neg q, if_neg q]; exact Paired.snoc r ⟨rfl, hb, ry⟩
theorem KT.keeps {H H' : Hp} {kvs : List (List Key × V)} {xs : List (List Key × Addr × Value)} (r : KT H kvs xs) (ht : ∀ b ys, H b = some (.tup ys) → H' b = some (.tup ys)) : KT H' kvs xs :=
  Paired.mapP r fun _ _ z => ⟨z.1, ht _ _ z.2.1, z.2.2⟩
section
variable {P : Program} {w : World} {H : Hp} {h : Heap} {a : Addr}
theorem rd_of {u : HO} (ok : HOk P w H h) (e : Rd H a u) : ObjOk P w H h a u := e.ok ok
theorem dk_rd {kvs : List (Key × V)} (ok : HOk P w H h) (e : Rd H a (.dK kvs)) : kvs.length ≤ sizeLine ∧ (a == sysModules) = false ∧ ∃ vs, KV kvs vs ∧ h.DictOf (mixKind P w) a vs :=
  show ObjOk P w H h a (.dK kvs) from rd_of ok e
theorem dk_of {kvs : List (Key × V)} (ok : HOk P w H h) (e : H a = some (.dK kvs)) : kvs.length ≤ sizeLine ∧ (a == sysModules) = false ∧ ∃ vs, KV kvs vs ∧ h.DictOf (mixKind P w) a vs := dk_rd ok (.inl e)
theorem key_of {ks : List Key} (ok : HOk P w H h) (e : H a = some (.tup (ks.map kV))) : (tupleKind (mixKind P w)).is h ks a := by
  obtain ⟨_, its, r, o, h1, h2, n, h3⟩ := (show ObjOk P w H h a (.tup (ks.map kV)) from ok a _ e)
  exact ⟨o, its.toArray, n, h1, h2, h3, by simpa using items_are r⟩
theorem dt_rd {kvs : List (List Key × V)} (ok : HOk P w H h) (e : Rd H a (.dT kvs)) : kvs.length ≤ sizeLine ∧ (a == sysModules) = false ∧
    ∃ xs, KT H kvs xs ∧ h.DictOfH (tupleKind (mixKind P w)) a xs := by
  obtain ⟨z, y, xs, r, o, es, ep, h1, h2, h3, h4, h5⟩ := (show ObjOk P w H h a (.dT kvs) from rd_of ok e)
  refine ⟨z, y, xs, r, o, es, ep, h1, h2, h3, h4, fun x hx => ?_, h5⟩
  have all : ∀ {l : List (List Key × V)} {m : List (List Key × Addr × Value)}, KT H l m → ∀ x ∈ m, (tupleKind (mixKind P w)).is h x.1 x.2.1 := by
    intro l m q
    induction q with
    | nil => intro x hx; exact nomatch hx
    | @cons p q ps qs hq t ih =>
      intro x hx
      rcases List.mem_cons.mp hx with e | hx
      · subst e
        exact key_of ok (by rw [← hq.1]; exact hq.2.1)
      · exact ih x hx
  exact all r x hx
theorem dt_of {kvs : List (List Key × V)} (ok : HOk P w H h) (e : H a = some (.dT kvs)) : kvs.length ≤ sizeLine ∧ (a == sysModules) = false ∧
    ∃ xs, KT H kvs xs ∧ h.DictOfH (tupleKind (mixKind P w)) a xs := dt_rd ok (.inl e)
end
def DGet (H : Hp) (a : Addr) (y : V) (r : Option V) : Prop :=
  (∃ kvs k, Rd H a (.dK kvs) ∧ y = kV k ∧ r = valV kvs k) ∨ ∃ kvs k b, Rd H a (.dT kvs) ∧ y = .ref b ∧ H b = some (.tup (k.map kV)) ∧ r = valV kvs k
def DPut (H : Hp) (a : Addr) (y v : V) (H' : Hp) : Prop :=
  (∃ kvs k, H a = some (.dK kvs) ∧ y = kV k ∧ kvs.length < sizeLine ∧ H' = upd H a (.dK (putK kvs k v))) ∨
  ∃ kvs k b, H a = some (.dT kvs) ∧ y = .ref b ∧ H b = some (.tup (k.map kV)) ∧ kvs.length < sizeLine ∧ H' = upd H a (.dT (putK kvs k v))
theorem DGet.k {H : Hp} {a : Addr} {kvs : List (Key × V)} {k : Key} (e : H a = some (.dK kvs)) : DGet H a (kV k) (valV kvs k) := .inl ⟨kvs, k, .inl e, rfl, rfl⟩
theorem DGet.t {H : Hp} {a b : Addr} {kvs : List (List Key × V)} {k : List Key} (e : H a = some (.dT kvs)) (eb : H b = some (.tup (k.map kV))) : DGet H a (.ref b) (valV kvs k) := .inr ⟨kvs, k, b, .inl e, rfl, eb, rfl⟩
theorem DPut.k {H : Hp} {a : Addr} {kvs : List (Key × V)} {k : Key} {v : V} (e : H a = some (.dK kvs)) (hl : kvs.length < sizeLine) : DPut H a (kV k) v (upd H a (.dK (putK kvs k v))) := .inl ⟨kvs, k, e, rfl, hl, rfl⟩
theorem DPut.t {H : Hp} {a b : Addr} {kvs : List (List Key × V)} {k : List Key} {v : V} (e : H a = some (.dT kvs)) (eb : H b = some (.tup (k.map kV))) (hl : kvs.length < sizeLine) :
    DPut H a (.ref b) v (upd H a (.dT (putK kvs k v))) := .inr ⟨kvs, k, b, e, rfl, eb, hl, rfl⟩
section
variable {X : Cx} {pins : List (Addr × Obj)} {σ : St} {H : Hp} {s : Shared} {a : Addr} {y v : V} {u r : Value} {o : Option V} {A : Around} {E : Value → Shared → Prop}
theorem Inv.big (I : Inv X pins σ H s) : sysModules < s.heap.objs.size := by
  have h : mainGlobals < s.heap.objs.size := (I.mod.glob.keeps I.bk).lt
  exact Nat.lt_trans (by decide) h
theorem d_getItem {Q : Value → Shared → Prop} (hu : A.units + 1 < cLine) (I : Inv X pins σ H s) (g : DGet H a y (some v)) (ry : RelV y u) (h : ∀ w' s', Inv X pins σ H s' → RelV v w' → Q w' s') :
    wpAny (model X.prog X.w) A (getItem (.ref a) u) Q E s := by
  rcases g with ⟨kvs, k, e, ey, l⟩ | ⟨kvs, k, b, e, ey, eb, l⟩
  · subst ey
    obtain ⟨z, hd, vs, rel, dd⟩ := dk_rd I.hok e
    obtain ⟨w', hw, rw'⟩ := RelO.some_of (v := v) (o := valueAt vs k) (by rw [l]; exact rel.val k)
    exact wpAny_getItem_of (kV_is ry) dd.mapOf hw (h w' _ (I.tok _) rw')
  · subst ey
    cases (show u = Value.ref b from ry)
    obtain ⟨z, hd, xs, rel, dd⟩ := dt_rd I.hok e
    obtain ⟨w', hw, rw'⟩ := RelO.some_of (v := v) (o := (atKey xs k).map (·.2)) (by rw [l]; exact rel.val k)
    obtain ⟨p, hp, hp2⟩ := Option.map_eq_some_iff.mp hw
    refine wpAny_getItem_heap (tupleKind_room_in1 hu) (key_of I.hok eb) dd hp ?_
    rw [hp2]
    exact h w' _ (I.tok _) rw'
theorem d_in {Q : Value → Shared → Prop} (hu : A.units + 1 < cLine) (I : Inv X pins σ H s) (g : DGet H a y o) (ry : RelV y u) (h : ∀ s', Inv X pins σ H s' → Q (.bool o.isSome) s') :
    wpAny (model X.prog X.w) A (compareOp .In u (.ref a)) Q E s := by
  rcases g with ⟨kvs, k, e, ey, l⟩ | ⟨kvs, k, b, e, ey, eb, l⟩
  · subst ey
    obtain ⟨z, hd, vs, rel, dd⟩ := dk_rd I.hok e
    refine wpAny_in_of (kV_is ry) hd dd.mapOf ?_
    rw [← (rel.val k).isSome_eq, ← l]
    exact h _ (I.tok _)
  · subst ey
    cases (show u = Value.ref b from ry)
    obtain ⟨z, hd, xs, rel, dd⟩ := dt_rd I.hok e
    refine wpAny_in_heap (tupleKind_room_in1 hu) (key_of I.hok eb) hd dd ?_
    have q := (rel.val k).isSome_eq
    rw [Option.isSome_map] at q
    rw [← q, ← l]
    exact h _ (I.tok _)
theorem d_notIn {Q : Value → Shared → Prop} (hu : A.units + 1 < cLine) (I : Inv X pins σ H s) (g : DGet H a y o) (ry : RelV y u) (h : ∀ s', Inv X pins σ H s' → Q (.bool (!o.isSome)) s') :
    wpAny (model X.prog X.w) A (compareOp .NotIn u (.ref a)) Q E s := by
  rcases g with ⟨kvs, k, e, ey, l⟩ | ⟨kvs, k, b, e, ey, eb, l⟩
  · subst ey
    obtain ⟨z, hd, vs, rel, dd⟩ := dk_rd I.hok e
    refine wpAny_notIn_of (kV_is ry) hd dd.mapOf ?_
    rw [← (rel.val k).isSome_eq, ← l]
    exact h _ (I.tok _)
  · subst ey
    cases (show u = Value.ref b from ry)
    obtain ⟨z, hd, xs, rel, dd⟩ := dt_rd I.hok e
    refine wpAny_notIn_heap (tupleKind_room_in1 hu) (key_of I.hok eb) hd dd ?_
    have q := (rel.val k).isSome_eq
    rw [Option.isSome_map] at q
    rw [← q, ← l]
    exact h _ (I.tok _)
theorem d_write {h' : Heap} {t' : Nat} {ob : HO} (I : Inv X pins σ H s) (mu : Mut (H a)) (hs : Heap.SameBut a s.heap h') (he : ∃ q, h'.get? a = some q) (new : ObjOk X.prog X.w (upd H a ob) h' a ob) :
    Inv X pins σ (upd H a ob) { s with heap := h', toks := t' } :=
  I.write (x := a) (e := a) mu (.inl rfl) (fun b q hb z => (hs.2 b hb).trans z) he new
theorem dk_new {P : Program} {w : World} {H' : Hp} {h' : Heap} {kvs : List (Key × V)} {vs : List (Key × Value)} (z : kvs.length ≤ sizeLine) (hd : (a == sysModules) = false) (rel : KV kvs vs) (dd : h'.DictOf (mixKind P w) a vs) :
    ObjOk P w H' h' a (.dK kvs) := ⟨z, hd, vs, rel, dd⟩
theorem d_setItem {H' : Hp} {Q : Unit → Shared → Prop} (hu : A.units + 1 < cLine) (I : Inv X pins σ H s) (g : DPut H a y v H') (ry : RelV y u) (rv : RelV v r) (h : ∀ s', Inv X pins σ H' s' → Q () s') :
    wpAny (model X.prog X.w) A (setItem (.ref a) u r) Q E s := by
  rcases g with ⟨kvs, k, e, ey, l, eH⟩ | ⟨kvs, k, b, e, ey, eb, l, eH⟩
  · subst ey eH
    obtain ⟨z, hd, vs, rel, dd⟩ := dk_of I.hok e
    have hz : vs.length ≤ sizeLine := by rw [← rel.length]; exact z
    have hl : (putK kvs k v).length ≤ sizeLine := by have := length_putK kvs k v; omega
    refine wpAny_setItem_pairs (hsz := hz) (kV_is ry) dd fun h' dd' hs => h _ ?_
    have he : ∃ q, h'.get? a = some q := let ⟨q, _, _, hq, _⟩ := dd'; ⟨q, hq⟩
    exact d_write I (by rw [e]; exact True.intro) hs he (dk_new hl hd (rel.put k rv) dd')
  · subst ey eH
    cases (show u = Value.ref b from ry)
    obtain ⟨z, hd, xs, rel, dd⟩ := dt_of I.hok e
    have hz : xs.length ≤ sizeLine := by rw [← Paired.length rel]; exact z
    have hl : (putK kvs k v).length ≤ sizeLine := by have := length_putK kvs k v; omega
    refine wpAny_setItem_heap (hsz := hz) (tupleKind_room_in1 hu) (key_of I.hok eb) dd fun h' dd' hs => h _ ?_
    obtain ⟨q, es, ep, hq, h2, h3, h4, _, h5⟩ := dd'
    refine d_write I (by rw [e]; exact True.intro) hs ⟨q, hq⟩ ⟨hl, hd, _, (rel.put k eb rv).keeps fun c ys ec => ?_, q, es, ep, hq, h2, h3, h4, h5⟩
    rw [upd_ne (ne_of ec e (fun z => nomatch z))]
    exact ec
end
section
variable {X : Cx} {pins : List (Addr × Obj)} {σ : St} {H : Hp} {s : Shared} {a : Addr} {kvs : List (Key × V)} {k : Key} {u : Value} {A : Around} {E : Value → Shared → Prop}
theorem d_len {Q : Value → Shared → Prop} (I : Inv X pins σ H s) (e : Rd H a (.dK kvs)) (h : ∀ t s', Inv X pins σ H s' → Q (.int kvs.length t) s') : wpAny (model X.prog X.w) A (call (.builtin "len") [.ref a]) Q E s := by
  obtain ⟨z, hd, vs, rel, dd⟩ := dk_rd I.hok e
  refine call_len_dict hd dd (by rw [← rel.length]; rw [sizeLine_eq] at z; omega) ?_
  rw [← rel.length]
  exact h _ _ (I.tok _)
end
theorem dict_typeIs {X : Cx} {pins : List (Addr × Obj)} {σ : St} {H : Hp} {s : Shared} {a : Addr} {y : V} {o : Option V} (I : Inv X pins σ H s) (g : DGet H a y o) : s.TypeIs (.ref a) "dict" := by
  rcases g with ⟨kvs, k, e, _, _⟩ | ⟨kvs, k, b, e, _, _, _⟩
  · obtain ⟨_, _, vs, _, dd⟩ := dk_rd I.hok e
    exact dd.typeIs
  · obtain ⟨_, _, xs, _, dd⟩ := dt_rd I.hok e
    exact dd.typeIs
section
variable {X : Cx} {o i e value : Expr} {pos pos' tpos : Pos} {td ty tv : TE}
end
theorem dk_empty {P : Program} {w : World} {H : Hp} (h : Heap) (hb : sysModules < h.objs.size) : ObjOk P w H (h.push { cls := .type "dict", data := .dict #[] }) h.objs.size (.dK []) :=
  ⟨Nat.zero_le _, beq_eq_false_iff_ne.mpr (Ne.symm (Nat.ne_of_lt hb)), [], .nil, Heap.DictOf.new h⟩
theorem dt_empty {P : Program} {w : World} {H : Hp} (h : Heap) (hb : sysModules < h.objs.size) : ObjOk P w H (h.push { cls := .type "dict", data := .dict #[] }) h.objs.size (.dT []) :=
  ⟨Nat.zero_le _, beq_eq_false_iff_ne.mpr (Ne.symm (Nat.ne_of_lt hb)), [], .nil, _, #[], 0, Heap.get?_push_size _ rfl, ⟨rfl, rfl, rfl⟩, rfl, rfl, List.nodup_nil⟩
section
variable {X : Cx} {pos : Pos}
end
def tPairs : List (TE × TE) → St → Hp → (List (V × V) → Hp → Prop) → Prop
  | [], _, H, Q => Q [] H
  | (tk, tv) :: r, σ, H, Q => tk σ H fun x H1 => tv σ H1 fun y H2 => tPairs r σ H2 fun ps H3 => Q ((x, y) :: ps) H3
abbrev VV : List (V × V) → List (Value × Value) → Prop := Paired fun p q => RelV p.1 q.1 ∧ RelV p.2 q.2
def PPs (X : Cx) (pos : Pos) (keys : List (Option Expr)) (values : List Expr) (trs : List (TE × TE)) : Prop :=
  ∀ (pins : List (Addr × Obj)) (s : Shared) (σ : St) (H : Hp) (Q : List (V × V) → Hp → Prop), Inv X pins σ H s → tPairs trs σ H Q →
    wpAny (model X.prog X.w) X.A (evalPairs (pairTrees keys values X.env pos)) (fun vs s' => ∃ ps H', Inv X pins σ H' s' ∧ VV ps vs ∧ Q ps H') X.xe s
theorem pps_nil {X : Cx} {pos : Pos} : PPs X pos [] [] [] := fun pins s σ H Q I h => pairTrees_nil_walk ⟨[], H, I, .nil, h⟩
theorem pps_cons {X : Cx} {pos : Pos} {k v : Expr} {ks : List (Option Expr)} {vs : List Expr} {tk tv : TE} {trs : List (TE × TE)} (hk : PE X k tk) (hv : PE X v tv) (hr : PPs X pos ks vs trs) :
    PPs X pos (some k :: ks) (v :: vs) ((tk, tv) :: trs) := fun pins s σ H Q I h =>
  pairTrees_cons_walk (thn (hk pins s σ H _ I h) fun u s1 ⟨x, H1, I1, rx, q1⟩ => thn (hv pins s1 σ H1 _ I1 q1) fun w2 s2 ⟨y, H2, I2, ry, q2⟩ =>
    thn (hr pins s2 σ H2 _ I2 q2) fun ws s3 ⟨ps, H3, I3, rel, q3⟩ => ⟨(x, y) :: ps, H3, I3, .cons ⟨rx, ry⟩ rel, q3⟩)
def mergeK (kvs more : List (Key × V)) : List (Key × V) := more.foldl (fun acc kv => putK acc kv.1 kv.2) kvs
theorem KV.merge : ∀ {more : List (Key × V)} {rs : List (Key × Value)} {kvs : List (Key × V)} {vs : List (Key × Value)}, KV more rs → KV kvs vs → KV (mergeK kvs more) (merged vs rs) := by
  intro more rs kvs vs r
  unfold KV at r
  induction r generalizing kvs vs with
  | nil => intro q; exact q
  | @cons p q ps qs h t ih =>
    intro r0
    have e : KV (putK kvs p.1 p.2) (stored vs q.1 q.2) := by
      have := r0.put p.1 h.2
      rw [← h.1]; exact this
    exact ih e
theorem length_mergeK : ∀ (more kvs : List (Key × V)), (mergeK kvs more).length ≤ kvs.length + more.length
  | [], kvs => by show kvs.length ≤ kvs.length + 0; omega
  | p :: r, kvs => by
    have h1 := length_mergeK r (putK kvs p.1 p.2)
    have h2 := length_putK kvs p.1 p.2
    show (mergeK (putK kvs p.1 p.2) r).length ≤ _
    rw [List.length_cons]; omega
theorem carries_of {P : Program} {w : World} : ∀ {kvs : List (Key × V)} {ws : List (Value × Value)}, VV (kvs.map fun kv => (kV kv.1, kv.2)) ws → ∃ rs, Carries (mixKind P w) ws rs ∧ KV kvs rs
  | [], _, r => by rw [List.map_nil] at r; cases r; exact ⟨[], True.intro, .nil⟩
  | p :: kvs, _, r => by
    rw [List.map_cons] at r
    cases r with
    | @cons a b as bs h t =>
      obtain ⟨rs, c, q⟩ := carries_of (P := P) (w := w) t
      obtain ⟨b1, b2⟩ := b
      exact ⟨(p.1, b2) :: rs, ⟨kV_is h.1, rfl, c⟩, .cons ⟨rfl, h.2⟩ q⟩
def tDisp (trs : List (TE × TE)) : TE := fun σ H Q => ∀ p, H p = none → tPairs trs σ (upd H p (.dK [])) fun ps H2 => H2 p = some (.dK []) ∧ ∃ kvs : List (Key × V), ps = kvs.map (fun kv => (kV kv.1, kv.2)) ∧ kvs.length ≤ 15 ∧ Q (.ref p) (upd H2 p (.dK (mergeK [] kvs)))
theorem pe_disp {X : Cx} {pos : Pos} {keys : List (Option Expr)} {values : List Expr} {trs : List (TE × TE)} (h : PPs X pos keys values trs) (hall : keys.all (·.isSome) = true) (hl : keys.length = values.length) (h0 : keys ≠ [])
    (h15 : keys.length ≤ 15) : PE X (.Dict keys values pos) (tDisp trs) := by
  intro pins s σ H Q I q
  have hn := I.hok.fresh (Nat.le_refl s.heap.objs.size)
  have I1 := I.laid (a := s.heap.objs.size) (o := .dK []) (h' := s.heap.push { cls := .type "dict", data := .dict #[] }) (t' := s.toks) (fun _ _ q => Heap.get?_push_of_some _ q) (Nat.le_refl _) (dk_empty s.heap I.big)
  refine wpAny_Dict_walk (knd := mixKind X.prog X.w) hall hl h0 h15 (thn (h pins _ σ _ _ I1 (q _ hn)) fun ws s2 ⟨ps, H2, I2, rel, e, kvs, ep, lk, q2⟩ => ?_)
  subst ep
  obtain ⟨rs, c, rk⟩ := carries_of (P := X.prog) (w := X.w) rel
  obtain ⟨z, hd, vs0, r0, dd⟩ := dk_of I2.hok e
  cases r0
  refine ⟨rs, c, dd, fun h' dd' hs => ⟨.ref s.heap.objs.size, _, ?_, rfl, q2⟩⟩
  have hz : (mergeK [] kvs).length ≤ sizeLine := by
    have h1 := length_mergeK kvs []
    rw [List.length_nil] at h1
    rw [sizeLine_eq]; omega
  have he : ∃ q, h'.get? s.heap.objs.size = some q := let ⟨q, _, _, hq, _⟩ := dd'; ⟨q, hq⟩
  exact d_write I2 (by rw [e]; exact True.intro) hs he (dk_new hz hd (rk.merge .nil) dd')
section
variable {X : Cx} {pins : List (Addr × Obj)} {σ : St} {H : Hp} {s : Shared} {a : Addr} {y d : V} {u r : Value} {o : Option V} {A : Around} {E : Value → Shared → Prop}
theorem d_get1 {Q : Value → Shared → Prop} (hu : A.units + 1 < cLine) (I : Inv X pins σ H s) (g : DGet H a y o) (ry : RelV y u) (h : ∀ w' s', Inv X pins σ H s' → RelV (o.getD .non) w' → Q w' s') :
    wpAny (model X.prog X.w) A (call (.builtin "dict.get") [.ref a, u]) Q E s := by
  rcases g with ⟨kvs, k, e, ey, l⟩ | ⟨kvs, k, b, e, ey, eb, l⟩
  · subst ey
    obtain ⟨z, hd, vs, rel, dd⟩ := dk_rd I.hok e
    refine call_meetsIn PySem.F.slot_dict_get dd.typeIs PySem.F.entry_dict_get (PySem.F.args_dict_get_2 _ _) (meets_dict_get (mixKind X.prog X.w) a (kV_is ry) hd) ⟨_, dd.mapOf, h _ _ (I.tok _) ?_⟩
    rw [l]
    exact (rel.val k).getD rfl
  · subst ey
    cases (show u = Value.ref b from ry)
    obtain ⟨z, hd, xs, rel, dd⟩ := dt_rd I.hok e
    refine call_meetsIn PySem.F.slot_dict_get dd.typeIs PySem.F.entry_dict_get (PySem.F.args_dict_get_2 _ _) (meetsH_dict_get (tupleKind (mixKind X.prog X.w)) a b hd) ⟨tupleKind_room_in1 hu, k, xs, key_of I.hok eb, dd, h _ _ (I.tok _) ?_⟩
    rw [l]
    exact (rel.val k).getD rfl
theorem d_get2 {Q : Value → Shared → Prop} (hu : A.units + 1 < cLine) (I : Inv X pins σ H s) (g : DGet H a y o) (ry : RelV y u) (rd : RelV d r) (h : ∀ w' s', Inv X pins σ H s' → RelV (o.getD d) w' → Q w' s') :
    wpAny (model X.prog X.w) A (call (.builtin "dict.get") [.ref a, u, r]) Q E s := by
  rcases g with ⟨kvs, k, e, ey, l⟩ | ⟨kvs, k, b, e, ey, eb, l⟩
  · subst ey
    obtain ⟨z, hd, vs, rel, dd⟩ := dk_rd I.hok e
    refine call_meetsIn PySem.F.slot_dict_get dd.typeIs PySem.F.entry_dict_get (PySem.F.args_dict_get_3 _ _ _) (meets_dict_get_default (mixKind X.prog X.w) a (kV_is ry) hd r) ⟨_, dd.mapOf, h _ _ (I.tok _) ?_⟩
    rw [l]
    exact (rel.val k).getD rd
  · subst ey
    cases (show u = Value.ref b from ry)
    obtain ⟨z, hd, xs, rel, dd⟩ := dt_rd I.hok e
    refine call_meetsIn PySem.F.slot_dict_get dd.typeIs PySem.F.entry_dict_get (PySem.F.args_dict_get_3 _ _ _) (meetsH_dict_get_default (tupleKind (mixKind X.prog X.w)) a b hd r) ⟨tupleKind_room_in1 hu, k, xs, key_of I.hok eb, dd, h _ _ (I.tok _) ?_⟩
    rw [l]
    exact (rel.val k).getD rd
end
section
variable {X : Cx} {o e f : Expr} {apos cpos : Pos} {td ty tx : TE}
end
section
variable {X : Cx} {pins : List (Addr × Obj)} {σ : St} {H : Hp} {s : Shared} {a : Addr} {kvs : List (Key × V)} {A : Around} {E : Value → Shared → Prop}
end
section
variable {X : Cx} {pins : List (Addr × Obj)} {σ : St} {H : Hp} {s : Shared} {a : Addr} {y : V} {u : Value} {A : Around} {E : Value → Shared → Prop}
end
end L2
set_option maxRecDepth 100000
set_option maxHeartbeats 4000000
namespace L2
open PySem PySem.Spec PyProof.Rows
abbrev EK := Addr → Hp → Prop
abbrev DE := St → Hp → VK → EK → Prop
abbrev DT := St → Hp → (Bool → Hp → Prop) → EK → Prop
abbrev DA := St → Hp → (List V → Hp → Prop) → EK → Prop
structure Outs where
  nx : St → Hp → Prop
  rt : VK
  bk : St → Hp → Prop
  ct : St → Hp → Prop
  ex : St → EK
abbrev DS := Outs → St → Hp → Prop
abbrev excObj (C : Addr) (dx : Option Addr) (vs : Array Value) : Obj := { cls := .ref C, dict := dx, data := .fields vs }
def excO (a C : Addr) (dx : Option Addr) : HO := .ext fun h => ∃ vs : Array Value, h.get? a = some (excObj C dx vs) ∧ vs.size = 6 ∧ vs[1]? = some .none
def flO (a C : Addr) (dx : Option Addr) : HO := .ext fun h => ∃ vs : Array Value, h.get? a = some (excObj C dx vs) ∧ vs.size = 6
def xdO (dx : Addr) (fs : List (Str × V)) : HO := .ext fun h => fs.length ≤ 1000 ∧ ∃ mA, h.Ns1 dx mA ∧ (∀ f, RelO (fs.lookup f) (mA f)) ∧ PySem.Within mA (fs.map (·.1))
def FlyAt (X : Cx) (pins : List (Addr × Obj)) (H : Hp) (a : Addr) (s : Shared) : Prop :=
  ∃ (C : Addr) (dx : Option Addr) (vs : Array Value), H a = some (flO a C dx) ∧ s.heap.get? a = some (excObj C dx vs) ∧ vs.size = 6 ∧
    (vs[1]? = some .none ∨ ∃ (T : Addr) (oT : Obj) (ts : Array Value), vs[1]? = some (.ref T) ∧ T ≠ a ∧ s.heap.get? T = some oT ∧ oT.data = .fields ts ∧ ts[3]? = some .none ∧ FpOk X pins H T)
def Meets (X : Cx) (Ex : St → EK) : Prop :=
  ∀ (pins : List (Addr × Obj)) (σ : St) (H : Hp) (s : Shared) (a : Addr), Inv X pins σ H s → FlyAt X pins H a s → Ex σ a H → X.xe (.ref a) s
def QE (X : Cx) (e : Expr) (t : DE) : Prop := ∀ Ex, Meets X Ex → PE X e (fun σ H Q => t σ H Q (Ex σ))
def QT (X : Cx) (e : Expr) (t : DT) : Prop := ∀ Ex, Meets X Ex → PT X e (fun σ H Q => t σ H Q (Ex σ))
def QW (X : Cx) (e : Expr) (t : DT) : Prop := ∀ Ex, Meets X Ex → PW X e (fun σ H Q => t σ H Q (Ex σ))
def QA (X : Cx) (es : List Expr) (t : DA) : Prop := ∀ Ex, Meets X Ex → PA X es (fun σ H Q => t σ H Q (Ex σ))
def outs (Ex : St → EK) (D : Ends) : Outs := ⟨D.nx, D.rt, D.bk, D.ct, Ex⟩
def QS (X : Cx) (st : Stmt) (t : DS) : Prop := ∀ Ex, Meets X Ex → PS X st (fun D σ H => t (outs Ex D) σ H)
def QSs (X : Cx) (st : List Stmt) (t : DS) : Prop := ∀ Ex, Meets X Ex → PSs X st (fun D σ H => t (outs Ex D) σ H)
def dNo : DE := fun _ _ _ _ => False
def dVar (i : Nat) : DE := fun σ H Q _ => match σ[i]? with
  | some (some v) => Q v H
  | _ => False
def dC (v : V) : DE := fun _ H Q _ => Q v H
def dBin (r : R2) (a b : DE) : DE := fun σ H Q E => a σ H (fun x H1 => b σ H1 (fun y H2 => r x y H2 Q) E) E
def dUn (r : V → Hp → VK → Prop) (a : DE) : DE := fun σ H Q E => a σ H (fun x H1 => r x H1 Q) E
def dChain (r r' : R2) (a b c : DE) : DE := fun σ H Q E => a σ H (fun x H1 => b σ H1 (fun y H2 => r x y H2 fun z H3 => match z with
  | .bl k => if k = true then c σ H3 (fun w H4 => r' y w H4 Q) E else Q (.bl false) H3
  | _ => False) E) E
def dAnd (a b : DT) : DT := fun σ H Q E => a σ H (fun k H1 => if k = true then b σ H1 Q E else Q false H1) E
def dOr (a b : DT) : DT := fun σ H Q E => a σ H (fun k H1 => if k = true then Q true H1 else b σ H1 Q E) E
def dNot (a : DT) : DT := fun σ H Q E => a σ H (fun k H1 => Q (!k) H1) E
def dIfE (t : DT) (a b : DE) : DE := fun σ H Q E => t σ H (fun k H1 => if k = true then a σ H1 Q E else b σ H1 Q E) E
def truD (K : PySem.W.Frag) (x : V) (H : Hp) (Q : Bool → Hp → Prop) : Prop := match x with
  | .bl k => Q k H
  | .non => Q false H
  | .int i => Q (i != 0) H
  | .str y => y.length ≤ sizeLine ∧ Q ((y.length : Int) != 0) H
  | .ref p => ∃ k, TruV K (.ref p) H k ∧ Q k H
  | _ => False
def dAndV (K : PySem.W.Frag) (a b : DE) : DE := fun σ H Q E => a σ H (fun x H1 => truD K x H1 fun k H2 => if k = true then b σ H2 Q E else Q x H2) E
def dOrV (K : PySem.W.Frag) (a b : DE) : DE := fun σ H Q E => a σ H (fun x H1 => truD K x H1 fun k H2 => if k = true then Q x H2 else b σ H2 Q E) E
def dNotV (K : PySem.W.Frag) (a : DE) : DE := fun σ H Q E => a σ H (fun x H1 => truD K x H1 fun k H2 => Q (.bl (!k)) H2) E
def dTru (K : PySem.W.Frag) (a : DE) : DT := fun σ H Q E => a σ H (fun x H1 => truD K x H1 Q) E
def dTst (a : DE) : DT := fun σ H Q E => a σ H (fun x H1 => match x with
  | .bl k => Q k H1
  | _ => False) E
def dNil : DA := fun _ H Q _ => Q [] H
def dCons (a : DE) (r : DA) : DA := fun σ H Q E => a σ H (fun x H1 => r σ H1 (fun xs H2 => Q (x :: xs) H2) E) E
def dTup (t : DA) : DE := fun σ H Q E => t σ H (fun xs H1 => xs.length ≤ sizeLine ∧ ∀ p, H1 p = none → Q (.ref p) (upd H1 p (.tup xs))) E
def dLst (t : DA) : DE := fun σ H Q E => t σ H (fun xs H1 => xs.length ≤ sizeLine ∧ ∀ p, H1 p = none → Q (.ref p) (upd H1 p (.lst xs))) E
def dFn (r : List V → Hp → VK → EK → Prop) (t : DA) : DE := fun σ H Q E => t σ H (fun vs H1 => r vs H1 Q E) E
def dMt (r : V → Hp → (Hp → (List V → Hp → Prop) → Prop) → VK → Prop) (o : DE) (t : DA) : DE := fun σ H Q E => o σ H (fun x H1 => r x H1 (fun H2 R => t σ H2 R E) Q) E
def dNext : DS := fun D σ H => D.nx σ H
def dNever : DS := fun _ _ _ => False
def dSeq (t u : DS) : DS := fun D σ H => t { D with nx := u D } σ H
def dRet (e : DE) : DS := fun D σ H => e σ H D.rt (D.ex σ)
def dRetN : DS := fun D _ H => D.rt .non H
def dDrop (e : DE) : DS := fun D σ H => e σ H (fun _ H1 => D.nx σ H1) (D.ex σ)
def dIf (c : DT) (t u : DS) : DS := fun D σ H => c σ H (fun b H1 => if b = true then t D σ H1 else u D σ H1) (D.ex σ)
def dBrk : DS := fun D σ H => D.bk σ H
def dCnt : DS := fun D σ H => D.ct σ H
def dSet (i : Nat) (e : DE) : DS := fun D σ H => e σ H (fun v H1 => D.nx (σ.set i (some v)) H1) (D.ex σ)
abbrev DG := TG
def dAsg (e : DE) (g : DG) : DS := fun D σ H => e σ H (fun v H1 => g v σ H1 D.nx) (D.ex σ)
abbrev DI := St → Hp → (It → Hp → Prop) → EK → Prop
def ForW (J : It) (g : DG) (tb : DS) (D : Outs) (σ : St) (H : Hp) : Prop := ∃ W : Nat → Nat → St → Hp → Prop, (∃ m, W 0 m σ H) ∧ ∀ i m σ H, W i m σ H →
  (J.stop i H ∧ D.nx σ H) ∨ (J.go i H ∧ ∃ N : St → Hp → Prop, (∀ σ' H', N σ' H' → ∃ m', m' < m ∧ W (i + 1) m' σ' H') ∧ ∀ x H', J.yld i H x H' → g x σ H' (fun σ2 H2 => tb { D with nx := N, ct := N, bk := D.nx } σ2 H2))
def Thaw (H0 H : Hp) (P : Hp → Prop) : Prop := P H ∨ ∃ p o kvs, H0 p = some (.dK kvs) ∧ H p = some (.frz o (.dK kvs)) ∧ P (upd H p (.dK kvs))
def dFor (wi : DI) (g : DG) (tb : DS) : DS := fun D σ H => wi σ H (fun J H1 => ForW J g tb { D with nx := fun σ' H' => Thaw H H' (D.nx σ') } σ H1) (D.ex σ)
def CmpW (J : It) (g : DG) (tc : DT) (te : DE) (D : Addr) (R : Hp → Prop) (σ : St) (H : Hp) : Prop :=
  ∃ W : Nat → Nat → St → Hp → Prop, (∃ m, W 0 m σ H) ∧ ∀ i m σ' H', W i m σ' H' →
    (J.stop i H' ∧ R H') ∨ (J.go i H' ∧ ∃ N : St → Hp → Prop, (∀ σ2 H2, N σ2 H2 → ∃ m', m' < m ∧ W (i + 1) m' σ2 H2) ∧ ∀ x H2, J.yld i H' x H2 → g x σ' H2 (fun σ3 H3 => tc σ3 H3 (fun b H4 => if b = true then
        te σ3 H4 (fun v H5 => ∃ ys, H5 D = some (.lst ys) ∧ ys.length < sizeLine ∧ N σ3 (upd H5 D (.lst (ys ++ [v])))) (fun _ _ => False)
      else N σ3 H4) (fun _ _ => False)))
def dComp (srcs : List (Option Nat)) (wi : DI) (g : DG) (tc : DT) (te : DE) : DE := fun σ H Q E => wi σ H (fun J H1 => ∀ D, H1 D = none → CmpW J g tc te D (fun H' => Q (.ref D) H') (capt srcs σ) (upd H1 D (.lst []))) E
def dYes : DT := fun _ H Q _ => Q true H
def gdN (i : Nat) : DG := fun v σ H Q => Q (σ.set i (some v)) H
end L2
set_option maxRecDepth 100000
set_option maxHeartbeats 4000000
namespace L2
open PySem PySem.Spec PyProof.Rows PySem.W
section
variable {prog : Program} {w : World} {A : Around} {E : Value → Shared → Prop} {s : Shared} {K : PySem.W.Frag} {x C : Addr} {ox : Obj} {od : Option Obj} {name : Str} {expr : Bool} {Q : Value → Shared → Prop}
theorem bga_bind (self : Value) : bindSpecial (.builtin "BaseException.__getattribute__") self = pure (.builtin "BaseException.__getattribute__", [self]) := by
  have hop : withoutEnding? "BaseException.__getattribute__" "#opaque" = none := by decide +kernel
  have hdat : withoutEnding? "BaseException.__getattribute__" "#data" = none := by decide +kernel
  have hk : builtinKind "BaseException.__getattribute__" = some .slot := by decide +kernel
  simp only [bindSpecial, typeOf, builtinType, hop, hdat, hk]; rfl
end
end L2
set_option maxRecDepth 100000
set_option maxHeartbeats 4000000
namespace L2
open PySem PySem.Spec PyProof.Rows PySem.W Builtin Builtin.ObjectAttr
def excTail : List Value → Bool
  | [.type a, .type b, .type c, .type d] => a == "ValueError" && b == "Exception" && c == "BaseException" && d == "object"
  | .ref _ :: r => excTail r
  | _ => false
def valTail : List Value := [.type "ValueError", .type "Exception", .type "BaseException", .type "object"]
theorem excTail_eq : ∀ {l : List Value}, excTail l = true → ∃ rs : List Addr, l = rs.map Value.ref ++ valTail
  | [.type a, .type b, .type c, .type d], e => by
    have e : (a == "ValueError" && b == "Exception" && c == "BaseException" && d == "object") = true := e
    simp only [Bool.and_eq_true, beq_iff_eq] at e
    obtain ⟨⟨⟨rfl, rfl⟩, rfl⟩, rfl⟩ := e
    exact ⟨[], rfl⟩
  | .ref a :: r, e => by
    have e : excTail r = true := by cases r <;> first | exact e | cases e
    obtain ⟨rs, h⟩ := excTail_eq e
    exact ⟨a :: rs, by rw [h]; rfl⟩
theorem tail_has (rs : List Addr) {T : String} (h : valTail.contains (.type T) = true) : (rs.map Value.ref ++ valTail).contains (.type T) = true := by
  induction rs with
  | nil => exact h
  | cons a r ih => rw [List.map_cons, List.cons_append, List.contains_cons, ih, Bool.or_true]
section
variable {prog : Program} {w : World} {A : Around} {s : Shared} {K : PySem.W.Frag} {x C : Addr} {R : Result → Shared → Prop}
end
section
variable {prog : Program} {w : World} {A : Around} {E : Value → Shared → Prop} {s : Shared} {K : PySem.W.Frag} {x dx C f : Addr} {mA : Str → Option Value} {name : Str} {v : Value} {vs : Array Value}
end
end L2
set_option maxRecDepth 100000
set_option maxHeartbeats 4000000
namespace L2
open PySem PySem.Spec PySem.W Builtin Builtin.ObjectAttr
open Sem (wp)
structure ECls (K : PySem.W.Frag) (C : Addr) : Prop where
  obj : ∃ nm q N bs bm hdct sn sub ab col dd k0 k1 k2 k3 k5, K.lookup C = some (excClassObj nm q C N bs bm hdct sn sub ab col dd k0 k1 k2 k3 k5 "ValueError.__new__") ∧ excTail bm = true ∧ hdct = true
  sa : findIn K (.ref C) "__setattr__" = some (some (.builtin "object.__setattr__"))
  ga : findIn K (.ref C) "__getattribute__" = some (some (.builtin "BaseException.__getattribute__"))
  gt : findIn K (.ref C) "__getattr__" = some none
  ca : findIn K (.ref C) "__class__" = some (some (.builtin "object.__class__"))
  hn : specialIn K (.builtin "object.__class__") "__get__" = some (some (.builtin "getset_descriptor.__get__"))
  htk : takesIn K (.builtin "object.__class__") = some true
theorem excTail_has {bm : List Value} (h : excTail bm = true) {T : String} {b : Bool} (hb : valTail.contains (.type T) = b) : bm.contains (.type T) = b := by
  obtain ⟨rs, rfl⟩ := excTail_eq h
  induction rs with
  | nil => exact hb
  | cons a r ih =>
    have h' : excTail (r.map Value.ref ++ valTail) = true := by
      cases r <;> exact h
    rw [List.map_cons, List.cons_append, List.contains_cons, ih h']
    rfl
section
variable {M : Model} {A : Around} {E : Value → Shared → Prop} {h : Heap} {g : Array GenState} {d : Drawn} {t : Nat} {os : OsState}
variable {nm q : Str} {C N : Addr} {bs bm : List Value} {hdct : Bool} {sn : List Str} {sub : List Value} {ab : Bool} {col : Option Bool} {dd : Option Addr} {k0 k1 k2 k3 k5 : Option Value}
theorem wpAny_check_new_X (T : excTail bm = true) {rest : List Value} {Q : Unit → Shared → Prop} (hC : h.get? C = some (excClassObj nm q C N bs bm hdct sn sub ab col dd k0 k1 k2 k3 k5 "ValueError.__new__"))
    (hq : Q () ⟨h, g, d, t, os⟩) : wpAny M A (checkBuiltinCall "ValueError.__new__" ⟨.ref C :: rest, []⟩) Q E ⟨h, g, d, t, os⟩ := by
  have F := PySem.F.excBase_ValueError
  have hcont : (Value.ref C :: bm).contains (.type "ValueError") = true := by rw [List.contains_cons, excTail_has T (show valTail.contains (.type "ValueError") = true by decide +kernel), Bool.or_true]
  have hstar := F.noStar
  simp only [checkBuiltinCall, F.newKind, F.newSplit, F.newRow]
  repeat (first | refine wpAny_loadPart_at hC ?_ | (refine wpAny_isSubtype_exc hC ?_; rw [hcont]) | refine wpAny_staticBase_exc hC ?_ | refine wpAny_madeBy_exc hC ?_ | simp only [bne_self_eq_false, Bool.false_eq_true, if_false] | wp_step)
  exact hq
end
section
variable {prog : Program} {w : World} {A : Around} {R : Result → Shared → Prop} {h : Heap} {g : Array GenState} {d : Drawn} {t : Nat} {os : OsState}
variable {nm q : Str} {C N : Addr} {bs bm : List Value} {hdct : Bool} {sn : List Str} {sub : List Value} {ab : Bool} {col : Option Bool} {dd : Option Addr} {k0 k1 k2 k3 k5 : Option Value}
theorem codeAny_exc_new_X (T : excTail bm = true) {rest : List Value} (hC : h.get? C = some (excClassObj nm q C N bs bm hdct sn sub ab col dd k0 k1 k2 k3 k5 "ValueError.__new__"))
    (hq : R (.ok (.ret (.ref (h.objs.size + 1)))) ⟨(h.push { cls := .type "tuple", data := .seq rest.toArray }).push
      { cls := .ref C, data := .fields #[.ref h.objs.size, .none, .none, .none, .bool false, .none] }, g, d, t, os⟩) (hrest : rest.length ≤ sizeLine) :
    codeAny (model prog w) A (.builtin "ValueError.__new__" ⟨.ref C :: rest, []⟩) R ⟨h, g, d, t, os⟩ := by
  have F := PySem.F.excBase_ValueError
  have hends := F.ends
  have hcB : (Value.ref C :: bm).contains (.type "ValueError") = true := by rw [List.contains_cons, excTail_has T (show valTail.contains (.type "ValueError") = true by decide +kernel), Bool.or_true]
  have hcA : (Value.ref C :: bm).contains (.type "AttributeError") = false := by rw [List.contains_cons, excTail_has T (show valTail.contains (.type "AttributeError") = false by decide +kernel)]; rfl
  have hcN : (Value.ref C :: bm).contains (.type "NameError") = false := by rw [List.contains_cons, excTail_has T (show valTail.contains (.type "NameError") = false by decide +kernel)]; rfl
  refine codeAny_builtinAt F.entry ?_
  unfold Builtin.«BaseException.__new__»
  refine wpAt_bind ?_
  show wpAt _ _ _ (stack >>= _) _ _ _
  refine wpAt_bind (wpAt_stack fun p below => wpAt_of_wpAny ?_)
  wp_walk
  refine wpAt_of_wpAny ?_
  rw [F.owner]
  repeat (first | with_reducible refine wpAny_madeHere_exc F.canon hC ?_ | with_reducible refine wpAny_loadPart_at hC ?_ | (with_reducible refine wpAny_isSubtype_exc hC ?_; first | rw [hcB] | rw [hcA] | rw [hcN]) | wp_step)
  show R _ _
  rw [Heap.size_push]
  exact hq
end
end L2
set_option maxRecDepth 100000
set_option maxHeartbeats 4000000
namespace L2
open PySem PySem.Spec PySem.W Builtin Builtin.ObjectAttr
open Sem (wp)
section
variable {prog : Program} {w : World} {A : Around} {E : Value → Shared → Prop} {h : Heap} {g : Array GenState} {d : Drawn} {t : Nat} {os : OsState}
variable {nm q : Str} {C N f : Addr} {bs bm : List Value} {hdct : Bool} {sn : List Str} {sub : List Value} {ab : Bool} {col : Option Bool} {dd : Option Addr} {k0 k1 k2 k3 k5 : Option Value}
abbrev excHeap (h : Heap) (C : Addr) (rest : List Value) : Heap := (h.push { cls := .type "tuple", data := .seq rest.toArray }).push { cls := .ref C, data := .fields #[.ref h.objs.size, .none, .none, .none, .bool false, .none] }
theorem wpAny_type_call_X0 (T : excTail bm = true) {rest : List Value} {Q : Fin → Shared → Prop}
    (hC : h.get? C = some (excClassObj nm q C N bs bm hdct sn sub ab col dd k0 k1 k2 k3 k5 "ValueError.__new__"))
    (hi : Looks (model prog w) h (typeLookup (.ref C) "__init__") (some (.builtin "ValueError.__init__")))
    (hq : ∀ h' e, Heap.MadeExcOf h h' e (.ref C) rest → e = h.objs.size + 1 → Q (.done (.ret (.ref e))) ⟨h', g, d, t, os⟩) (hrest : rest.length ≤ sizeLine) :
    wpAny (model prog w) A (Builtin.«type.__call__» ⟨.ref C :: rest, []⟩) Q E ⟨h, g, d, t, os⟩ := by
  have F := PySem.F.excBase_ValueError
  repeat (first | with_reducible refine wpAny_loadPart_at hC ?_ | with_reducible refine wpAny_madeBy_exc hC ?_ | wp_step)
  refine codeAny_call_builtin_code (Code.quiet_builtin _ F.quiet) (wpAny_check_new_X T hC ?_)
  refine codeAny_exc_new_X T hC ?_ hrest
  show wpAny _ _ _ _ _ _
  have kp : ∀ b o, h.get? b = some o → (excHeap h C rest).get? b = some o := fun b o e => Heap.get?_push_of_some _ (Heap.get?_push_of_some _ e)
  have hC₁ := kp _ _ hC
  have hget : (excHeap h C rest).get? (h.objs.size + 1) = some { cls := .ref C, data := .fields #[.ref h.objs.size, .none, .none, .none, .bool false, .none] } := by heap_get
  have hcC : (Value.ref C :: bm).contains (.ref C) = true := by simp
  have hcB : (Value.ref C :: bm).contains (.type "ValueError") = true := by rw [List.contains_cons, excTail_has T (show valTail.contains (.type "ValueError") = true by decide +kernel), Bool.or_true]
  unfold isInstance
  repeat (first | with_reducible refine wpAny_loadPart_at hget ?_ | (with_reducible refine wpAny_isSubtype_exc hC₁ ?_; rw [hcC]) | wp_step)
  show wpAny _ _ (typeLookup (.ref C) _) _ _ _
  refine (hi.keeps kp).at ?_
  refine wpAny_holding (wpAny_bind (wpAny_of_eq (F.init.bind _) ?_))
  have chk : ∀ {Q' : Unit → Shared → Prop} {E' : Value → Shared → Prop} {A' : Around}, Q' () ⟨excHeap h C rest, g, d, t, os⟩ → wpAny (model prog w) A' (checkBuiltinCall "ValueError.__init__" ⟨.ref (h.objs.size + 1) :: rest, []⟩) Q' E' ⟨excHeap h C rest, g, d, t, os⟩ := fun {Q' E' A'} hq' => by
    have hshort := F.noStar
    simp only [checkBuiltinCall, F.initKind, F.initSplit, F.initRow]
    repeat (first | with_reducible refine wpAny_loadPart_at hget ?_ | with_reducible refine wpAny_loadPart_at hC₁ ?_ | (with_reducible refine wpAny_isSubtype_exc hC₁ ?_; rw [hcB]) | wp_step)
    refine wpAny_onRaise ?_
    rw [show ∀ (a b : String) (n : Nat), Bind.check ⟨.positional, "*", "ValueError", .self, [⟨"args", .varPos, false⟩]⟩ a b n (List.map (fun x => x.fst) ({ pos := Value.ref (h.objs.size + 1) :: rest } : Args).kw) = pure () from
      fun a b n => check_star_args _ _ _ _ _ _]
    exact wpAny_pure hq'
  refine wpAny_bind (wpAny_call (codeAny_call_builtin F.init.plain F.initEntry (chk ?_)))
  wp_walk
  refine hq _ _ ⟨fun b o hb => ?_, Heap.get?_none_of_le (Nat.le_succ _), h.objs.size + 2, ?_, Heap.get?_none_of_le (by omega), ?_⟩ rfl
  · rw [Heap.get?_update_other _ _ (Nat.ne_of_gt (Nat.lt_succ_of_lt (Heap.lt_size hb)))]
    exact Heap.get?_push_of_some _ (Heap.get?_push_of_some _ (Heap.get?_push_of_some _ hb))
  · rw [Heap.get?_update_self _ (Heap.get?_push_of_some _ hget) rfl]
    simp only [Heap.size_push]
    rfl
  · rw [Heap.get?_update_other _ _ (show h.objs.size + 1 ≠ h.objs.size + 2 by omega)]
    exact Heap.get?_push_at (by simp only [Heap.size_push]) rfl
theorem make_exc0 (T : excTail bm = true) {rest : List Value} {R : Result → Shared → Prop}
    (hC : h.get? C = some (excClassObj nm q C N bs bm hdct sn sub ab col dd k0 k1 k2 k3 k5 "ValueError.__new__"))
    (hi : Looks (model prog w) h (typeLookup (.ref C) "__init__") (some (.builtin "ValueError.__init__")))
    (hq : ∀ h' e, Heap.MadeExcOf h h' e (.ref C) rest → e = h.objs.size + 1 → R (.ok (.ret (.ref e))) ⟨h', g, d, t, os⟩) (hrest : rest.length ≤ sizeLine) :
    codeAny (model prog w) A (.call (.ref C) ⟨rest, []⟩) R ⟨h, g, d, t, os⟩ := by
  have f1 := tc_lookup
  have f2 := tc_bind (.ref C)
  have hT : (⟨h, g, d, t, os⟩ : Shared).TypeIs (.ref C) "type" := ⟨_, hC, rfl⟩
  refine codeAny_of_tree ?_
  show wpAny _ _ (callAny (.ref C) _) _ _ _
  repeat (any_goals (first | assumption | with_reducible refine wpAny_loadPart_at hC ?_ | wp_step))
  refine ⟨rfl, ?_⟩
  exact codeAny_call_builtin_at (Code.quiet_builtin _ (by decide +kernel)) entry_typeCall (wpAny_check_type_call_sub hC (wpAny_type_call_X0 T hC hi hq hrest))
end
end L2
set_option maxRecDepth 100000
set_option maxHeartbeats 4000000
namespace L2
open PySem PySem.Spec PySem.W PyProof.Rows
theorem ECls.cls {K : PySem.W.Frag} {C : Addr} (c : ECls K C) : ∃ cd, clsIn K C = some cd ∧ excTail cd.mro = true ∧ cd.hasDict = true := by
  obtain ⟨nm, q, N, bs, bm, hdct, sn, sub, ab, col, dd, k0, k1, k2, k3, k5, hl, ht, hd⟩ := c.obj
  refine ⟨_, by unfold clsIn; rw [hl], ?_, hd⟩
  obtain ⟨rs, e⟩ := excTail_eq ht
  show excTail (Value.ref C :: bm) = true
  rw [e]
  clear e
  show excTail (List.map Value.ref (C :: rs) ++ valTail) = true
  have : ∀ l : List Addr, excTail (List.map Value.ref l ++ valTail) = true := fun l => by
    induction l with
    | nil => decide +kernel
    | cons a r ih => cases r <;> exact ih
  exact this _
theorem ECls.sub {K : PySem.W.Frag} {C : Addr} (c : ECls K C) {T : String} (h : valTail.contains (.type T) = true) : mroIn K C (.type T) = some true := by
  obtain ⟨cd, h1, h2, _⟩ := c.cls
  obtain ⟨rs, e⟩ := excTail_eq h2
  unfold mroIn
  rw [h1, Option.bind_some, e, tail_has rs h, if_neg]
  cases rs <;> exact Bool.false_ne_true
section
variable {prog : Program} {w : World} {A : Around} {E : Value → Shared → Prop} {s : Shared} {K : PySem.W.Frag} {x C : Addr} {ox : Obj} {od : Option Obj} {name : Str}
theorem get_excB {g a v : Value} {Q : Option Value → Shared → Prop} (X : K.In s.heap) (I : PySem.W.InstAt s.heap x ox C od) (hga : PySem.W.findIn K (.ref C) "__getattribute__" = some (some (.builtin "BaseException.__getattribute__"))) (hgt : PySem.W.findIn K (.ref C) "__getattr__" = some none)
    (hB : PySem.W.mroIn K C (.type "BaseException") = some true) (hf : PySem.W.findObj K C od name = some (.bind g a)) (hh : PySem.W.handedIn v = true)
    (h : ∀ {A' : Around} {R : Result → Shared → Prop}, R (.ok (.ret v)) { s with toks := s.toks + 1 } → codeAny (model prog w) A' (.call g ⟨[a, .ref x, .ref C], []⟩) R { s with toks := s.toks + 1 }) (hq : Q (some v) { s with toks := s.toks + 1 }) :
    wpAny (model prog w) A (getAttr? (.ref x) name) Q E s := by
  obtain ⟨hp, gg, d, t, os⟩ := s
  have L0 := I.type (M := model prog w)
  have L1 := PySem.W.looks_findIn (M := model prog w) X hga
  have L2 := PySem.W.looks_findIn (M := model prog w) X hgt
  have L3 := PySem.W.looks_find (M := model prog w) X I hf
  have L4 := PySem.W.looks_mroIn (M := model prog w) X hB
  unfold getAttr? getAttrBy? getAttrBy
  refine wpAny_bind (wpAny_mkText (wpAny_bind (wpAny_attempt (wpAny_holding (wpAny_bind (L0.at (wpAny_bind (L1.at ?_))))))))
  have hx2 : (Value.builtin "BaseException.__getattribute__" == Value.builtin "object.__getattribute__") = false := by decide +kernel
  have hx1 : (onTheHeap (Value.ref C) && Value.builtin "BaseException.__getattribute__" == Value.builtin "object.__getattribute__") = false := by rw [hx2]; rfl
  dsimp only
  rw [hx1, if_neg Bool.false_ne_true]
  unfold getAttrByItsOwn
  refine wpAny_bind (show wpAny _ _ (typeLookup (.ref C) "__getattr__") _ _ _ from L2.at ?_)
  refine wpAny_bind (wpAny_attempt (wpAny_holding ?_))
  have hx0 : (false && onTheHeap (Value.builtin "BaseException.__getattribute__")) = false := rfl
  unfold callGetattribute
  rw [hx0, if_neg Bool.false_ne_true]
  unfold boundAndCalled
  rw [bga_bind]
  refine wpAny_bind (wpAny_pure ?_)
  refine wpAny_call (codeAny_call_builtin (by decide +kernel) F.entry_bexc_ga (check_slot (i := "BaseException.__getattribute__") (owner := "BaseException") (n := "__getattribute__") (by decide +kernel) (by decide +kernel) (L0.andThen L4) (F.args_bexc_ga _ _) ?_))
  unfold Builtin.«object.__getattribute__»
  refine wpAny_bind (wpAny_pure (wpAny_bind (wpAny_pure (wpAny_bind (L0.at (wpAny_bind (L3.at ?_)))))))
  refine wpAny_bind (wpAny_holding (wpAny_call (h ?_)))
  refine wpAny_pure ?_
  show wpAny _ _ (handedOut v) _ _ _
  rw [PySem.W.handedOut_of hh]
  exact wpAny_pure (wpAny_pure hq)
theorem findObj_dataO {a g : Value} (hc : (clsIn K C).isSome = true) (ha : findIn K (.ref C) name = some (some a)) (hg : specialIn K a "__get__" = some (some g)) (ht : takesIn K a = some true) : findObj K C od name = some (.bind g a) := by
  obtain ⟨cd, hc⟩ := Option.isSome_iff_exists.mp hc
  unfold findObj
  rw [hc, Option.bind_some, ha, Option.bind_some]
  simp [hg, ht]
theorem exc_class {Q : Option Value → Shared → Prop} (c : ECls K C) (X : K.In s.heap) (I : InstAt s.heap x ox C od) (h : Q (some (.ref C)) { s with toks := s.toks + 1 }) : wpAny (model prog w) A (getAttr? (.ref x) "__class__") Q E s := by
  have hf : findObj K C od "__class__" = some (.bind (.builtin "getset_descriptor.__get__") (.builtin "object.__class__")) := findObj_dataO (by obtain ⟨cd, hc, _⟩ := c.cls; rw [hc]; rfl) c.ca c.hn c.htk
  exact get_excB (v := .ref C) X I c.ga c.gt (c.sub (by decide +kernel)) hf rfl (fun q => class_get (s := { s with toks := s.toks + 1 }) (ox := ox) (od := od) X I (c.sub (by decide +kernel)) q) h
end
theorem kitx_exc {K : PySem.W.Frag} {x D : Addr} (c : ECls K D) : KitX K (.ref x) (.ref D) (fun h => ∃ ox od, InstAt h x ox D od) where
  ty := fun _ _ _ ⟨_, _, I⟩ => I.type
  it := fun _ _ X _ => by
    obtain ⟨cdD, hcD, _⟩ := c.cls
    unfold clsIn at hcD
    split at hcD
    · rename_i c' d' cd' sl' ho
      intro A' Q' E' s' k q
      unfold isType loadHead
      exact wpAny_bind (wpAny_loadPart (k _ _ (X _ _ ho)) (wpAny_pure q))
    · cases hcD
  ne := fun h tp dd its n sl X htp => by
    obtain ⟨cdD, hcD, _⟩ := c.cls
    refine Bool.eq_false_iff.mpr fun q => ?_
    have e : D = tp := Value.ref.inj (beq_iff_eq.mp q)
    subst e
    unfold clsIn at hcD
    split at hcD
    · rename_i c' d' cd' sl' ho
      have z := (X _ _ ho).symm.trans htp
      cases z
    · cases hcD
  ca := fun X ⟨_, _, I⟩ k => exc_class c X I k
def ExcAt (H : Hp) (a C : Addr) (fs : List (Str × V)) : Prop := (fs = [] ∧ (H a = some (excO a C none) ∨ H a = some (flO a C none))) ∨ ∃ dx, dx ≠ a ∧ (H a = some (excO a C (some dx)) ∨ H a = some (flO a C (some dx))) ∧ H dx = some (xdO dx fs)
inductive TyX (K : PySem.W.Frag) (H : Hp) (x : V) (t : Value) : Prop where
  | of (h : TyOf K H x t)
  | exc {a C : Addr} {fs : List (Str × V)} (ex : x = .ref a) (e : ExcAt H a C fs) (c : ECls K C) (et : t = .ref C)
  | sqT {a : Addr} {xs : List V} (ex : x = .ref a) (e : SqT K H a xs) (et : t = .type "tuple")
  | sqL {a : Addr} {xs : List V} (ex : x = .ref a) (e : SqL K H a xs) (et : t = .type "list")
section
variable {X : Cx} {pins : List (Addr × Obj)} {σ : St} {H : Hp} {s : Shared} {A : Around} {E : Value → Shared → Prop} {a C : Addr} {fs : List (Str × V)}
theorem exc_at {dx : Option Addr} (I : Inv X pins σ H s) (e : H a = some (excO a C dx)) : ∃ vs : Array Value, s.heap.get? a = some (excObj C dx vs) ∧ vs.size = 6 ∧ vs[1]? = some .none := (I.hok a _ e).1
theorem fl_at {dx : Option Addr} (I : Inv X pins σ H s) (e : H a = some (flO a C dx)) : ∃ vs : Array Value, s.heap.get? a = some (excObj C dx vs) ∧ vs.size = 6 := (I.hok a _ e).1
theorem ex_at {dx : Option Addr} (I : Inv X pins σ H s) (e : H a = some (excO a C dx) ∨ H a = some (flO a C dx)) : ∃ vs : Array Value, s.heap.get? a = some (excObj C dx vs) ∧ vs.size = 6 := by
  rcases e with e | e
  · obtain ⟨vs, h1, h2, _⟩ := exc_at I e; exact ⟨vs, h1, h2⟩
  · exact fl_at I e
theorem xd_at {dx : Addr} (I : Inv X pins σ H s) (e : H dx = some (xdO dx fs)) : fs.length ≤ 1000 ∧ ∃ mA, s.heap.Ns1 dx mA ∧ (∀ f, RelO (fs.lookup f) (mA f)) ∧ PySem.Within mA (fs.map (·.1)) := (I.hok dx _ e).1
theorem ExcAt.inst (I : Inv X pins σ H s) (e : ExcAt H a C fs) : ∃ vs dx od, InstAt s.heap a (excObj C dx vs) C od ∧ (∀ o, od = some o → ∀ name, ∃ v, lookIn name o = some v ∧ RelO (fs.lookup name) v) ∧ (od = none → fs = []) := by
  rcases e with ⟨rfl, e⟩ | ⟨dx, ne, e, ed⟩
  · obtain ⟨vs, h1, _⟩ := ex_at I e
    exact ⟨vs, none, none, ⟨h1, rfl, rfl, True.intro⟩, fun o z => (nomatch z), fun _ => rfl⟩
  · obtain ⟨vs, h1, _⟩ := ex_at I e
    obtain ⟨_, mA, hn, hr, _⟩ := xd_at I ed
    obtain ⟨od, ho, hl⟩ := lookIn_ns hn
    refine ⟨vs, some dx, some od, ⟨h1, rfl, rfl, ho⟩, fun o z name => ?_, fun z => nomatch z⟩
    cases z
    exact ⟨_, hl name, hr name⟩
theorem isinst_okX {Q : Value → Shared → Prop} {c : Value} {b : Bool} {x : V} {u t : Value} (I : Inv X pins σ H s) (rx : RelV x u) (ty : TyX X.K H x t) (e : PySem.W.kitOne X.K t c = some b) (h : ∀ tk, Q (.bool b) { s with toks := tk }) :
    wpAny (model X.prog X.w) A (call (.builtin "isinstance") [u, c]) Q E s := by
  cases ty with
  | of ty => exact isinst_ok I rx ty e h
  | @exc a C fs ex ea cl et =>
    subst ex et
    cases (show u = Value.ref a from rx)
    obtain ⟨vs, dx, od, J, _⟩ := ea.inst I
    exact PySem.W.kia_one (kitx_exc cl) I.kIn ⟨_, _, J⟩ e (fun z => nomatch z) h
  | @sqT a xs ex q et =>
    subst ex et
    cases (show u = Value.ref a from rx)
    obtain ⟨_, _, ⟨o, h1, h2, _⟩, _⟩ := I.tuple q
    exact PySem.W.kia_one PySem.W.kitx_tuple I.kIn ⟨o, h1, h2⟩ e (fun z => nomatch z) h
  | @sqL a xs ex q et =>
    subst ex et
    cases (show u = Value.ref a from rx)
    obtain ⟨_, _, ⟨o, _, h1, h2, _⟩, _⟩ := I.list q
    exact PySem.W.kia_one PySem.W.kitx_list I.kIn ⟨o, h1, h2⟩ e (fun z => nomatch z) h
theorem excO_ok {P : Program} {w : World} {H : Hp} {h : Heap} {dx : Option Addr} {vs : Array Value} (h1 : h.get? a = some (excObj C dx vs)) (h2 : vs.size = 6) (h3 : vs[1]? = some .none) : ObjOk P w H h a (excO a C dx) :=
  ⟨⟨vs, h1, h2, h3⟩, ⟨_, h1⟩, fun _ _ ⟨vs', q1, q2⟩ k => ⟨vs', k _ q1, q2⟩⟩
theorem flO_ok {P : Program} {w : World} {H : Hp} {h : Heap} {dx : Option Addr} {vs : Array Value} (h1 : h.get? a = some (excObj C dx vs)) (h2 : vs.size = 6) : ObjOk P w H h a (flO a C dx) :=
  ⟨⟨vs, h1, h2⟩, ⟨_, h1⟩, fun _ _ ⟨vs', q1, q2⟩ k => ⟨vs', k _ q1, q2⟩⟩
variable {CX : CXT} {k : Nat} {f : Addr} {fd : FuncData} {ps : List Str} {sp : Sp} {dvs : List V} {ds us : List Value} {vs : List V} {Q : VK}
theorem run_makeX0 (c : ECls X.K C) (hi : findIn X.K (.ref C) "__init__" = some (some (.builtin "ValueError.__init__"))) (I : Inv X pins σ H s) (r : Vals vs us) (hl : vs.length ≤ 1000) (h : ∀ a, H a = none → Q (.ref a) (upd H a (excO a C none))) :
    wpAny (model X.prog X.w) X.A (call (.ref C) us) (EP X pins σ Q) X.xe s := by
  obtain ⟨nm, q, N, bs, bm, hdct, sn, sub, ab, col, dd, k0, k1, k2, k3, k5, hC, ht, _⟩ := c.obj
  obtain ⟨hh, g, d, t, os⟩ := s
  refine wpAny_call (make_exc0 ht (I.kIn _ _ hC) (looks_findIn I.kIn hi) (fun h' e M ee => ?_) (by rw [← r.length, sizeLine_eq]; omega))
  subst ee
  obtain ⟨kp, _, t0, q1, _, _⟩ := M
  refine ⟨.ref (hh.objs.size + 1), upd H (hh.objs.size + 1) (excO (hh.objs.size + 1) C none), ?_, rfl, h _ (I.hok.fresh (Nat.le_succ _))⟩
  exact I.laid (t' := t) kp (Nat.le_succ _) (excO_ok q1 rfl rfl)
end
end L2
set_option maxRecDepth 100000
set_option maxHeartbeats 4000000
namespace L2
open PySem PySem.Spec PyProof.Rows
def Ite (K : PySem.W.Frag) (l : Addr) : It :=
  ⟨fun i H => ∃ xs x, SqL K H l xs ∧ xs[i]? = some x,
   fun i H v H' => ∃ T x, H T = none ∧ v = .ref T ∧ (∀ xs, SqL K H l xs → xs[i]? = some x) ∧ H' = upd H T (.tup [.int i, x]),
   fun i H => ∃ xs, SqL K H l xs ∧ xs.length ≤ i⟩
theorem turn_enum {P : Program} {w : World} {K : PySem.W.Frag} {elts : List Expr} {kt : Nat} {pt : Pos} {e it l : Addr} (ne : e ≠ it) :
    Turn P w K (.Tuple elts kt pt) (Ite K l) [e, it] e (fun i h => (∃ old, IsEnum h e it (i : Int) old) ∧ h.IsListIter it l i) where
  mem := by simp
  obj := fun i h st b hb => by
    obtain ⟨⟨old, he⟩, ⟨o1, e1, c1, d1⟩⟩ := st
    have hb : b = e ∨ b = it := by simpa using hb
    rcases hb with rfl | rfl
    · exact ⟨_, he, fun v q => nomatch q⟩
    · exact ⟨o1, e1, fun v q => by rw [d1] at q; cases q⟩
  keep := fun i h h' st k => by
    obtain ⟨⟨old, he⟩, h1⟩ := st
    exact ⟨⟨old, k e (by simp) _ he⟩, h1.at fun o q => k it (by simp) o q⟩
  item := by
    intro X hP hw hK hc i pins s σ H E I hf st hg
    subst hP hw hK
    obtain ⟨xs, x, q1, hx⟩ := hg
    obtain ⟨its1, r1, p1, z1⟩ := I.list q1
    obtain ⟨u, hu, ru⟩ := r1.get hx
    obtain ⟨⟨old, he⟩, h1⟩ := st
    refine wpAny_pyNext_enum_item he h1 p1.isList (x := u) (by simpa using hu) ne fun h' a1 a2 a3 a4 hk => ?_
    refine ⟨_, rfl, wpAny_letOwnedTupleGo_enum a1 fun h'' hz' hs' => ?_⟩
    have hT := I.hok.fresh (Nat.le_refl s.heap.objs.size)
    have up' : ∀ b o, b ∉ [e, it] → s.heap.get? b = some o → h''.get? b = some o := fun b o hb q => by
      have b1 : b ≠ e := by rintro rfl; exact hb (by simp)
      have b2 : b ≠ it := by rintro rfl; exact hb (by simp)
      exact hs'.extBut b o b1 (hk b o b1 b2 q)
    have nT : ∀ {b o}, s.heap.get? b = some o → b ≠ s.heap.objs.size := fun q => Nat.ne_of_lt (Heap.lt_size q)
    have Tnew : h''.get? s.heap.objs.size = some { cls := .type "tuple", data := .seq #[.int i s.toks, u] } := hs'.extBut _ _ (Ne.symm (nT he)) a3
    have I1 : Inv X pins σ (upd H s.heap.objs.size (.tup [.int i, x])) { s with heap := h'', toks := s.toks + 1 } :=
      I.turnedN (t' := s.toks + 1) (ch := [e, it]) (fun b hb => hf b hb) up' (Nat.le_refl _) ⟨by show 2 ≤ sizeLine; decide, [.int i s.toks, u], .cons ⟨_, rfl⟩ (.cons ru .nil), ⟨_, Tnew, rfl, _, rfl⟩⟩
    refine ⟨.ref s.heap.objs.size, _, I1, rfl, ⟨s.heap.objs.size, x, hT, rfl, fun xs' h' => by rw [I.list_inj h' q1]; exact hx, rfl⟩, ⟨⟨_, hz'⟩, a2.at fun o q => hs'.extBut _ o (Ne.symm ne) q⟩, fun b hb => ?_⟩
    have q := (hf b hb).1
    rw [upd_ne ?_]
    · exact q
    · have hb : b = e ∨ b = it := by simpa using hb
      rcases hb with rfl | rfl
      · exact nT he
      · obtain ⟨_, q, _⟩ := h1; exact nT q
  done := by
    intro X hP hw hK hc i pins s σ H E I hf st hg
    subst hP hw hK
    obtain ⟨xs, q1, hx⟩ := hg
    obtain ⟨its1, r1, p1, z1⟩ := I.list q1
    have e1 := r1.length
    obtain ⟨⟨old, he⟩, h1⟩ := st
    refine wpAny_pyNext_enum_end (I.ok.hd hc) he h1 p1.isList (by simp; omega) fun h' hk => ⟨rfl, ?_⟩
    refine I.turnedL (t' := s.toks) (ch := [e, it]) (fun b hb => hf b hb) fun b o hb q => ?_
    have b2 : b ≠ it := by rintro rfl; exact hb (by simp)
    exact hk b o b2 q
  self := fun A i s Q E st h => let ⟨_, he⟩ := st.1; wpAny_pyIter_enum he h
end L2
set_option maxRecDepth 100000
set_option maxHeartbeats 4000000
namespace L2
open PySem PySem.Spec PyProof.Rows
section
variable {X : Cx} {pins : List (Addr × Obj)} {σ σ0 : St} {H H0 : Hp} {s s0 : Shared} {p : Addr} {kvs : List (Key × V)} {o : Obj}
def EpOf (o : Obj) (ep : Nat) : Prop := ∃ es, o.data = .dict es ep
theorem Inv.froze (I : Inv X pins σ H s) (h : H p = some (.dK kvs)) : ∃ ob ep, s.heap.get? p = some ob ∧ EpOf ob ep ∧ Inv X pins σ (upd H p (.frz ob (.dK kvs))) s := by
  have K := I.hok p _ h
  obtain ⟨z, y, vs, r, ob, es, ep, e, c, d, q⟩ := id K
  refine ⟨ob, ep, e, ⟨es, d⟩, ?_⟩
  exact I.write (x := p) (e := p) (t' := s.toks) (h' := s.heap) (by rw [h]; trivial) (.inl rfl) (fun b u _ q => q) ⟨ob, e⟩ ⟨e, K⟩
theorem Inv.thaw (I0 : Inv X pins σ0 H0 s0) (h0 : H0 p = some (.dK kvs)) (I : Inv X pins σ H s) (h : H p = some (.frz o (.dK kvs))) : Inv X pins σ (upd H p (.dK kvs)) s := by
  have ne : ∀ b, H b = none → b ≠ p := fun b e z => by rw [z, h] at e; cases e
  have ntup : ∀ b xs, H b = some (.tup xs) → b ≠ p := fun b xs e z => by rw [z, h] at e; cases e
  have nown : ∀ b c, H b = some (.own c) → b ≠ p := fun b c e z => by rw [z, h] at e; cases e
  refine ⟨I.ok, I.os, I.bare, ⟨I.base.keep, I.base.slot, fun b ob e n hx => ?_, I.base.there, fun b xs e => ?_, fun b ob u e => ?_, fun b ps e => ?_⟩, I.loc, I.cell, ?_, fun x c e => ?_, fun q hq => ?_, fun b u e => ?_, I.len⟩
  · have q := I.base.free b ob e n hx
    rw [upd_ne (ne b q)]; exact q
  · have q := I.base.tups b xs e
    rw [upd_ne (ntup b xs q)]; exact q
  · have q := I.base.frzs b ob u e
    have n : b ≠ p := fun z => by
      have q0 := I0.base.frzs b ob u e
      rw [z, h0] at q0; cases q0
    rw [upd_ne n]; exact q
  · obtain ⟨more, q⟩ := I.base.tbls b ps e
    have n : b ≠ p := fun z => by rw [z, h] at q; cases q
    exact ⟨more, by rw [upd_ne n]; exact q⟩
  · rw [upd_ne (ne _ I.free)]; exact I.free
  · have q := I.freeC x c e
    rw [upd_ne (ne _ q)]; exact q
  · obtain ⟨a, b, c⟩ := I.pin q hq
    exact ⟨a, by rw [upd_ne (ne _ b)]; exact b, c⟩
  · by_cases z : b = p
    · subst z
      rw [upd_same] at e
      cases e
      exact (I.hok b _ h).2
    · rw [upd_ne z] at e
      exact (I.hok b u e).stay (fun _ _ _ q => q) (fun c q => by rw [upd_ne (nown c b q)]; exact q) fun c xs q => by rw [upd_ne (ntup c xs q)]; exact q
theorem Thaw.inv {P : Hp → Prop} (I0 : Inv X pins σ0 H0 s0) (I : Inv X pins σ H s) (t : Thaw H0 H P) : ∃ H', Inv X pins σ H' s ∧ P H' := by
  rcases t with t | ⟨p, o, kvs, h0, h, t⟩
  · exact ⟨H, I, t⟩
  · exact ⟨_, I0.thaw h0 I h, t⟩
theorem Inv.kdict (I : Inv X pins σ H s) (h : H p = some (.frz o (.dK kvs))) {ep : Nat} (he : EpOf o ep) : ∃ vs, KV kvs vs ∧ s.heap.DictAt (mixKind X.prog X.w) p vs ep ∧ (p == sysModules) = false := by
  obtain ⟨e1, z, y, vs, r, ob, es, ep', e, c, d, q⟩ := I.hok p _ h
  obtain ⟨es', d'⟩ := he
  rw [e1] at e
  cases e
  have d2 := d
  rw [d'] at d2
  cases d2
  exact ⟨vs, r, ⟨o, _, e1, c, d, q⟩, y⟩
end
def Itd (p : Addr) (o : Obj) (kvs : List (Key × V)) : It :=
  ⟨fun i H => H p = some (.frz o (.dK kvs)) ∧ i < kvs.length, fun i H x H' => H' = H ∧ ∃ k v, kvs[i]? = some (k, v) ∧ x = kV k, fun i H => H p = some (.frz o (.dK kvs)) ∧ kvs.length ≤ i⟩
theorem kv_at : ∀ {kvs : List (Key × V)} {vs : List (Key × Value)} {i : Nat} {k : Key} {v : V}, KV kvs vs → kvs[i]? = some (k, v) → ∃ u, vs[i]? = some (k, u) ∧ RelV v u
  | _, _, 0, k, v, .cons (b := q) r _, e => by
    simp only [List.getElem?_cons_zero, Option.some.injEq] at e
    subst e
    exact ⟨q.2, congrArg some (Prod.ext r.1.symm rfl), r.2⟩
  | _, _, i + 1, k, v, .cons r t, e => by
    simp only [List.getElem?_cons_succ] at e ⊢
    exact kv_at t e
theorem is_kV {P : Program} {w : World} {k : Key} {u : Value} (h : (mixKind P w).is k u = true) : RelV (kV k) u := by
  cases k with
  | inl i => obtain ⟨t, rfl⟩ := Value.isInt_shape (show Value.isInt i u = true from h); exact ⟨t, rfl⟩
  | inr z => obtain ⟨t, rfl⟩ := Value.isStrOf_shape (show Value.isStrOf z u = true from h); exact ⟨t, rfl⟩
theorem turn_dict {P : Program} {w : World} {K : PySem.W.Frag} {tg : Expr} (p it : Addr) (o : Obj) (kvs : List (Key × V)) {ep : Nat} (he : EpOf o ep) : Turn P w K tg (Itd p o kvs) [it] it (fun i h => h.IsKeyIter it p i kvs.length ep) where
  mem := by simp
  obj := fun i h st b hb => by
    have e : b = it := by simpa using hb
    subst e
    obtain ⟨o, e, c, d⟩ := st
    exact ⟨o, e, fun v z => by rw [d] at z; cases z⟩
  keep := fun i h h' st k => st.at fun o e => k it (by simp) o e
  item := by
    intro X hP hw hK hc i pins s σ H E I hf st hg
    subst hP hw hK
    obtain ⟨hH, hi⟩ := hg
    obtain ⟨vs, rel, hd, hm⟩ := I.kdict hH he
    obtain ⟨f0, f1, f2, f3, f4, f5⟩ := hf it (by simp)
    obtain ⟨⟨k, v⟩, hx⟩ : ∃ q, kvs[i]? = some q := ⟨kvs[i], by simp [hi]⟩
    obtain ⟨u, hu, _⟩ := kv_at rel hx
    have hl : kvs.length = vs.length := rel.length
    rw [hl] at st
    refine wpAny_pyNext_dict_item st hd hu fun key h' hk st' sb => ?_
    have I1 : Inv X pins σ H { s with heap := h' } := I.turned (t' := s.toks) (fun b o hb e => sb.extBut b o hb e) f0 f1 f3 f4 f5
    obtain ⟨o1, e, c, d⟩ := id st'
    exact ⟨key, rfl, go_of (s := { s with heap := h' }) e c d (by decide) ⟨kV k, H, I1, is_kV hk, ⟨rfl, k, v, hx, rfl⟩, by rw [hl]; exact st', fun b hb => (hf b hb).1⟩⟩
  done := by
    intro X hP hw hK hc i pins s σ H E I hf st hg
    subst hP hw hK
    obtain ⟨hH, hi⟩ := hg
    obtain ⟨vs, rel, hd, hm⟩ := I.kdict hH he
    obtain ⟨f0, f1, f2, f3, f4, f5⟩ := hf it (by simp)
    have hl : kvs.length = vs.length := rel.length
    rw [hl] at st
    exact wpAny_pyNext_dict_end (I.ok.hd hc) st hd (by simp; omega) fun h' eb => ⟨rfl, I.turned (t' := s.toks) (fun b o hb e => eb b o hb e) f0 f1 f3 f4 f5⟩
  self := fun _ _ _ _ _ st h => wpAny_pyIter_keyiter st h
theorem dict_it {X : Cx} {tg : Expr} {pins : List (Addr × Obj)} {σ : St} {H : Hp} {s : Shared} {R : It → Hp → Prop} {E : Value → Shared → Prop} {p : Addr} {o : Obj} {kvs : List (Key × V)} (I : Inv X pins σ H s) (h : H p = some (.frz o (.dK kvs)))
    (q : R (Itd p o kvs) H) : wpAny (model X.prog X.w) X.A (pyIter (.ref p)) (PIE X pins σ tg R) E s := by
  have he : ∃ ep, EpOf o ep := by
    obtain ⟨e1, z, y, vs, r, ob, es, ep, e, c, d, _⟩ := I.hok p _ h
    rw [e1] at e; cases e
    exact ⟨ep, es, d⟩
  obtain ⟨ep, he⟩ := he
  obtain ⟨vs, rel, hd, hm⟩ := I.kdict h he
  refine wpAny_pyIter_dict hm hd ?_
  refine ⟨s.heap.objs.size, [s.heap.objs.size], _, _, H, rfl, I.kept (t' := s.toks) fun b o e => Heap.get?_push_of_some _ e, turn_dict p _ o kvs he, ⟨_, Heap.get?_push_size _ rfl, rfl, by rw [rel.length]; rfl⟩, fun b hb => ?_, q⟩
  have e : b = s.heap.objs.size := by simpa using hb
  subst e
  exact I.fpOk (Nat.le_refl _) (I.hok.fresh (Nat.le_refl _))
end L2
set_option maxRecDepth 100000
set_option maxHeartbeats 4000000
namespace PySem
theorem Sem.wp_never {α : Type} (M : Model) (Γ : Ctx) : ∀ (t : Sem α) (p : Pos) (s : Shared), Sem.wp M Γ t (fun _ _ _ => False) (fun _ _ _ => False) p s → False := by
  intro t
  induction t with
  | pure a => intro p s h; exact h
  | raise e => intro p s h; exact h
  | unsupported w => intro p s h; exact h
  | finish e => intro p s h; exact h
  | rule tag k ih => intro p s h; exact ih () p s h
  | «at» q k ih => intro p s h; exact ih () q s h
  | load a part k ih => intro p s h; obtain ⟨o, _, h⟩ := h; exact ih o p s h
  | update a part f k ih => intro p s h; exact ih () p _ h.2
  | alloc o k ih => intro p s h; exact ih _ p _ h
  | loadIfAlive a k ih => intro p s h; exact ih _ p s h
  | point l k ih => intro p s h; exact ih () p s h
  | register a k ih => intro p s h; exact h
  | fresh k ih => intro p s h; exact ih _ p _ h
  | ask k ih => intro p s h; exact ih _ p s h
  | choose src n k ih => intro p s h; exact ih _ p _ h.2
  | os q l k ih => intro p s h; exact ih _ p _ h
  | call c hd g l k ih => intro p s h; obtain ⟨r, s', _, h⟩ := h; exact ih r p s' h
  | handled own k ih => intro p s h; exact ih _ p s h
  | newGen c k ih => intro p s h; exact ih _ p _ h
  | genState g k ih => intro p s h; obtain ⟨st, _, h⟩ := h; exact ih _ p s h
  | resume g r l k ih => intro p s h; obtain ⟨res, s', _, h⟩ := h; exact ih res p s' h
  | yield v g l k ih => intro p s h; exact h
  | stack k ih => intro p s h; exact ih _ p s h
  | fork c k ih => intro p s h; exact h
  | thread k ih => intro p s h; first | exact ih _ p s h | exact h
  | await a tk d l k ih => intro p s h; first | exact h | exact ih _ p s h
section
variable {prog : Program} {w : World} {A : Around} {E : Value → Shared → Prop} {s : Shared}
theorem nextOf_by {v : Value} {P : Value → Shared → Prop} (h : wpAny (model prog w) A (pyNext v) (fun r s' => ∃ u, r = some u ∧ P u s') (fun _ _ => False) s) : wpAny (model prog w) A (Builtin.SmallTypes.nextOf v) P E s := by
  intro Γ p hΓ
  have h := h Γ p hΓ
  unfold pyNext Sem.attempt at h
  unfold Builtin.SmallTypes.nextOf
  rw [Sem.wp_bind', Sem.wp_tryCatch, Sem.wp_bind] at h
  rw [Sem.wp_bind']
  refine Sem.wp_mono _ _ _ (fun o p' s' q => ?_) (fun e p' s' q => ?_) p s h
  · cases o with
    | none => exact (show False from q).elim
    | some u =>
      obtain ⟨u', e, q⟩ := q
      cases e
      exact q
  · refine (Sem.wp_never (model prog w) Γ (isInstance e (.type "StopIteration")) p' s' ?_).elim
    have q : Sem.wp (model prog w) Γ (isInstance e (.type "StopIteration") >>= fun b => if b = true then pure none else throw e) (fun r _ s' => ∃ u, r = some u ∧ P u s') (fun _ _ _ => False) p' s' := q
    rw [Sem.wp_bind'] at q
    refine Sem.wp_mono _ _ _ (fun b p2 s2 q => ?_) (fun _ _ _ z => z) p' s' q
    cases b with
    | true => obtain ⟨u, z, _⟩ := q; cases z
    | false => exact q
variable {κ : Type} [DecidableEq κ] {knd : KeyKind prog w κ} {d it : Addr} {ep i : Nat} {kvs : List (κ × Value)}
theorem nextOf_dict_end {Q : Value → Shared → Prop} (hh : A.handled = none) (hit : s.heap.IsKeyIter it d i kvs.length ep) (hm : s.heap.DictAt knd d kvs ep) (hx : kvs[i]? = none)
    (hE : ∀ h' x, Heap.ExtBut it s.heap h' → (∃ o, h'.get? x = some o ∧ o.cls = .type "StopIteration") → E (.ref x) { s with heap := h' }) : wpAny (model prog w) A (Builtin.SmallTypes.nextOf (.ref it)) Q E s := by
  have ⟨oi, ei, ci, di⟩ := hit
  have ⟨od, es, ed, _, dd, _, pr, _⟩ := hm
  have size : es.size = kvs.length := pr.length ▸ (by simp)
  have past : es.size ≤ i := by rw [size]; simpa using hx
  have own : Builtin.Dict_items.ownsTuple "dict_keyiterator" = false := by decide
  have nx : ¬ ((i : Int) < 0) := by omega
  have noNone : ¬ ((Value.ref d == Value.none) = true) := Bool.false_ne_true
  unfold Builtin.SmallTypes.nextOf
  refine wpAny_bind (wpAny_callSpecial?_slot (name := Str.ofString "__next__") hit.typeIs F.slot_dict_keyiterator_next (wpAny_call_entry F.slot_dict_keyiterator_next hit.typeIs F.entry_dict_keyiterator_next ?_ (F.args_dict_keyiterator_next_1 _)))
  refine wpAny_bind (wpAny_pure (wpAny_bind (wpAny_bind ?_)))
  first | refine wpAny_bind (wpAny_typeNameOfWhole_keyiter hit.typeIs (wpAny_pure (wpAny_bind (wpAny_fieldsOf ei di ?_)))) | refine wpAny_bind (wpAny_typeNameOf_keyiter hit.typeIs (wpAny_pure (wpAny_bind (wpAny_fieldsOf ei di ?_))))
  simp only [own, Bool.false_eq_true, if_false]
  show wpAny _ _ (if (Value.ref d == Value.none) = true then _ else _) _ _ s
  rw [if_neg noNone]
  refine wpAny_bind (wpAny_pure (wpAny_bind (wpAny_dictEntries ed dd ?_)))
  rw [if_neg (show ¬ _ by rw [size]; simp)]
  refine wpAny_bind (wpAny_pure (wpAny_bind (wpAny_dictEpoch ed dd ?_)))
  rw [if_neg (show ¬ _ by simp)]
  refine wpAny_pure ?_
  simp only [nx, if_false, Int.toNat_natCast, Array.getElem?_eq_none past]
  refine wpAny_bind ?_
  first | refine wpAny_bind (wpAny_typeNameOfWhole_keyiter hit.typeIs (wpAny_pure ?_)) | refine wpAny_bind (wpAny_typeNameOf_keyiter hit.typeIs (wpAny_pure ?_))
  show wpAny _ _ (setField (.ref it) 0 .none >>= fun _ => newExc (.type "StopIteration") [] >>= _) _ _ s
  refine wpAny_bind (wpAny_setField ei di (by simp) (wpAny_bind ?_))
  simp only [newExc, newTuple]
  refine wpAny_bind (wpAny_newObj_type (wpAny_bind (m := firstArgMember _ _) (wpAny_of_eq (a := Value.none) (by first | rfl | (simp only [firstArgMember]; rfl)) (wpAny_newObj_type ?_ (by size_fits)))) (by size_fits))
  simp only [raiseNew]
  refine wpAny_bind (wpAny_handled ?_)
  rw [show A.in1.handled = none from hh]
  refine wpAny_bind (wpAny_pure (wpAny_throw ?_))
  exact hE _ _ (((Heap.SameBut.update ..).extBut.push _).push _) ⟨_, Heap.get?_push_size _ rfl, rfl⟩
theorem nextOf_dict_item {k : κ} {v : Value} {Q : Value → Shared → Prop} (hit : s.heap.IsKeyIter it d i kvs.length ep) (hm : s.heap.DictAt knd d kvs ep) (hx : kvs[i]? = some (k, v))
    (hQ : ∀ key h', knd.is k key = true → h'.IsKeyIter it d (i + 1) kvs.length ep → Heap.SameBut it s.heap h' → Q key { s with heap := h' }) : wpAny (model prog w) A (Builtin.SmallTypes.nextOf (.ref it)) Q E s :=
  nextOf_by (wpAny_pyNext_dict_item hit hm hx fun key h' a b c => ⟨key, rfl, hQ key h' a b c⟩)
theorem enum_turn {e : Addr} {old : Value} {J : Value → Heap → Prop} {Q : Value → Shared → Prop} (he : IsEnum s.heap e it i old) (hne : e ≠ it)
    (nx : ∀ (A : Around) (P : Value → Shared → Prop) (E : Value → Shared → Prop), (∀ x h1, J x h1 → Heap.SameBut it s.heap h1 → P x { s with heap := h1 }) → wpAny (model prog w) A (Builtin.SmallTypes.nextOf (.ref it)) P E s)
    (hJ : ∀ x h1 h2, J x h1 → (∀ o, h1.get? it = some o → h2.get? it = some o) → J x h2)
    (hQ : ∀ x h', IsEnumOut h' e it ((i : Int) + 1) x s.heap.objs.size → J x h' → h'.get? s.heap.objs.size = some { cls := .type "tuple", data := .seq #[.int i s.toks, x] } →
      (∀ b o, b ≠ e → b ≠ it → s.heap.get? b = some o → h'.get? b = some o) → Q (.ref s.heap.objs.size) { s with heap := h', toks := s.toks + 1 }) :
    wpAny (model prog w) A (Builtin.«enumerate.__next__» ⟨[.ref e], []⟩) (fun fin s' => ∃ v, fin = .done (.ret v) ∧ Q v s') E s := by
  have lt : e < s.heap.objs.size := Heap.lt_size he
  obtain ⟨h0, gs, dr, tk, ops⟩ := s
  show wpAny _ _ (field (.ref e) 2 >>= fun z => Builtin.SmallTypes.nextOf z >>= _) _ _ _
  refine wpAny_bind (wpAny_field he rfl (x := .ref it) rfl (wpAny_bind (nx _ _ _ fun x h1 j1 s1 => ?_)))
  have k1 : Heap.SameBut it h0 h1 := s1
  have e1 : IsEnum h1 e it i old := (k1.2 e hne).trans he
  refine wpAny_bind (wpAny_field (s := ⟨h1, gs, dr, tk, ops⟩) e1 rfl (x := rawInt i) rfl ?_)
  refine wpAny_bind (m := field (.ref e) 4) (wpAny_field (s := ⟨h1, gs, dr, tk, ops⟩) e1 rfl (x := .none) rfl ?_)
  show wpAny _ _ (mkInt i >>= _) _ _ ⟨h1, gs, dr, tk, ops⟩
  refine wpAny_bind (wpAny_mkInt ?_)
  show wpAny _ _ (setField (.ref e) 3 (rawInt ((i : Int) + 1)) >>= fun _ => setField (.ref e) 4 .none >>= _) _ _ ⟨h1, gs, dr, tk + 1, ops⟩
  refine wpAny_bind (wpAny_setField_rec e1 (by simp) fun h2 e2 s2 => wpAny_bind (wpAny_setField_rec (s := ⟨h2, gs, dr, tk + 1, ops⟩) (show IsEnum h2 e it ((i : Int) + 1) old from e2) (by simp) fun h3 e3 s3 => ?_))
  have k2 : Heap.SameBut e h1 h2 := s2
  have k3 : Heap.SameBut e h2 h3 := s3
  have e3 : IsEnum h3 e it ((i : Int) + 1) old := e3
  show wpAny _ _ (newTuple [.int i tk, x] >>= _) _ _ ⟨h3, gs, dr, tk + 1, ops⟩
  refine wpAny_bind (wpAny_newTuple ?_)
  have size : h3.objs.size = h0.objs.size := by rw [k3.1, k2.1, k1.1]
  have up : ∃ h4 : Heap, h4 = h3.push { cls := .type "tuple", data := .seq #[.int i tk, x] } := ⟨_, rfl⟩
  obtain ⟨h4, eh4⟩ := up
  rw [← eh4]
  have e4 : IsEnum h4 e it ((i : Int) + 1) old := by rw [eh4]; exact Heap.get?_push_of_some _ e3
  have t4 : h4.get? h0.objs.size = some { cls := .type "tuple", data := .seq #[.int i tk, x] } := by rw [eh4, ← size]; exact Heap.get?_push_size _ rfl
  have j4 : J x h4 := hJ x h1 h4 j1 fun o q => by rw [eh4]; exact Heap.get?_push_of_some _ (k3.extBut it o (Ne.symm hne) (k2.extBut it o (Ne.symm hne) q))
  have all4 : ∀ b o, b ≠ e → b ≠ it → h0.get? b = some o → h4.get? b = some o := fun b o b1 b2 q => by
    rw [eh4]
    exact Heap.get?_push_of_some _ (k3.extBut b o b1 (k2.extBut b o b1 (k1.extBut b o b2 q)))
  show wpAny _ _ (Builtin.SmallTypes.ownedTupleIsFree (.ref e) >>= _) _ _ ⟨h4, gs, dr, tk + 1, ops⟩
  rw [size]
  refine wpAny_bind ?_
  unfold Builtin.SmallTypes.ownedTupleIsFree
  refine wpAny_bind (wpAny_field e4 rfl (x := .none) rfl (wpAny_pure ?_))
  simp only [if_true]
  refine wpAny_bind (wpAny_rule (wpAny_bind (wpAny_field e4 rfl (x := old) rfl (wpAny_bind (wpAny_setField_rec e4 (by simp) fun h5 e5 s5 => ?_)))))
  have e5 : IsEnum h5 e it ((i : Int) + 1) x := e5
  have k5 : Heap.SameBut e h4 h5 := s5
  show wpAny _ _ (Builtin.SmallTypes.ownedTupleHandOut (.ref e) (.ref h0.objs.size) >>= _) _ _ ⟨h5, gs, dr, tk + 1, ops⟩
  refine wpAny_bind ?_
  unfold Builtin.SmallTypes.ownedTupleHandOut
  refine wpAny_bind (wpAny_setField_rec e5 (by simp) fun h6 e6 s6 => wpAny_setField_rec (s := ⟨h6, gs, dr, tk + 1, ops⟩) (show IsEnumOut h6 e it ((i : Int) + 1) x h0.objs.size from e6) (by simp) fun h7 e7 s7 => ?_)
  have k6 : Heap.SameBut e h5 h6 := s6
  have k7 : Heap.SameBut e h6 h7 := s7
  have on : ∀ b o, b ≠ e → h4.get? b = some o → h7.get? b = some o := fun b o n q => k7.extBut b o n (k6.extBut b o n (k5.extBut b o n q))
  exact wpAny_bind (wpAny_letGo (wpAny_pure ⟨_, rfl, hQ x h7 e7 (hJ x h4 h7 j4 fun o q => on it o (Ne.symm hne) q) (on _ _ (Nat.ne_of_gt lt) t4) fun b o b1 b2 q => on b o b1 (all4 b o b1 b2 q)⟩))
theorem pyNext_enum_by {e : Addr} {old : Value} {J : Value → Heap → Prop} {Q : Option Value → Shared → Prop} (he : IsEnum s.heap e it i old) (hne : e ≠ it)
    (nx : ∀ (A : Around) (P : Value → Shared → Prop) (E : Value → Shared → Prop), (∀ x h1, J x h1 → Heap.SameBut it s.heap h1 → P x { s with heap := h1 }) → wpAny (model prog w) A (Builtin.SmallTypes.nextOf (.ref it)) P E s)
    (hJ : ∀ x h1 h2, J x h1 → (∀ o, h1.get? it = some o → h2.get? it = some o) → J x h2)
    (hQ : ∀ x h', IsEnumOut h' e it ((i : Int) + 1) x s.heap.objs.size → J x h' → h'.get? s.heap.objs.size = some { cls := .type "tuple", data := .seq #[.int i s.toks, x] } →
      (∀ b o, b ≠ e → b ≠ it → s.heap.get? b = some o → h'.get? b = some o) → Q (some (.ref s.heap.objs.size)) { s with heap := h', toks := s.toks + 1 }) : wpAny (model prog w) A (pyNext (.ref e)) Q E s := by
  have ty : s.TypeIs (.ref e) "enumerate" := ⟨_, he, rfl⟩
  unfold pyNext
  exact wpAny_bind (wpAny_attempt (wpAny_callSpecial?_slot (name := Str.ofString "__next__") ty F.slot_enumerate_next (wpAny_call_entry F.slot_enumerate_next ty F.entry_enumerate_next (enum_turn he hne nx hJ fun x h' a b c d => wpAny_pure (hQ x h' a b c d)) (F.args_enumerate_next_1 _))))
theorem pyNext_enumD_end {e : Addr} {old : Value} {Q : Option Value → Shared → Prop} (hh : A.handled = none) (he : IsEnum s.heap e it i old) (hit : s.heap.IsKeyIter it d i kvs.length ep) (hm : s.heap.DictAt knd d kvs ep) (hx : kvs[i]? = none)
    (hQ : ∀ h', Heap.ExtBut it s.heap h' → Q none { s with heap := h' }) : wpAny (model prog w) A (pyNext (.ref e)) Q E s := by
  have ty : s.TypeIs (.ref e) "enumerate" := ⟨_, he, rfl⟩
  unfold pyNext
  refine wpAny_bind (wpAny_attempt (wpAny_callSpecial?_slot (name := Str.ofString "__next__") ty F.slot_enumerate_next (wpAny_call_entry F.slot_enumerate_next ty F.entry_enumerate_next ?_ (F.args_enumerate_next_1 _))))
  show wpAny _ _ (field (.ref e) 2 >>= fun z => Builtin.SmallTypes.nextOf z >>= _) _ _ _
  refine wpAny_bind (wpAny_field he rfl (x := .ref it) rfl (wpAny_bind (nextOf_dict_end hh hit hm hx fun h' x hk ⟨o, ho, hc⟩ => ?_)))
  exact wpAny_bind (wpAny_isInstance (T := "StopIteration") (b := true) ⟨o, ho, hc⟩ isSubtype_stop (wpAny_pure (hQ _ hk)))
theorem call_enumD {Q : Value → Shared → Prop} (hd : (d == sysModules) = false) (hm : s.heap.DictAt knd d kvs ep)
    (h : ∀ h', IsEnum h' (s.heap.objs.size + 1) s.heap.objs.size 0 .none → h'.IsKeyIter s.heap.objs.size d 0 kvs.length ep → (∀ b o, s.heap.get? b = some o → h'.get? b = some o) → Q (.ref (s.heap.objs.size + 1)) { s with heap := h' }) :
    wpAny (model prog w) A (call (.type "enumerate") [.ref d]) Q E s := by
  have g : MeetsIn prog w (Builtin.«enumerate.__new__» ⟨[.type "enumerate", .ref d], []⟩) (fun _ R s => s.heap.DictAt knd d kvs ep ∧
      R (.ok (.ret (.ref (s.heap.objs.size + 1)))) { s with heap := (s.heap.push { cls := .type "dict_keyiterator", data := .fields #[.ref d, .int 0 0, .int kvs.length 0, .int ep 0] }).push { cls := .type "enumerate", data := .fields #[.none, .bool false, .ref s.heap.objs.size, rawInt 0, .none, .none] } }) := by
    refine .of_wp fun A R s h => ?_
    obtain ⟨hp, g, d', tk, os⟩ := s
    obtain ⟨hm, h⟩ := h
    have hsub := sub_enumerate
    obtain ⟨o, es, ho, hcl, hdat, q⟩ := id hm
    have hz : (hp.push { cls := .type "dict_keyiterator", data := .fields #[.ref d, .int 0 0, .int kvs.length 0, .int ep 0] }).objs.size = hp.objs.size + 1 := Heap.size_push ..
    wp_walk using wpAny_pyIter_dict hd hm
    refine wpAny_stack_any fun st => wpAny_pure ?_
    have h2 : R (.ok (.ret (.ref (hp.push { cls := .type "dict_keyiterator", data := .fields #[.ref d, .int 0 0, .int kvs.length 0, .int ep 0] }).objs.size))) ⟨(hp.push { cls := .type "dict_keyiterator", data := .fields #[.ref d, .int 0 0, .int kvs.length 0, .int ep 0] }).push { cls := .type "enumerate", data := .fields #[.none, .bool false, .ref hp.objs.size, rawInt 0, .none, .none] }, g, d', tk, os⟩ := by rw [hz]; exact h
    split
    · rename_i c _ _ _ _ _
      cases (c == Value.type "enumerate")
      · wp_walk using wpAny_pyIter_dict hd hm
        exact ⟨_, rfl, h2⟩
      · wp_walk using wpAny_pyIter_dict hd hm
        exact ⟨_, rfl, h2⟩
    · wp_walk using wpAny_pyIter_dict hd hm
      exact ⟨_, rfl, h2⟩
  refine callType_newIn F.called_enumerate (by decide) (F.typeCall_enumerate_1 _) (F.newCall_enumerate_1 _) (fun obj => F.args_object_init_2 obj _) F.entry_enumerate_new g ⟨hm, ?_⟩
  have hz : (s.heap.push { cls := .type "dict_keyiterator", data := .fields #[.ref d, .int 0 0, .int kvs.length 0, .int ep 0] }).objs.size = s.heap.objs.size + 1 := Heap.size_push ..
  have he : IsEnum ((s.heap.push { cls := .type "dict_keyiterator", data := .fields #[.ref d, .int 0 0, .int kvs.length 0, .int ep 0] }).push { cls := .type "enumerate", data := .fields #[.none, .bool false, .ref s.heap.objs.size, rawInt 0, .none, .none] }) (s.heap.objs.size + 1) s.heap.objs.size 0 .none := hz ▸ Heap.get?_push_size _ rfl
  exact ⟨⟨_, he, rfl⟩, h _ he ⟨_, Heap.get?_push_of_some _ (Heap.get?_push_size _ rfl), rfl, rfl⟩ fun b o x => Heap.get?_push_of_some _ (Heap.get?_push_of_some _ x)⟩
end
end PySem
set_option maxRecDepth 100000
set_option maxHeartbeats 4000000
namespace L2
open PySem PySem.Spec PyProof.Rows
def Itde (p : Addr) (o : Obj) (kvs : List (Key × V)) : It :=
  ⟨fun i H => H p = some (.frz o (.dK kvs)) ∧ i < kvs.length,
   fun i H x H' => ∃ T k v, H T = none ∧ x = .ref T ∧ kvs[i]? = some (k, v) ∧ H' = upd H T (.tup [.int i, kV k]),
   fun i H => H p = some (.frz o (.dK kvs)) ∧ kvs.length ≤ i⟩
theorem turn_enumD {P : Program} {w : World} {K : PySem.W.Frag} {elts : List Expr} {kt : Nat} {pt : Pos} {e it p : Addr} {o : Obj} {kvs : List (Key × V)} {ep : Nat} (ne : e ≠ it) (he : EpOf o ep) :
    Turn P w K (.Tuple elts kt pt) (Itde p o kvs) [e, it] e (fun i h => (∃ old, IsEnum h e it (i : Int) old) ∧ h.IsKeyIter it p i kvs.length ep) where
  mem := by simp
  obj := fun i h st b hb => by
    obtain ⟨⟨old, he⟩, ⟨o1, e1, c1, d1⟩⟩ := st
    rcases List.mem_cons.mp hb with rfl | hb
    · exact ⟨_, he, fun v q => nomatch q⟩
    · rw [List.mem_singleton.mp hb]; exact ⟨o1, e1, fun v q => by rw [d1] at q; cases q⟩
  keep := fun i h h' st k => let ⟨⟨old, he⟩, h1⟩ := st; ⟨⟨old, k e (by simp) _ he⟩, h1.at fun o q => k it (by simp) o q⟩
  item := by
    intro X hP hw hK hc i pins s σ H E I hf st hg
    subst hP hw hK
    obtain ⟨hH, hi⟩ := hg
    obtain ⟨vs, rel, hd, hm⟩ := I.kdict hH he
    obtain ⟨⟨k, v⟩, hx⟩ : ∃ q, kvs[i]? = some q := ⟨kvs[i], by simp [hi]⟩
    obtain ⟨u, hu, _⟩ := kv_at rel hx
    have hl : kvs.length = vs.length := rel.length
    obtain ⟨⟨old, en⟩, h1⟩ := st
    rw [hl] at h1
    refine pyNext_enum_by en ne (J := fun x h => (mixKind X.prog X.w).is k x = true ∧ h.IsKeyIter it p (i + 1) vs.length ep) (fun A P E hQ => nextOf_dict_item h1 hd hu fun key h' a b c => hQ key h' ⟨a, b⟩ c) (fun x h1 h2 j k => ⟨j.1, j.2.at k⟩) fun key h' a1 ⟨hk, a2⟩ a3 hk' => ?_
    refine ⟨_, rfl, wpAny_letOwnedTupleGo_enum a1 fun h'' hz' hs' => ?_⟩
    have hT := I.hok.fresh (Nat.le_refl s.heap.objs.size)
    have nT : ∀ {b ob}, s.heap.get? b = some ob → b ≠ s.heap.objs.size := fun q => Nat.ne_of_lt (Heap.lt_size q)
    have up : ∀ b ob, b ∉ [e, it] → s.heap.get? b = some ob → h''.get? b = some ob := fun b ob hb q => by
      have b1 : b ≠ e := by rintro rfl; exact hb (by simp)
      have b2 : b ≠ it := by rintro rfl; exact hb (by simp)
      exact hs'.extBut b ob b1 (hk' b ob b1 b2 q)
    have Tnew : h''.get? s.heap.objs.size = some { cls := .type "tuple", data := .seq #[.int i s.toks, key] } := hs'.extBut _ _ (Ne.symm (nT en)) a3
    have I1 : Inv X pins σ (upd H s.heap.objs.size (.tup [.int i, kV k])) { s with heap := h'', toks := s.toks + 1 } :=
      I.turnedN (t' := s.toks + 1) (ch := [e, it]) (fun b hb => hf b hb) up (Nat.le_refl _) ⟨by show 2 ≤ sizeLine; decide, [.int i s.toks, key], .cons ⟨_, rfl⟩ (.cons (is_kV hk) .nil), ⟨_, Tnew, rfl, _, rfl⟩⟩
    refine ⟨.ref s.heap.objs.size, _, I1, rfl, ⟨s.heap.objs.size, k, v, hT, rfl, hx, rfl⟩, ⟨⟨_, hz'⟩, by rw [hl]; exact a2.at fun o q => hs'.extBut _ o (Ne.symm ne) q⟩, fun b hb => ?_⟩
    have q := (hf b hb).1
    rw [upd_ne ?_]
    · exact q
    · rcases List.mem_cons.mp hb with rfl | hb
      · exact nT en
      · rw [List.mem_singleton.mp hb]; obtain ⟨_, q, _⟩ := h1; exact nT q
  done := by
    intro X hP hw hK hc i pins s σ H E I hf st hg
    subst hP hw hK
    obtain ⟨hH, hi⟩ := hg
    obtain ⟨vs, rel, hd, hm⟩ := I.kdict hH he
    have hl : kvs.length = vs.length := rel.length
    obtain ⟨⟨old, en⟩, h1⟩ := st
    rw [hl] at h1
    refine pyNext_enumD_end (I.ok.hd hc) en h1 hd (by simp; omega) fun h' hk => ⟨rfl, ?_⟩
    refine I.turnedL (t' := s.toks) (ch := [e, it]) (fun b hb => hf b hb) fun b o hb q => hk b o (by rintro rfl; exact hb (by simp)) q
  self := fun A i s Q E st h => let ⟨_, he⟩ := st.1; wpAny_pyIter_enum he h
theorem enumD_it {X : Cx} {elts : List Expr} {kt : Nat} {pt : Pos} {pins : List (Addr × Obj)} {σ : St} {H : Hp} {s : Shared} {R : It → Hp → Prop} {E : Value → Shared → Prop} {p : Addr} {o : Obj} {kvs : List (Key × V)} (I : Inv X pins σ H s) (h : H p = some (.frz o (.dK kvs)))
    (q : R (Itde p o kvs) H) : wpAny (model X.prog X.w) X.A (call (.type "enumerate") [.ref p]) (fun v s1 => wpAny (model X.prog X.w) X.A (pyIter v) (PIE X pins σ (.Tuple elts kt pt) R) E s1) E s := by
  have he : ∃ ep, EpOf o ep := by
    obtain ⟨e1, z, y, vs, r, ob, es, ep, e, c, d, _⟩ := I.hok p _ h
    rw [e1] at e; cases e
    exact ⟨ep, es, d⟩
  obtain ⟨ep, he⟩ := he
  obtain ⟨vs, rel, hd, hm⟩ := I.kdict h he
  refine call_enumD hm hd fun h' en hit hk => wpAny_pyIter_enum en ?_
  refine ⟨_, _, _, _, H, rfl, I.kept (t' := s.toks) hk, turn_enumD (Nat.succ_ne_self _) he, ⟨⟨_, en⟩, by rw [rel.length]; exact hit⟩, fun b hb => ?_, q⟩
  have hb : b = s.heap.objs.size + 1 ∨ b = s.heap.objs.size := by simpa using hb
  have le : s.heap.objs.size ≤ b := hb.elim (fun e => e ▸ Nat.le_add_right _ 1) fun e => e ▸ Nat.le_refl _
  exact I.fpOk le (I.hok.fresh le)
end L2
set_option maxRecDepth 100000
set_option maxHeartbeats 4000000
namespace PySem
open PyProof.Rows
section
variable {κ : Type} [DecidableEq κ]
def metK (xs : List κ) : List κ := xs.foldl (fun σ k => if σ.any (fun j => decide (j = k)) then σ else σ ++ [k]) []
theorem metK_snoc (xs : List κ) (k : κ) : metK (xs ++ [k]) = if (metK xs).any (fun j => decide (j = k)) then metK xs else metK xs ++ [k] := by
  unfold metK
  rw [List.foldl_append]
  rfl
theorem metK_any (xs : List κ) (k j : κ) : (metK (xs ++ [k])).any (fun i => decide (i = j)) = ((metK xs).any (fun i => decide (i = j)) || decide (j = k)) := by
  rw [metK_snoc]
  by_cases h : (metK xs).any (fun i => decide (i = k)) = true
  · rw [if_pos h]
    by_cases e : j = k
    · subst e; rw [h]; rfl
    · simp [e]
  · rw [if_neg h, List.any_append]
    congr 1
    simp [eq_comm]
theorem metK_len (xs : List κ) : (metK xs).length ≤ xs.length := by
  have : ∀ (ys acc : List κ), (ys.foldl (fun σ k => if σ.any (fun j => decide (j = k)) then σ else σ ++ [k]) acc).length ≤ acc.length + ys.length := by
    intro ys
    induction ys with
    | nil => intro acc; exact Nat.le_refl _
    | cons y ys ih =>
      intro acc
      refine Nat.le_trans (ih _) ?_
      rw [List.length_cons]
      dsimp only
      split
      · omega
      · rw [List.length_append, List.length_singleton]; omega
  exact Nat.le_trans (this xs []) (by simp)
end
section
variable {prog : Program} {w : World} {A : Around} {R : Result → Shared → Prop} {I : Addr} {fp wr : List Addr} {G : Array GenState → Array GenState → Prop} {P : Nat → Value → Prop} {St : Nat → Shared → Prop} {κ : Type} [DecidableEq κ] {knd : KeyKind prog w κ} {ks : List κ}
abbrev Filled (knd : KeyKind prog w κ) (h : Heap) (S : Addr) (ks : List κ) : Prop := h.SetOf knd S (fun k => (metK ks).any (fun j => decide (j = k))) (metK ks).length
theorem filled_on {h h' : Heap} {S : Addr} (x : Filled knd h S ks) (k : ∀ o, h.get? S = some o → h'.get? S = some o) : Filled knd h' S ks :=
  let ⟨o, es, ep, t, ho, r⟩ := x; ⟨o, es, ep, t, k o ho, r⟩
theorem set_filling (W : WalksS prog w A.in1 I fp wr G ks.length P St) (S : Addr) (out : S ∉ fp) (hv : ∀ i v, P i v → ∃ k, ks[i]? = some k ∧ knd.is k v = true ∧ v.scannable = true) (few : ks.length + 1 < scanBound) (left : Nat) :
    ∀ (i : Nat) (s : Shared), i + left = ks.length → St i s → Filled knd s.heap S (ks.take i) → (∀ s', Moved (S :: wr) G s s' → Filled knd s'.heap S ks → R (.ok (.ret .none)) s') →
      codeAny (model prog w) A (.builtin "set.update.loop" ⟨[.ref S, .ref I], []⟩) R s := by
  have outw : S ∉ wr := fun z => out (W.sub _ z)
  have into : ∀ b ∈ wr, b ∈ S :: wr := fun b z => .tail _ z
  induction left with
  | zero =>
    intro i s hi st fl hR
    have ei : i = ks.length := hi
    subst ei
    rw [List.take_length] at fl
    refine codeAny_builtin F.entry_set_update_loop (Around.under_plainId F.plain_set_update_loop _ ▸ ?_)
    show wpAny _ A.in1 (pyNext (.ref I) >>= _) _ _ s
    exact wpAny_bind (W.done s _ _ st fun s' mv => wpAny_pure (hR s' (mv.mono into) (filled_on fl fun o e => mv.heap S o outw e)))
  | succ left ih =>
    intro i s hi st fl hR
    have lt : i < ks.length := by omega
    refine codeAny_builtin F.entry_set_update_loop (Around.under_plainId F.plain_set_update_loop _ ▸ ?_)
    show wpAny _ A.in1 (pyNext (.ref I) >>= _) _ _ s
    refine wpAny_bind (W.item i s _ _ lt st fun v s1 pv st1 mv => ?_)
    obtain ⟨k, ek, ik, sk⟩ := hv i v pv
    have fl1 : Filled knd s1.heap S (ks.take i) := filled_on fl fun o e => mv.heap S o outw e
    have tk : ks.take (i + 1) = ks.take i ++ [k] := by rw [List.take_succ, ek]; rfl
    show wpAny _ A.in1 (holding [v] (setAdd S v) >>= _) _ _ s1
    refine wpAny_bind (wpAny_holding ?_)
    unfold setAdd
    refine wpAny_holding (wpAny_bind (knd.pyHash (k := k) ik ?_))
    have room : (metK (ks.take i)).length + 1 < scanBound := by
      have := metK_len (ks.take i)
      rw [List.length_take] at this
      omega
    refine wpAny_setAddHashed_of (knd := knd) (s := { s1 with toks := s1.toks + 1 }) ik sk fl1 room fun h' sb fl2 => ?_
    have fl3 : Filled knd h' S (ks.take (i + 1)) := by
      have eS : (fun j => (metK (ks.take i)).any (fun m => decide (m = j)) || decide (j = k)) = fun j => (metK (ks.take i ++ [k])).any (fun m => decide (m = j)) := funext fun j => (metK_any (ks.take i) k j).symm
      have en : (if (metK (ks.take i)).any (fun m => decide (m = k)) = true then (metK (ks.take i)).length else (metK (ks.take i)).length + 1) = (metK (ks.take i ++ [k])).length := by
        rw [metK_snoc]; split <;> simp
      rw [tk]
      show h'.SetOf knd S _ _
      rw [← eS, ← en]
      exact fl2
    refine wpAny_pure ⟨plainId_quiet F.plain_set_update_loop _, ih (i + 1) _ (by omega) (W.frame _ s1 _ _ st1 (Nat.le_succ _) fun b hb o e => ?_) fl3 fun s2 mv2 fl4 => ?_⟩
    · exact (sb.2 b fun z => out (z ▸ hb)).trans e
    · exact hR s2 (Moved.trans W.gtrans ((mv.mono into).then_heap (Nat.le_succ _) fun b o hb e => (sb.2 b fun z => hb (z ▸ List.mem_cons_self)).trans e) mv2) fl4
end
section
variable {prog : Program} {w : World} {A : Around} {E : Value → Shared → Prop} {s : Shared} {κ : Type} [DecidableEq κ] {knd : KeyKind prog w κ} {ks : List κ}
abbrev bareSet (led : Bool) : Obj := { cls := .type "set", dict := none, data := .set #[] 0 (.fresh 0 0 led) }
theorem set_of_list {l : Addr} {items : Array Value} {Q : Value → Shared → Prop} (hh : A.handled = none) (hl : s.heap.IsList l items) (hv : ∀ (i : Nat) (v : Value), items[i]? = some v → ∃ k, ks[i]? = some k ∧ knd.is k v = true ∧ v.scannable = true) (hs : items.size = ks.length) (few : ks.length + 1 < scanBound)
    (h : ∀ (h' : Heap) (tk : Nat), Filled knd h' s.heap.objs.size ks → (∀ b o, b < s.heap.objs.size → s.heap.get? b = some o → h'.get? b = some o) → Q (.ref s.heap.objs.size) { s with heap := h', toks := tk }) :
    wpAny (model prog w) A (call (.type "set") [.ref l]) Q E s := by
  obtain ⟨c, tl, hmro⟩ := F.called_set.mro
  have m1 := F.called_set.made
  have m2 := F.called_set.sub
  have m3 := F.called_set.notType
  have m4 := F.called_set.canCreate
  have m5 := F.typeCall_set_1 (.ref l)
  refine wpAny_call (codeAny_of_tree (show wpAny _ _ (callAny (.type "set") _) _ _ _ from wpAny_pure ⟨Code.quiet_builtin _ (by decide +kernel), codeAny_builtin F.entry_type_call ?_⟩))
  rw [Around.under_plain (weight_type_call_type "set" [.ref l] []) rfl]
  repeat (any_goals (first | assumption | wp_step))
  refine codeAny_mono (code_set_new_1 (.ref l) (E := E) (Q₁ := fun obj s₁ => ∃ led : Bool, obj = .ref s.heap.objs.size ∧ s₁ = { s with heap := s.heap.push (bareSet led) }) fun led => ⟨led, rfl, rfl⟩) fun r s₁ hr => ?_
  cases r with
  | error e => exact hr
  | ok fl =>
    cases fl with
    | ret obj =>
      obtain ⟨led, rfl, rfl⟩ := hr
      have new : (s.heap.push (bareSet led)).get? s.heap.objs.size = some (bareSet led) := Heap.get?_push_size _ rfl
      have ty : Shared.TypeIs { s with heap := s.heap.push (bareSet led) } (.ref s.heap.objs.size) "set" := ⟨_, new, rfl⟩
      have m6 := F.called_set.init.lookup
      have m7 := F.called_set.init.bind (.ref s.heap.objs.size)
      repeat (any_goals (first | assumption | wp_step))
      refine codeAny_mono (codeAny_call_builtin (R := wants (fun r s₂ => r = .none ∧ ∃ h' tk, s₂ = { s with heap := h', toks := tk } ∧ Filled knd h' s.heap.objs.size ks ∧ (∀ b o, b < s.heap.objs.size → s.heap.get? b = some o → h'.get? b = some o)) E) F.called_set.init.plain F.entry_set_init (check_set_init_1 ty ?_)) fun r2 s2 hr2 => ?_
      · obtain ⟨⟨oc, odict, od, osl⟩, ol, hc, n, hd⟩ := hl
        simp only at hc hd
        subst hc; subst hd
        have lt : l < s.heap.objs.size := Heap.lt_size ol
        have ol2 : (s.heap.push (bareSet led)).get? l = some { cls := .type "list", dict := odict, data := .seq items n, slots := osl } := Heap.get?_push_of_some _ ol
        have m8 := F.sub_list_set
        have m9 := F.sub_list_frozenset
        have m10 : (Value.type "list" == Value.type "dict") = false := by decide
        have isl : (s.heap.push (bareSet led)).IsList l items := ⟨_, ol2, rfl, n, rfl⟩
        have size : (s.heap.push (bareSet led)).objs.size = s.heap.objs.size + 1 := Heap.size_push ..
        unfold Builtin.«set.__init__» noKeywords Builtin.Frozenset.updateFrom
        generalize hPI : pyIter = PI
        wp_walk
        subst hPI
        refine wpAny_pyIter_list isl (wpAny_bind (wpAny_runValue ?_))
        have quiet : A.in1.in1.in1.handled = none := by simp [hh]
        have ne1 : l ≠ (s.heap.push (bareSet led)).objs.size := size ▸ Nat.ne_of_lt (Nat.lt_succ_of_lt lt)
        have out : s.heap.objs.size ∉ [(s.heap.push (bareSet led)).objs.size, l] := by
          simp only [size, List.mem_cons, List.not_mem_nil, or_false, not_or]
          exact ⟨Nat.ne_of_lt (Nat.lt_succ_self _), Nat.ne_of_gt lt⟩
        have W := (Walks.list (prog := prog) (w := w) quiet (s.heap.push (bareSet led)).objs.size l ne1 items).toS
        rw [hs] at W
        refine set_filling (ks := ks) W s.heap.objs.size out hv few ks.length 0 _ (Nat.zero_add _) ⟨⟨_, Heap.get?_push_size _ rfl, rfl, rfl⟩, isl.push _⟩ ?_ fun s' mv fl => ?_
        · exact (setObjOf_fresh (knd := knd) led).setOf (Heap.get?_push_of_some _ new) (by unfold scanBound; omega)
        · obtain ⟨h', g', d', tk', os'⟩ := s'
          have e1 : g' = s.gens := mv.gens
          have e2 : d' = s.drawn := mv.drawn
          have e3 : os' = s.os := mv.os
          subst e1; subst e2; subst e3
          refine (show wpAny _ _ _ _ _ _ from wpAny_pure (show wpAny _ _ (ret Value.none) _ _ _ from wpAny_pure ⟨rfl, h', tk', rfl, fl, fun b o hb e => ?_⟩))
          refine mv.heap b o ?_ (Heap.get?_push_of_some _ (Heap.get?_push_of_some _ e))
          simp only [size, List.mem_cons, List.not_mem_nil, or_false, not_or]
          exact ⟨Nat.ne_of_lt hb, Nat.ne_of_lt (Nat.lt_succ_of_lt hb)⟩
      · cases r2 with
        | error e => exact hr2
        | ok f2 =>
          cases f2 with
          | ret r =>
            obtain ⟨rfl, h', tk, rfl, fl, kept⟩ := hr2
            repeat (any_goals (first | assumption | wp_step))
            exact h _ _ fl kept
          | _ => exact hr2.elim
    | _ => exact hr.elim
end
end PySem
namespace L2
open PySem PySem.Spec PyProof.Rows
section
variable {X : Cx} {e : Expr} {de : DE} {p p2 pos pos2 : Pos}
def rLenSet (K : PySem.W.Frag) : V → Hp → VK → Prop := fun x H Q => match x with
  | .ref l => ∃ ys : List Str, SqL K H l (ys.map V.str) ∧ ys.length < 30 ∧ Q (.int (metK ys).length) H
  | _ => False
theorem strs_at : ∀ {ys : List Str} {us : List Value} {i : Nat} {v : Value}, Vals (ys.map V.str) us → us[i]? = some v → ∃ k t, ys[i]? = some k ∧ v = .str k t
  | [], _, i, v, r, e => by rw [List.map_nil] at r; cases r; simp at e
  | y :: ys, _, i, v, r, e => by
    rw [List.map_cons] at r
    cases r with
    | cons r1 r2 =>
      obtain ⟨t, rfl⟩ := r1
      cases i with
      | zero => simp only [List.getElem?_cons_zero, Option.some.injEq] at e; exact ⟨y, t, rfl, e.symm⟩
      | succ i => simp only [List.getElem?_cons_succ] at e ⊢; exact strs_at r2 e
theorem len_set {pins : List (Addr × Obj)} {σ : St} {H : Hp} {s : Shared} {x : V} {u : Value} {Q : VK} (hc : X.calm = true) (I : Inv X pins σ H s) (rx : RelV x u) (h : rLenSet X.K x H Q) :
    wpAny (model X.prog X.w) X.A (call (.type "set") [u]) (fun v s1 => wpAny (model X.prog X.w) X.A (call (.builtin "len") [v]) (EP X pins σ Q) X.xe s1) X.xe s := by
  cases x with
  | ref l =>
    cases rx
    obtain ⟨ys, hq, few, q⟩ := h
    obtain ⟨its, rv, pl, hz⟩ := I.list hq
    have hl : its.length = ys.length := by rw [← rv.length, List.length_map]
    refine set_of_list (knd := PySem.strKind X.prog X.w) (ks := ys) (I.ok.hd hc) pl.isList (fun i v e => ?_) (by simpa using hl) (by unfold scanBound; omega) fun h' tk fl kept => ?_
    · obtain ⟨k, t, ek, rfl⟩ := strs_at rv (by simpa using e)
      exact ⟨k, ek, by show Value.isStrOf k (.str k t) = true; simp [Value.isStrOf], rfl⟩
    · have I1 : Inv X pins σ H { s with heap := h', toks := tk } := I.kept (t' := tk) fun b o e => kept b o (Heap.lt_size e) e
      obtain ⟨o, es, ep, t, ho, hex, hd, hel, hmem, hb, hf, hn⟩ := fl
      refine call_len_set ho hex hd hf ?_ ?_
      · have := metK_len ys
        rw [hn]; omega
      · rw [hn]
        exact ⟨.int _, H, I1.tok _, ⟨_, rfl⟩, q⟩
  | _ => exact (show False from h).elim
end
end L2
set_option maxRecDepth 100000
set_option maxHeartbeats 4000000
namespace PySem
open PyProof.Rows
section
variable {prog : Program} {w : World} {A : Around} {E : Value → Shared → Prop} {s : Shared} {κ : Type} [DecidableEq κ] {knd : KeyKind prog w κ} {d it : Addr} {ep i : Nat} {kvs : List (κ × Value)}
def ItemsAt (h : Heap) (it d : Addr) (i n ep : Nat) : Prop :=
  ∃ f0 f1 k v, h.get? it = some { cls := .type "dict_itemiterator", dict := none, data := .fields #[f0, f1, .ref d, .int i 0, .int n 0, .int ep 0, k, v], slots := #[] } ∧ (f0 = .none ∨ ∃ a : Nat, f0 = rawInt a ∧ a ≠ it ∧ ∃ o, h.get? a = some o)
theorem ItemsAt.on {h h' : Heap} {n : Nat} (x : ItemsAt h it d i n ep) (k : ∀ o, h.get? it = some o → h'.get? it = some o) (t : ∀ b o, h.get? b = some o → ∃ o', h'.get? b = some o') : ItemsAt h' it d i n ep :=
  let ⟨f0, f1, a, b, e, r⟩ := x; ⟨f0, f1, a, b, k _ e, r.imp id fun ⟨c, e, n, o, q⟩ => ⟨c, e, n, t c o q⟩⟩
theorem items_turn {k : κ} {v : Value} {Q : Option Value → Shared → Prop} (hit : ItemsAt s.heap it d i kvs.length ep) (hm : s.heap.DictAt knd d kvs ep) (hx : kvs[i]? = some (k, v))
    (hQ : ∀ key h', knd.is k key = true → ItemsAt h' it d (i + 1) kvs.length ep → h'.get? s.heap.objs.size = some { cls := .type "tuple", data := .seq #[key, v] } →
      (∀ b o, b ≠ it → s.heap.get? b = some o → h'.get? b = some o) → Q (some (.ref s.heap.objs.size)) { s with heap := h' }) : wpAny (model prog w) A (pyNext (.ref it)) Q E s := by
  obtain ⟨f0, f1, ok, ov, ei, hf0⟩ := hit
  obtain ⟨h0, gs, dr, tk, ops⟩ := s
  obtain ⟨od, es, ed, _, dd, _, pr, _⟩ := id hm
  have lt : i < kvs.length := by
    rcases Nat.lt_or_ge i kvs.length with h | h
    · exact h
    · simp [List.getElem?_eq_none h] at hx
  have size : es.size = kvs.length := pr.length ▸ (by simp)
  have lt2 : i < es.size := size ▸ lt
  obtain ⟨isk, isv⟩ := pr.get? (e := es[i]) (by simp [lt2]) hx
  have ty : Shared.TypeIs ⟨h0, gs, dr, tk, ops⟩ (.ref it) "dict_itemiterator" := ⟨_, ei, rfl⟩
  have own : Builtin.Dict_items.ownsTuple "dict_itemiterator" = true := by decide
  have noNone : ¬ ((Value.ref d == Value.none) = true) := Bool.false_ne_true
  have nx : ¬ ((i : Int) < 0) := by omega
  unfold pyNext
  refine wpAny_bind (wpAny_attempt (wpAny_callSpecial?_slot (name := Str.ofString "__next__") ty F.slot_dict_itemiterator_next (wpAny_call_entry F.slot_dict_itemiterator_next ty F.entry_dict_itemiterator_next ?_ (F.args_dict_itemiterator_next_1 _))))
  refine wpAny_bind (wpAny_pure (wpAny_bind (wpAny_bind ?_)))
  first | refine wpAny_bind (wpAny_typeNameOfWhole_itemiter ty (wpAny_pure (wpAny_bind (wpAny_fieldsOf ei rfl ?_)))) | refine wpAny_bind (wpAny_typeNameOf_itemiter ty (wpAny_pure (wpAny_bind (wpAny_fieldsOf ei rfl ?_))))
  simp only [own, if_true]
  show wpAny _ _ (if (Value.ref d == Value.none) = true then _ else _) _ _ _
  rw [if_neg noNone]
  refine wpAny_bind (wpAny_pure (wpAny_bind (wpAny_dictEntries ed dd ?_)))
  rw [if_neg (show ¬ _ by rw [size]; simp)]
  refine wpAny_bind (wpAny_pure (wpAny_bind (wpAny_dictEpoch ed dd ?_)))
  rw [if_neg (show ¬ _ by simp)]
  refine wpAny_pure ?_
  simp only [nx, if_false, Int.toNat_natCast, Array.getElem?_eq_getElem lt2]
  refine wpAny_bind ?_
  first | refine wpAny_bind (wpAny_typeNameOfWhole_itemiter ty (wpAny_pure (wpAny_bind (wpAny_isOneOf_itemiter ty ?_)))) | refine wpAny_bind (wpAny_typeNameOf_itemiter ty (wpAny_pure (wpAny_bind (wpAny_isOneOf_itemiter ty ?_))))
  show wpAny _ _ (setField (.ref it) 3 (rawInt ((i : Int) + 1)) >>= _) _ _ ⟨h0, gs, dr, tk, ops⟩
  refine wpAny_bind (wpAny_setField_rec ei (by simp) fun h1 e1 s1 => ?_)
  have k1 : Heap.SameBut it h0 h1 := s1
  have e1 : h1.get? it = some { cls := .type "dict_itemiterator", dict := none, data := .fields #[f0, f1, .ref d, .int (i + 1 : Nat) 0, .int kvs.length 0, .int ep 0, ok, ov], slots := #[] } := by
    have e : ((i + 1 : Nat) : Int) = (i : Int) + 1 := by omega
    rw [e]; simpa [rawInt] using e1
  have ty1 : Shared.TypeIs ⟨h1, gs, dr, tk, ops⟩ (.ref it) "dict_itemiterator" := ⟨_, e1, rfl⟩
  refine wpAny_bind (wpAny_holding (wpAny_bind (wpAny_isOneOf_itemiter (s := ⟨h1, gs, dr, tk, ops⟩) ty1 (wpAny_bind (wpAny_isOneOf_itemiter (s := ⟨h1, gs, dr, tk, ops⟩) ty1 ?_)))))
  show wpAny _ _ (Builtin.Dict_items.pairFromOwner (.ref it) 6 es[i].key es[i].val) _ _ ⟨h1, gs, dr, tk, ops⟩
  unfold Builtin.Dict_items.pairFromOwner
  refine wpAny_bind (wpAny_newTuple ?_)
  have up : ∃ h2 : Heap, h2 = h1.push { cls := .type "tuple", data := .seq #[es[i].key, es[i].val] } := ⟨_, rfl⟩
  obtain ⟨h2, eh2⟩ := up
  rw [← eh2, show h1.objs.size = h0.objs.size from k1.1]
  have e2 := Heap.get?_push_of_some { cls := .type "tuple", data := .seq #[es[i].key, es[i].val] } e1
  have t2 : h2.get? h0.objs.size = some { cls := .type "tuple", data := .seq #[es[i].key, v] } := by rw [eh2, ← isv, ← show h1.objs.size = h0.objs.size from k1.1]; exact Heap.get?_push_size _ rfl
  have all2 : ∀ b o, b ≠ it → h0.get? b = some o → h2.get? b = some o := fun b o hb e => by rw [eh2]; exact Heap.get?_push_of_some _ (k1.extBut b o hb e)
  rw [← eh2] at e2
  have lti : it < h0.objs.size := Heap.lt_size ei
  have ne : h0.objs.size ≠ it := Nat.ne_of_gt lti
  refine wpAny_bind ?_
  unfold Builtin.Dict_items.ownedTupleIsFree
  refine wpAny_bind (wpAny_field (s := ⟨h2, gs, dr, tk, ops⟩) e2 rfl (x := f0) rfl ?_)
  rcases hf0 with rfl | ⟨a, rfl, na, oa, ea⟩
  · refine wpAny_pure ?_
    simp only [if_true]
    refine wpAny_bind (wpAny_field (s := ⟨h2, gs, dr, tk, ops⟩) e2 rfl (x := ok) rfl (wpAny_bind (wpAny_field (s := ⟨h2, gs, dr, tk, ops⟩) e2 rfl (x := ov) rfl ?_)))
    refine wpAny_bind (wpAny_setField_rec (s := ⟨h2, gs, dr, tk, ops⟩) e2 (by simp) fun h3 e3 s3 => wpAny_bind (wpAny_setField_rec (s := ⟨h3, gs, dr, tk, ops⟩) e3 (by simp) fun h4 e4 s4 => ?_))
    refine wpAny_bind (wpAny_setField_rec (s := ⟨h4, gs, dr, tk, ops⟩) e4 (by simp) fun h5 e5 s5 => wpAny_bind (wpAny_setField_rec (s := ⟨h5, gs, dr, tk, ops⟩) e5 (by simp) fun h6 e6 s6 => ?_))
    have on : ∀ b o, b ≠ it → h2.get? b = some o → h6.get? b = some o := fun b o n q => s6.extBut b o n (s5.extBut b o n (s4.extBut b o n (s3.extBut b o n q)))
    refine wpAny_bind (wpAny_letGo (wpAny_pure (wpAny_pure ⟨_, rfl, wpAny_pure (hQ es[i].key h6 isk ?_ (on _ _ ne t2) fun b o n q => on b o n (all2 b o n q))⟩)))
    exact ⟨rawInt h0.objs.size, _, _, _, e6, .inr ⟨_, rfl, ne, _, on _ _ ne t2⟩⟩
  · show wpAny _ _ (loadIfAlive (a : Int).toNat >>= _) _ _ ⟨h2, gs, dr, tk, ops⟩
    have a2 : h2.get? a = some oa := all2 a oa na ea
    have la : ∀ {α : Type} {k : Option Obj → Sem α} {Q' : α → Shared → Prop} {E' : Value → Shared → Prop}, wpAny (model prog w) A.in1 (k (some oa)) Q' E' ⟨h2, gs, dr, tk, ops⟩ → wpAny (model prog w) A.in1 (loadIfAlive (a : Int).toNat >>= k) Q' E' ⟨h2, gs, dr, tk, ops⟩ := fun {α k Q' E'} h Γ p hΓ => by
      have z := h Γ p hΓ
      show Sem.wp _ _ (Sem.loadIfAlive (a : Int).toNat fun x => k x) _ _ _ _
      rw [Sem.wp_loadIfAlive]
      rw [Int.toNat_natCast]
      rw [show (Shared.heap ⟨h2, gs, dr, tk, ops⟩).get? a = some oa from a2]
      exact z
    refine la ?_
    simp only [Option.isNone_some, Bool.false_eq_true, if_false]
    refine wpAny_bind (wpAny_field (s := ⟨h2, gs, dr, tk, ops⟩) e2 rfl (x := f1) rfl ?_)
    have fin : ∀ h3 : Heap, (∀ b o, b ≠ it → h2.get? b = some o → h3.get? b = some o) → ItemsAt h3 it d (i + 1) kvs.length ep → Q (some (.ref h0.objs.size)) ⟨h3, gs, dr, tk, ops⟩ := fun h3 on at3 => hQ es[i].key h3 isk at3 (on _ _ ne t2) fun b o n q => on b o n (all2 b o n q)
    by_cases c : (f1 != Value.bool true) = true
    · rw [if_pos c]
      refine wpAny_bind (wpAny_setField_rec (s := ⟨h2, gs, dr, tk, ops⟩) e2 (by simp) fun h3 e3 s3 => wpAny_pure ?_)
      simp only [Bool.false_eq_true, if_false]
      exact wpAny_pure (wpAny_pure ⟨_, rfl, wpAny_pure (fin h3 (fun b o n q => s3.extBut b o n q) ⟨_, _, _, _, e3, .inr ⟨a, rfl, na, oa, s3.extBut _ _ na a2⟩⟩)⟩)
    · rw [if_neg c]
      refine wpAny_pure ?_
      simp only [Bool.false_eq_true, if_false]
      exact wpAny_pure (wpAny_pure ⟨_, rfl, wpAny_pure (fin h2 (fun b o n q => q) ⟨_, _, _, _, e2, .inr ⟨a, rfl, na, oa, a2⟩⟩)⟩)
theorem items_end {Q : Option Value → Shared → Prop} (hh : A.handled = none) (hit : ItemsAt s.heap it d i kvs.length ep) (hm : s.heap.DictAt knd d kvs ep) (hx : kvs[i]? = none)
    (hQ : ∀ h', Heap.ExtBut it s.heap h' → Q none { s with heap := h' }) : wpAny (model prog w) A (pyNext (.ref it)) Q E s := by
  obtain ⟨f0, f1, ok, ov, ei, _⟩ := hit
  obtain ⟨od, es, ed, _, dd, _, pr, _⟩ := id hm
  have size : es.size = kvs.length := pr.length ▸ (by simp)
  have past : es.size ≤ i := by rw [size]; simpa using hx
  have ty : s.TypeIs (.ref it) "dict_itemiterator" := ⟨_, ei, rfl⟩
  have own : Builtin.Dict_items.ownsTuple "dict_itemiterator" = true := by decide
  have noNone : ¬ ((Value.ref d == Value.none) = true) := Bool.false_ne_true
  have nx : ¬ ((i : Int) < 0) := by omega
  unfold pyNext
  refine wpAny_bind (wpAny_attempt (wpAny_callSpecial?_slot (name := Str.ofString "__next__") ty F.slot_dict_itemiterator_next (wpAny_call_entry F.slot_dict_itemiterator_next ty F.entry_dict_itemiterator_next ?_ (F.args_dict_itemiterator_next_1 _))))
  refine wpAny_bind (wpAny_pure (wpAny_bind (wpAny_bind ?_)))
  first | refine wpAny_bind (wpAny_typeNameOfWhole_itemiter ty (wpAny_pure (wpAny_bind (wpAny_fieldsOf ei rfl ?_)))) | refine wpAny_bind (wpAny_typeNameOf_itemiter ty (wpAny_pure (wpAny_bind (wpAny_fieldsOf ei rfl ?_))))
  simp only [own, if_true]
  show wpAny _ _ (if (Value.ref d == Value.none) = true then _ else _) _ _ s
  rw [if_neg noNone]
  refine wpAny_bind (wpAny_pure (wpAny_bind (wpAny_dictEntries ed dd ?_)))
  rw [if_neg (show ¬ _ by rw [size]; simp)]
  refine wpAny_bind (wpAny_pure (wpAny_bind (wpAny_dictEpoch ed dd ?_)))
  rw [if_neg (show ¬ _ by simp)]
  refine wpAny_pure ?_
  simp only [nx, if_false, Int.toNat_natCast, Array.getElem?_eq_none past]
  refine wpAny_bind ?_
  first | refine wpAny_bind (wpAny_typeNameOfWhole_itemiter ty (wpAny_pure ?_)) | refine wpAny_bind (wpAny_typeNameOf_itemiter ty (wpAny_pure ?_))
  show wpAny _ _ (setField (.ref it) 2 .none >>= fun _ => newExc (.type "StopIteration") [] >>= _) _ _ s
  refine wpAny_bind (wpAny_setField ei rfl (by simp) (wpAny_bind ?_))
  simp only [newExc, newTuple]
  refine wpAny_bind (wpAny_newObj_type (wpAny_bind (m := firstArgMember _ _) (wpAny_of_eq (a := Value.none) (by first | rfl | (simp only [firstArgMember]; rfl)) (wpAny_newObj_type ?_ (by size_fits)))) (by size_fits))
  simp only [raiseNew]
  refine wpAny_bind (wpAny_handled ?_)
  rw [show A.in1.handled = none from hh]
  refine wpAny_bind (wpAny_pure (wpAny_throw ?_))
  exact wpAny_bind (wpAny_isInstance (T := "StopIteration") (b := true) ⟨_, Heap.get?_push_size _ rfl, rfl⟩ isSubtype_stop (wpAny_pure (hQ _ (((Heap.SameBut.update ..).extBut.push _).push _))))
end
end PySem
namespace L2
open PySem PySem.Spec PyProof.Rows
abbrev OnTop (H H' : Hp) : Prop := ∀ b o, H b = some o → H' b = some o
section
variable {X : Cx} {pins : List (Addr × Obj)} {σ : St} {A : Around} {E : Value → Shared → Prop} {R : Result → Shared → Prop} {p it S : Addr} {ep : Nat} {kvs : List (Key × V)} {vs : List (Key × Value)} {res : Value}
def Laid (H0 H : Hp) (kvs : List (Key × V)) (Ts : List Addr) : Prop := ∀ (j : Nat) k v T, kvs[j]? = some (k, v) → Ts[j]? = some T → H0 T = none ∧ H T = some (.tup [kV k, v])
theorem items_loop (H0 : Hp) (rel : KV kvs vs) (hh : A.handled = none) (small : vs.length < sizeLine) (n1 : it ≠ S) (n2 : p ≠ it) (n3 : p ≠ S) (left : Nat) :
    ∀ (i : Nat) (s : Shared) (H : Hp) (Ts : List Addr), i + left = vs.length → Inv X pins σ H s → FpOk X pins H it → (∀ b o, b ≠ S → H0 b = some o → H b = some o) → H S = some (.lst (Ts.map V.ref)) → H0 S = none → ItemsAt s.heap it p i vs.length ep → s.heap.DictAt (mixKind X.prog X.w) p vs ep → Ts.length = i →
      Laid H0 H kvs Ts → (∀ s' H' Ts', Inv X pins σ H' s' → OnTop H0 H' → H' S = some (.lst (Ts'.map V.ref)) → Ts'.length = vs.length → Laid H0 H' kvs Ts' → R (.ok (.ret res)) s') →
      codeAny (model X.prog X.w) A (.builtin "list.extend.loop" ⟨[.ref S, .ref it, res], []⟩) R s := by
  induction left with
  | zero =>
    intro i s H Ts hi I fp top hS h0 at1 hd hl laid hR
    refine codeAny_builtin F.entry_extend_loop (Around.under_plainId F.plain_extend_loop _ ▸ ?_)
    show wpAny _ A.in1 (pyNext (.ref it) >>= _) _ _ s
    obtain ⟨f0, f1, f2, f3, f4, f5⟩ := fp
    refine wpAny_bind (items_end hh at1 hd (by simp; omega) fun h' ext => wpAny_pure (hR _ H Ts (I.turned (t' := s.toks) (fun b o hb e => ext b o hb e) f0 f1 f3 f4 f5) (fun b o e => top b o (fun z => by rw [z, h0] at e; cases e) e) hS (by omega) laid))
  | succ left ih =>
    intro i s H Ts hi I fp top hS h0 at1 hd hl laid hR
    have lt : i < kvs.length := by rw [rel.length]; omega
    obtain ⟨⟨k, v⟩, hx⟩ : ∃ q, kvs[i]? = some q := ⟨kvs[i], by simp [lt]⟩
    obtain ⟨u, hu, ru⟩ := kv_at rel hx
    refine codeAny_builtin F.entry_extend_loop (Around.under_plainId F.plain_extend_loop _ ▸ ?_)
    show wpAny _ A.in1 (pyNext (.ref it) >>= _) _ _ s
    refine wpAny_bind (items_turn at1 hd hu fun key h' isk at2 t2 all2 => ?_)
    have fresh : H s.heap.objs.size = none := I.hok.fresh (Nat.le_refl _)
    have ltS : S < s.heap.objs.size := (I.hok S _ hS).lt
    have lti : it < s.heap.objs.size := by obtain ⟨_, _, _, _, e, _⟩ := at1; exact Heap.lt_size e
    have I1 : Inv X pins σ (upd H s.heap.objs.size (.tup [kV k, v])) { s with heap := h' } :=
      I.turnedN (t' := s.toks) (ch := [it]) (fun b hb => by rw [List.mem_singleton.mp hb]; exact fp) (fun b o hb e => all2 b o (fun z => hb (by simp [z])) e) (Nat.le_refl _) ⟨by show 2 ≤ sizeLine; decide, [key, u], .cons (is_kV isk) (.cons ru .nil), ⟨_, t2, rfl, _, rfl⟩⟩
    have S1 : upd H s.heap.objs.size (.tup [kV k, v]) S = some (.lst (Ts.map V.ref)) := by rw [upd_ne (Nat.ne_of_lt ltS)]; exact hS
    obtain ⟨its, n, r, ho, hz⟩ := I1.lst S1
    have li : its.length = i := by rw [← r.length, List.length_map]; exact hl
    show wpAny _ A.in1 (updateSeq S (·.push (.ref s.heap.objs.size)) >>= _) _ _ { s with heap := h' }
    refine wpAny_bind ?_
    refine wpAny_updateSeq ho rfl (wpAny_pure ⟨plainId_quiet F.plain_extend_loop _, ?_⟩) (by rw [List.size_toArray, li]; omega) (by show (its.toArray.push _).size ≤ sizeLine + 1; rw [Array.size_push, List.size_toArray, li]; omega)
    have I2 := I1.lset (t' := s.toks) (f := fun z => z.push (.ref s.heap.objs.size)) (its' := its ++ [.ref s.heap.objs.size]) (ys := (Ts ++ [s.heap.objs.size]).map V.ref) S1 ho (by simp) (by rw [List.map_append]; exact r.append (.cons rfl .nil)) (by rw [List.length_map, List.length_append, List.length_singleton, hl]; omega)
    have nS : ∀ b, b ≠ S → (h'.update S (Obj.mapSeq fun z => z.push (.ref s.heap.objs.size))).get? b = h'.get? b := fun b n => Heap.get?_update_other _ _ (Ne.symm n)
    refine ih (i + 1) _ _ (Ts ++ [s.heap.objs.size]) (by omega) I2 ?_ (fun b o n e => ?_) upd_same h0 (at2.on (fun o e => (nS it n1).trans e) fun b o e => ?_) ?_ (by rw [List.length_append, List.length_singleton, hl]) (fun j k' v' T e1 e2 => ?_) hR
    · obtain ⟨f0, f1, f2, f3, f4, f5⟩ := fp
      exact ⟨by rw [upd_ne n1, upd_ne (Nat.ne_of_lt lti)]; exact f0, f1, f2, f3, f4, f5⟩
    · rw [upd_ne n, upd_ne (ne_of_none (top b o n e) fresh)]; exact top b o n e
    · by_cases z : b = S
      · subst z; exact ⟨_, Heap.get?_update_self _ e (by rw [ho] at e; cases e; rfl)⟩
      · exact ⟨o, (nS b z).trans e⟩
    · obtain ⟨od, es, ed, q⟩ := hd
      exact ⟨od, es, (nS p n3).trans (all2 p od n2 ed), q⟩
    · by_cases hj : j < Ts.length
      · rw [List.getElem?_append_left hj] at e2
        obtain ⟨q1, q2⟩ := laid j k' v' T e1 e2
        refine ⟨q1, ?_⟩
        have nT : T ≠ S := fun z => by rw [z, hS] at q2; cases q2
        rw [upd_ne nT, upd_ne (ne_of_none q2 fresh)]; exact q2
      · have hj2 : j = i := by
          have : j < (Ts ++ [s.heap.objs.size]).length := by
            rcases Nat.lt_or_ge j (Ts ++ [s.heap.objs.size]).length with h | h
            · exact h
            · rw [List.getElem?_eq_none h] at e2; cases e2
          rw [List.length_append, List.length_singleton] at this
          omega
        subst hj2
        rw [List.getElem?_append_right (by omega), hl, Nat.sub_self] at e2
        cases e2
        rw [hx] at e1
        cases e1
        refine ⟨?_, by rw [upd_ne (Nat.ne_of_gt ltS)]; exact upd_same⟩
        cases q : H0 s.heap.objs.size with
        | none => rfl
        | some o => exact absurd (top _ o (Nat.ne_of_gt ltS) q) (by rw [fresh]; intro z; cases z)
end
end L2
set_option maxRecDepth 100000
set_option maxHeartbeats 4000000
namespace L2
open PySem PySem.Spec PyProof.Rows
section
variable {X : Cx} {pins : List (Addr × Obj)} {σ : St} {A : Around} {E : Value → Shared → Prop}
theorem hint_items {s : Shared} {r : Addr} {Q : Bool → Shared → Prop} {prog : Program} {w : World} (ty : s.TypeIs (.ref r) "dict_items") (h : Q false s) : wpAny (model prog w) A (Builtin.List.listLengthHint (.ref r)) Q E s := by
  unfold Builtin.List.listLengthHint
  refine wpAny_bind (wpAny_specialOf ty PySem.F.slot_dict_items_len.lookup ?_)
  generalize eid : ("dict_items.__len__" : String) = name
  wp_delta
  rw [show splitId name = some ("dict_items", "__len__") from eid ▸ by decide +kernel]
  subst eid
  refine wpAny_bind (wpAny_isInstance (T := "dict_items") (b := true) ty (by rw [isSubtype_type]; kernel_rfl) (wpAny_ite_split (fun z => absurd z (by decide)) fun _ => wpAny_ite_split (fun _ => wpAny_bind (wpAny_typeOf ty (wpAny_pure h))) fun z => absurd (by decide +kernel) z))
theorem list_items {H : Hp} {s : Shared} {p : Addr} {kvs : List (Key × V)} {Q : Value → Shared → Prop} (hc : X.calm = true) (I : Inv X pins σ H s) (e : Rd H p (.dK kvs)) (few : kvs.length < 1000)
    (h : ∀ l Ts H' s', Inv X pins σ H' s' → OnTop H H' → H l = none → H' l = some (.lst (Ts.map V.ref)) → Ts.length = kvs.length → Laid H H' kvs Ts → Q (.ref l) s') :
    wpAny (model X.prog X.w) X.A (call (.builtin "dict.items") [.ref p]) (fun v s1 => wpAny (model X.prog X.w) X.A (call (.type "list") [v]) Q X.xe s1) X.xe s := by
  obtain ⟨z, lo, vs, rel, dof⟩ := dk_rd I.hok e
  obtain ⟨ep, dat⟩ := dof.dictAt
  have lp : p < s.heap.objs.size := dat.lt_size
  refine call_meetsIn PySem.F.slot_dict_items dof.typeIs PySem.F.entry_dict_items (PySem.F.args_dict_items_1 _) (meets_dict_items _ p lo) ⟨⟨vs, dof⟩, ?_⟩
  have zv : (s.heap.push { cls := .type "dict_items", data := .fields #[.ref p] }).objs.size = s.heap.objs.size + 1 := Heap.size_push ..
  have view : (s.heap.push { cls := .type "dict_items", data := .fields #[.ref p] }).get? s.heap.objs.size = some { cls := .type "dict_items", data := .fields #[.ref p] } := Heap.get?_push_size _ rfl
  have on1 : ∀ b o, s.heap.get? b = some o → (s.heap.push { cls := .type "dict_items", data := .fields #[.ref p] }).get? b = some o := fun b o q => Heap.get?_push_of_some _ q
  generalize s.heap.push { cls := .type "dict_items", data := .fields #[.ref p] } = h1 at zv view on1 ⊢
  refine callType_codes (s := { s with heap := h1 }) (Q₁ := fun obj s2 => obj = .ref (s.heap.objs.size + 1) ∧ s2 = { s with heap := h1.push { cls := .type "list", data := .seq #[] } }) PySem.F.called_list (PySem.F.typeCall_list_1 _) PySem.F.entry_list_init
    (code_list_new _ ⟨by show Value.ref h1.objs.size = _; rw [zv], rfl⟩) fun obj s2 hs => ?_
  obtain ⟨rfl, rfl⟩ := hs
  have S2 : (h1.push { cls := .type "list", data := .seq #[] }).get? (s.heap.objs.size + 1) = some { cls := .type "list", data := .seq #[] } := zv ▸ Heap.get?_push_size _ rfl
  have z2 : (h1.push { cls := .type "list", data := .seq #[] }).objs.size = s.heap.objs.size + 2 := by rw [Heap.size_push, zv]
  have view2 := Heap.get?_push_of_some { cls := .type "list", data := .seq #[] } view
  have on2 : ∀ b o, s.heap.get? b = some o → (h1.push { cls := .type "list", data := .seq #[] }).get? b = some o := fun b o q => Heap.get?_push_of_some _ (on1 b o q)
  generalize h1.push { cls := .type "list", data := .seq #[] } = h2 at S2 z2 view2 on2 ⊢
  refine ⟨⟨_, S2, rfl⟩, PySem.F.args_list_init_2 _ _, ?_⟩
  show wpAny _ _ (do let old ← Builtin.List.listItems (.ref (s.heap.objs.size + 1)); Builtin.List.listUpdate (.ref (s.heap.objs.size + 1)) (fun _ => #[]); letGo old.toList.reverse; Builtin.List.listExtendWith (.ref (s.heap.objs.size + 1)) (.ref s.heap.objs.size) .none) _ _ { s with heap := h2 }
  refine wpAny_bind ?_
  unfold Builtin.List.listItems
  refine wpAny_bind (wpAny_seqItems (s := { s with heap := h2 }) S2 rfl (wpAny_pure ?_))
  show wpAny _ _ (updateSeq (s.heap.objs.size + 1) (fun _ => #[]) >>= fun _ => letGo (#[] : Array Value).toList.reverse >>= fun _ => Builtin.List.listExtendWith (.ref (s.heap.objs.size + 1)) (.ref s.heap.objs.size) .none) _ _ { s with heap := h2 }
  refine wpAny_bind (wpAny_updateSeq (s := { s with heap := h2 }) S2 rfl (wpAny_bind (wpAny_letGo ?_)))
  have S3 : ∃ c, (h2.update (s.heap.objs.size + 1) (Obj.mapSeq (fun _ => (#[] : Array Value)))).get? (s.heap.objs.size + 1) = some { cls := .type "list", data := .seq #[] c } := ⟨_, Heap.get?_update_self _ S2 rfl⟩
  have o3 : ∀ b o, b ≠ s.heap.objs.size + 1 → h2.get? b = some o → (h2.update (s.heap.objs.size + 1) (Obj.mapSeq (fun _ => (#[] : Array Value)))).get? b = some o := fun b o n q => (Heap.get?_update_other _ _ (Ne.symm n)).trans q
  have z3 : (h2.update (s.heap.objs.size + 1) (Obj.mapSeq (fun _ => (#[] : Array Value)))).objs.size = s.heap.objs.size + 2 := by rw [(Heap.SameBut.update ..).1, z2]
  generalize h2.update (s.heap.objs.size + 1) (Obj.mapSeq (fun _ => (#[] : Array Value))) = h3 at S3 o3 z3 ⊢
  obtain ⟨c3, S3⟩ := S3
  have view3 : h3.get? s.heap.objs.size = some { cls := .type "dict_items", data := .fields #[.ref p] } := o3 _ _ (Nat.ne_of_lt (Nat.lt_succ_self _)) view2
  have on3 : ∀ b o, s.heap.get? b = some o → h3.get? b = some o := fun b o q => o3 b o (Nat.ne_of_lt (Nat.lt_succ_of_lt (Heap.lt_size q))) (on2 b o q)
  have isv : Heap.IsItemsView h3 s.heap.objs.size p := ⟨_, view3, rfl, rfl⟩
  have dat3 : h3.DictAt (mixKind X.prog X.w) p vs ep := dat.keep on3
  unfold Builtin.List.listExtendWith
  refine wpAny_bind (wpAny_typeOf (s := { s with heap := h3 }) (T := "dict_items") isv.typeIs ?_)
  have t1 : Builtin.List.listSameRef (.ref (s.heap.objs.size + 1)) (.ref s.heap.objs.size) = false := by simp [Builtin.List.listSameRef]
  have t2 : (Value.type "dict_items" == Value.type "list") = false := by decide
  have t3 : (Value.type "dict_items" == Value.type "tuple") = false := by decide
  simp only [t1, t2, t3, Bool.or_false, Bool.false_eq_true, if_false]
  refine wpAny_bind (wpAny_pyIter_items (s := { s with heap := h3 }) isv dat3 ?_)
  have it4 : (h3.push { cls := .type "dict_itemiterator", data := .fields #[.none, .bool false, .ref p, .int 0 0, .int vs.length 0, .int ep 0, .none, .none] }).get? (s.heap.objs.size + 2) = some { cls := .type "dict_itemiterator", data := .fields #[.none, .bool false, .ref p, .int 0 0, .int vs.length 0, .int ep 0, .none, .none] } := z3 ▸ Heap.get?_push_size _ rfl
  have o4 : ∀ b o, h3.get? b = some o → (h3.push { cls := .type "dict_itemiterator", data := .fields #[.none, .bool false, .ref p, .int 0 0, .int vs.length 0, .int ep 0, .none, .none] }).get? b = some o := fun b o q => Heap.get?_push_of_some _ q
  show wpAny _ _ (holding [.ref h3.objs.size] (Builtin.List.listLengthHint (.ref s.heap.objs.size)) >>= _) _ _ { s with heap := h3.push _ }
  rw [z3]
  generalize h3.push { cls := .type "dict_itemiterator", data := .fields #[.none, .bool false, .ref p, .int 0 0, .int vs.length 0, .int ep 0, .none, .none] } = h4 at it4 o4 ⊢
  refine wpAny_bind (wpAny_holding (hint_items (s := { s with heap := h4 }) ⟨_, o4 _ _ view3, rfl⟩ ?_))
  have S4 := o4 _ _ S3
  have loop : ∀ (h : Heap) (c tk : Nat), (∀ b o, b ≠ s.heap.objs.size + 1 → h4.get? b = some o → h.get? b = some o) → h.get? (s.heap.objs.size + 1) = some { cls := .type "list", data := .seq #[] c } →
      codeAny (model X.prog X.w) X.A.in1 (.builtin "list.extend.loop" ⟨[.ref (s.heap.objs.size + 1), .ref (s.heap.objs.size + 2), .none], []⟩) (wants (fun r s₂ => r = .none ∧ Q (.ref (s.heap.objs.size + 1)) s₂) X.xe) { s with heap := h, toks := tk } := by
    intro hh c tk k5 S5
    have on5 : ∀ b o, s.heap.get? b = some o → hh.get? b = some o := fun b o q => k5 b o (Nat.ne_of_lt (Nat.lt_succ_of_lt (Heap.lt_size q))) (o4 b o (on3 b o q))
    have fr : H (s.heap.objs.size + 1) = none := I.hok.fresh (Nat.le_add_right _ 1)
    have I5 : Inv X pins σ (upd H (s.heap.objs.size + 1) (.lst [])) { s with heap := hh, toks := tk } := I.laid (t' := tk) on5 (Nat.le_add_right _ 1) ⟨Nat.zero_le _, [], c, .nil, S5⟩
    have ni : s.heap.objs.size + 2 ≠ s.heap.objs.size + 1 := by omega
    refine items_loop (X := X) (pins := pins) (σ := σ) (A := X.A.in1) (kvs := kvs) (ep := ep) H rel (by simp [I.ok.hd hc]) (by rw [← rel.length, sizeLine_eq]; omega) ni (Nat.ne_of_lt (Nat.lt_of_lt_of_le lp (Nat.le_add_right _ 2))) (Nat.ne_of_lt (Nat.lt_succ_of_lt lp)) vs.length 0 _ _ [] (Nat.zero_add _) I5
      (I.fpOk (Nat.le_add_right _ 2) (by rw [upd_ne ni]; exact I.hok.fresh (Nat.le_add_right _ 2))) (fun b o n q => by rw [upd_ne n]; exact q) upd_same fr ⟨_, _, _, _, k5 _ _ ni it4, .inl rfl⟩ (dat.keep on5) rfl (fun j k v T _ e2 => by simp at e2) fun s' H' Ts' I' top hS hl laid => ?_
    exact ⟨rfl, h _ Ts' H' s' I' top fr hS (by rw [hl, rel.length]) laid⟩
  refine wpAny_ite_split (fun _ => ?_) (fun _ => wpAny_pure ⟨plainId_quiet PySem.F.plain_extend_loop _, loop h4 c3 s.toks (fun b o _ q => q) S4⟩)
  refine wpAny_bind (wpAny_rule (wpAny_bind ?_))
  show wpAny _ _ (updateSeq (s.heap.objs.size + 1) (·.push .none) >>= fun _ => updateSeq (s.heap.objs.size + 1) (·.pop)) _ _ _
  have S5 := Heap.get?_update_self (Obj.mapSeq (·.push Value.none)) S4 rfl
  refine wpAny_bind (wpAny_updateSeq (s := { s with heap := h4 }) S4 rfl (wpAny_updateSeq (hz := by seq_fits) S5 rfl (wpAny_pure ⟨plainId_quiet PySem.F.plain_extend_loop _, loop _ _ s.toks (fun b o n q => ?_) (Heap.get?_update_self (Obj.mapSeq (·.pop)) S5 rfl)⟩)))
  exact (Heap.get?_update_other _ _ (Ne.symm n)).trans ((Heap.get?_update_other _ _ (Ne.symm n)).trans q)
end
end L2
set_option maxRecDepth 100000
set_option maxHeartbeats 4000000
namespace L2
open PySem PySem.Spec PyProof.Rows
section
variable {X : Cx}
def rCatE (K : PySem.W.Frag) : R2 := fun x y H Q => ∃ a b ys, x = .ref a ∧ y = .ref b ∧ SqT K H a [] ∧ SqT K H b ys ∧ Q (.ref b) H
theorem op_catE : OpR X (binaryOp .Add) (rCatE X.K) := by
  intro pins s σ H x y v u Q I rx ry h
  obtain ⟨a, b, ys, rfl, rfl, ha, hb, q⟩ := h
  cases rx
  cases ry
  obtain ⟨its, r1, p1, _⟩ := I.tuple ha
  obtain ⟨its2, r2, p2, _⟩ := I.tuple hb
  cases r1
  obtain ⟨⟨c1, d1, da1, s1⟩, ho, hc, n, hd⟩ := id p1
  obtain ⟨⟨c2, d2, da2, s2⟩, ho2, hc2, n2, hd2⟩ := id p2
  simp only at hc hd hc2 hd2
  subst hc hd hc2 hd2
  exact concat_meets ⟨_, ho, rfl⟩ ⟨_, ho2, rfl⟩ noFill_tuple_add seq_tuple_add PySem.F.slot_tuple_add PySem.F.entry_tuple_add (PySem.F.args_tuple_add_2 _ _)
      (tuple_addW0 a b _ _ n n2 d1 d2 s1 s2 rfl) ⟨ho, ho2, ⟨.ref b, H, I, rfl, q⟩⟩
def okTs (T : String) : Bool := ["int", "bool", "str", "list", "tuple", "dict"].contains T
theorem kit_any {K : PySem.W.Frag} {t : String} (ht : t = "list" ∨ t = "tuple") : ∀ {Ts : List String}, Ts.all okTs = true → PySem.W.kitAny K (.type t) (Ts.map Value.type) = some (Ts.any fun T => T == t)
  | [], _ => rfl
  | T :: Ts, h => by
    rw [List.all_cons, Bool.and_eq_true] at h
    have hT : T = "int" ∨ T = "bool" ∨ T = "str" ∨ T = "list" ∨ T = "tuple" ∨ T = "dict" := by
      have := h.1
      unfold okTs at this
      simpa using this
    have one : PySem.W.kitOne K (.type t) (.type T) = some (T == t) := by
      rcases ht with rfl | rfl <;> rcases hT with rfl | rfl | rfl | rfl | rfl | rfl <;> rfl
    rw [List.map_cons]
    unfold PySem.W.kitAny
    rw [one, List.any_cons]
    cases (T == t) with
    | true => rfl
    | false => exact kit_any ht h.2
theorem vals_ty : ∀ {Ts : List String} {us : List Value}, Vals (Ts.map V.ty) us → us = Ts.map Value.type
  | [], _, r => by rw [List.map_nil] at r; cases r; rfl
  | T :: Ts, _, r => by
    rw [List.map_cons] at r
    cases r with
    | cons a b => rw [vals_ty b, List.map_cons, show _ = Value.type T from a]
def rIsiT (K : PySem.W.Frag) : V → V → Hp → VK → Prop := fun x y H Q => match x, y with
  | .ref a, .ref b => ∃ Ts : List String, SqT K H b (Ts.map V.ty) ∧ Ts.all okTs = true ∧ (((∃ xs, SqL K H a xs) ∧ Q (.bl (Ts.any fun T => T == "list")) H) ∨ ((∃ xs, SqT K H a xs) ∧ Q (.bl (Ts.any fun T => T == "tuple")) H))
  | _, _ => False
theorem call_isiT {pins : List (Addr × Obj)} {σ : St} {H : Hp} {s : Shared} {x y : V} {u v : Value} {Q : VK} (I : Inv X pins σ H s) (rx : RelV x u) (ry : RelV y v) (h : rIsiT X.K x y H Q) : wpAny (model X.prog X.w) X.A (call (.builtin "isinstance") [u, v]) (EP X pins σ Q) X.xe s := by
  cases x <;> cases y <;> first
    | exact (show False from h).elim
    | (cases rx; cases ry
       obtain ⟨Ts, hT, ok, h⟩ := h
       obtain ⟨its, r, p, _⟩ := I.tuple hT
       obtain ⟨⟨c1, d1, da1, s1⟩, ho, hc, n, hd⟩ := id p
       simp only at hc hd
       subst hc hd
       have e := vals_ty r
       subst e
       rcases h with ⟨⟨xs, hq⟩, q⟩ | ⟨⟨xs, hq⟩, q⟩
       · obtain ⟨_, _, ⟨o, _, h1, h2, _⟩, _⟩ := I.list hq
         exact PySem.W.kia_tup PySem.W.kitx_list I.kIn ⟨o, h1, h2⟩ ho (kit_any (.inl rfl) ok) (fun z => nomatch z) fun tk => ⟨.bl _, H, I.tok tk, rfl, q⟩
       · obtain ⟨_, _, ⟨o, h1, h2, _⟩, _⟩ := I.tuple hq
         exact PySem.W.kia_tup PySem.W.kitx_tuple I.kIn ⟨o, h1, h2⟩ ho (kit_any (.inr rfl) ok) (fun z => nomatch z) fun tk => ⟨.bl _, H, I.tok tk, rfl, q⟩)
theorem ix_dict (hu : X.A.units + 64 < cLine) : IxR X (fun x y H Q => ∃ a v, x = .ref a ∧ DGet H a y (some v) ∧ Q v H) := by
  intro value slice pins s σ H x y v u Q I rx ry h hs
  obtain ⟨a, w', rfl, g, q⟩ := h
  cases rx
  exact tail_any (dict_typeIs I g) PySem.F.slot_dict_getitem.lookup (d_getItem (by omega) I g ry fun w1 s' I' r' => ⟨w', H, I', r', q⟩) hs
end
end L2
set_option maxRecDepth 100000
set_option maxHeartbeats 4000000
namespace L2
open PySem PySem.Spec PyProof.Rows
open Sem (wp)
section
variable {M : Model} {A : Around} {E : Value → Shared → Prop} {env : Env}
variable {nm q : Str} {C N : Addr} {bs bm : List Value} {hdct : Bool} {sn : List Str} {sub : List Value} {ab : Bool} {col : Option Bool} {dd : Option Addr} {k0 k1 k2 k3 k5 : Option Value} {newId : String}
end
section
variable {X : Cx} {e : Expr} {te : TE} {pos : Pos}
def rRaise (K : PySem.W.Frag) (R : EK) : VK := fun x H => match x with
  | .ref a => ∃ C dx, H a = some (excO a C dx) ∧ ECls K C ∧ R a (upd H a (flO a C dx))
  | _ => False
theorem ps_raise {Ex : St → EK} (m : Meets X Ex) (hh : X.A.handled = none) (he : PE X e te) : PS X (.Raise (some e) none pos) (fun _ σ H => te σ H (rRaise X.K (Ex σ))) := by
  intro pins s σ H D I h
  rw [arm_exec_Raise]
  show wpAny _ _ (do standAt pos; raiseStmt X.env (some (do let v ← eval e X.env; standAt pos; pure v)) none) _ _ s
  refine wpAny_bind (wpAny_standAt ?_)
  unfold raiseStmt
  refine wpAny_bind (wpAny_bind (thn (he pins s σ H _ I h) fun v s1 ⟨x, H1, I1, r1, q1⟩ => wpAny_bind (wpAny_standAt (wpAny_pure ?_))))
  cases x with
  | ref a =>
    cases r1
    obtain ⟨C, dx, ea, c, q⟩ := q1
    obtain ⟨vs, g1, g2, g3⟩ := exc_at I1 ea
    obtain ⟨nm, qn, N, bs, bm, hdct, sn, sub, ab, col, dd, k0, k1, k2, k3, k5, hl, ht, hd⟩ := c.obj
    have hC := I1.kIn _ _ hl
    have hb : bm.contains (.type "BaseException") = true := excTail_has ht (by decide +kernel)
    have I2 : Inv X pins σ (upd H1 a (flO a C dx)) s1 := by
      have := I1.write (x := a) (e := a) (h' := s1.heap) (t' := s1.toks) (o := flO a C dx) (by rw [ea]; exact True.intro) (.inl rfl) (fun b u _ z => z) ⟨_, g1⟩ (flO_ok g1 g2)
      exact this
    have hx := m pins σ _ s1 a I2 ⟨C, dx, vs, upd_same, g1, g2, .inl g3⟩ q
    have hcB : (Value.ref C :: bm).contains (.type "BaseException") = true := by rw [List.contains_cons, hb, Bool.or_true]
    obtain ⟨hp, g, d, tk, os⟩ := s1
    repeat (first | with_reducible refine wpAny_field g1 rfl g3 ?_ | with_reducible refine wpAny_loadPart_at g1 ?_ | with_reducible refine wpAny_loadPart_at hC ?_ | (with_reducible refine wpAny_isSubtype_exc hC ?_; rw [hcB]) | wp_step)
    exact wpAny_raiseNew_none hh hx
  | _ => exact (show False from q1).elim
end
end L2
set_option maxRecDepth 100000
set_option maxHeartbeats 4000000
namespace L2
open PySem PySem.Spec PyProof.Rows
inductive Dt where
  | at_ (v : V)
  | lst (l : List Dt)
  | tup (l : List Dt)
mutual
def deq : Dt → Dt → Bool
  | .at_ v, .at_ w => eqV v w
  | .lst xs, .lst ys => deqs xs ys
  | .tup xs, .tup ys => deqs xs ys
  | _, _ => false
def deqs : List Dt → List Dt → Bool
  | [], [] => true
  | x :: xs, y :: ys => deq x y && deqs xs ys
  | _, _ => false
end
mutual
def dep : Dt → Nat
  | .at_ _ => 0
  | .lst l => deps l + 1
  | .tup l => deps l + 1
def deps : List Dt → Nat
  | [] => 0
  | x :: xs => Nat.max (dep x) (deps xs)
end
mutual
def At (K : PySem.W.Frag) (H : Hp) : Dt → V → Prop
  | .at_ v, x => x = v ∧ flatV v = true
  | .lst ds, x => ∃ a xs, x = .ref a ∧ SqL K H a xs ∧ AtL K H ds xs
  | .tup ds, x => ∃ a xs, x = .ref a ∧ SqT K H a xs ∧ AtL K H ds xs
def AtL (K : PySem.W.Frag) (H : Hp) : List Dt → List V → Prop
  | [], xs => xs = []
  | d :: ds, xs => ∃ y ys, xs = y :: ys ∧ At K H d y ∧ AtL K H ds ys
end
theorem AtL.length {K : PySem.W.Frag} {H : Hp} : ∀ {ds : List Dt} {xs : List V}, AtL K H ds xs → xs.length = ds.length
  | [], xs, h => by unfold AtL at h; subst h; rfl
  | d :: ds, xs, h => by
    unfold AtL at h
    obtain ⟨y, ys, rfl, _, h2⟩ := h
    rw [List.length_cons, List.length_cons, AtL.length h2]
theorem eqV_refl {v : V} (h : flatV v = true) : eqV v v = true := by
  cases v <;> first | rfl | (exact beq_self_eq_true _) | exact absurd (show false = true from h) Bool.false_ne_true
mutual
theorem deq_refl {K : PySem.W.Frag} {H : Hp} : ∀ {d : Dt} {x : V}, At K H d x → deq d d = true
  | .at_ v, x, h => by unfold At at h; unfold deq; exact eqV_refl h.2
  | .lst l, x, h => by unfold At at h; obtain ⟨a, xs, _, _, h⟩ := h; unfold deq; exact deqs_refl h
  | .tup l, x, h => by unfold At at h; obtain ⟨a, xs, _, _, h⟩ := h; unfold deq; exact deqs_refl h
theorem deqs_refl {K : PySem.W.Frag} {H : Hp} : ∀ {ds : List Dt} {xs : List V}, AtL K H ds xs → deqs ds ds = true
  | [], xs, h => by unfold deqs; rfl
  | d :: ds, xs, h => by
    unfold AtL at h
    obtain ⟨y, ys, rfl, h1, h2⟩ := h
    unfold deqs
    rw [deq_refl h1, deqs_refl h2]
    rfl
end
theorem deqs_len : ∀ {xs ys : List Dt}, xs.length ≠ ys.length → deqs xs ys = false
  | [], [], h => absurd rfl h
  | [], _ :: _, _ => by unfold deqs; rfl
  | _ :: _, [], _ => by unfold deqs; rfl
  | x :: xs, y :: ys, h => by
    unfold deqs
    rw [deqs_len (xs := xs) (ys := ys) (fun e => h (by rw [List.length_cons, List.length_cons, e])), Bool.and_false]
theorem deqs_range (z : Dt) : ∀ {xs ys : List Dt}, xs.length = ys.length → deqs xs ys = (List.range xs.length).all fun j => deq (xs.getD j z) (ys.getD j z)
  | [], [], _ => by unfold deqs; rfl
  | [], _ :: _, h => by simp at h
  | _ :: _, [], h => by simp at h
  | x :: xs, y :: ys, h => by
    unfold deqs
    rw [List.length_cons, List.range_succ_eq_map, List.all_cons, List.all_map, deqs_range z (xs := xs) (ys := ys) (by simpa using h)]
    rfl
section
variable {X : Cx} {pins : List (Addr × Obj)} {σ : St} {H : Hp} {s : Shared}
theorem not_both {a : Addr} {xs ys : List V} (I : Inv X pins σ H s) (h : SqL X.K H a xs) (h' : SqT X.K H a ys) : False := by
  obtain ⟨its, r, ⟨o, n, e, c, _, d⟩, _⟩ := I.list h
  obtain ⟨its', r', ⟨o', e', c', n', d'⟩, _⟩ := I.tuple h'
  rw [e] at e'; cases e'
  rw [c] at c'
  injection c' with c'
  exact absurd c' (by decide)
mutual
theorem at_inj (I : Inv X pins σ H s) : ∀ {d d' : Dt} {x : V}, At X.K H d x → At X.K H d' x → d = d'
  | .at_ v, .at_ w, x, h, h' => by unfold At at h h'; rw [← h.1, ← h'.1]
  | .at_ v, .lst l, x, h, h' => by
    unfold At at h h'
    obtain ⟨a, xs, rfl, _⟩ := h'
    rw [← h.1] at h
    exact absurd (show false = true from h.2) Bool.false_ne_true
  | .at_ v, .tup l, x, h, h' => by
    unfold At at h h'
    obtain ⟨a, xs, rfl, _⟩ := h'
    rw [← h.1] at h
    exact absurd (show false = true from h.2) Bool.false_ne_true
  | .lst l, .at_ v, x, h, h' => by
    unfold At at h h'
    obtain ⟨a, xs, rfl, _⟩ := h
    rw [← h'.1] at h'
    exact absurd (show false = true from h'.2) Bool.false_ne_true
  | .tup l, .at_ v, x, h, h' => by
    unfold At at h h'
    obtain ⟨a, xs, rfl, _⟩ := h
    rw [← h'.1] at h'
    exact absurd (show false = true from h'.2) Bool.false_ne_true
  | .lst l, .lst l', x, h, h' => by
    unfold At at h h'
    obtain ⟨a, xs, rfl, q, h⟩ := h
    obtain ⟨a', xs', e, q', h'⟩ := h'
    cases e
    rw [I.list_inj q q'] at h
    rw [atL_inj I h h']
  | .tup l, .tup l', x, h, h' => by
    unfold At at h h'
    obtain ⟨a, xs, rfl, q, h⟩ := h
    obtain ⟨a', xs', e, q', h'⟩ := h'
    cases e
    rw [I.tuple_inj q q'] at h
    rw [atL_inj I h h']
  | .lst l, .tup l', x, h, h' => by
    unfold At at h h'
    obtain ⟨a, xs, rfl, q, h⟩ := h
    obtain ⟨a', xs', e, q', h'⟩ := h'
    cases e
    exact (not_both I q q').elim
  | .tup l, .lst l', x, h, h' => by
    unfold At at h h'
    obtain ⟨a, xs, rfl, q, h⟩ := h
    obtain ⟨a', xs', e, q', h'⟩ := h'
    cases e
    exact (not_both I q' q).elim
theorem atL_inj (I : Inv X pins σ H s) : ∀ {ds ds' : List Dt} {xs : List V}, AtL X.K H ds xs → AtL X.K H ds' xs → ds = ds'
  | [], [], _, _, _ => rfl
  | [], _ :: _, _, h, h' => by unfold AtL at h h'; obtain ⟨y, ys, e, _⟩ := h'; rw [h] at e; cases e
  | _ :: _, [], _, h, h' => by unfold AtL at h h'; obtain ⟨y, ys, e, _⟩ := h; rw [h'] at e; cases e
  | d :: ds, d' :: ds', xs, h, h' => by
    unfold AtL at h h'
    obtain ⟨y, ys, rfl, h1, h2⟩ := h
    obtain ⟨y', ys', e, h1', h2'⟩ := h'
    cases e
    rw [at_inj I h1 h1', atL_inj I h2 h2']
end
theorem flat_list {A : Around} {v : V} {u : Value} {a : Addr} {its : Array Value} (f : flatV v = true) (r : RelV v u) (hl : s.heap.IsList a its) (hu : A.units < cLine) : SeqAt.EqAt A s u (.ref a) false ∧ SeqAt.EqAt A s (.ref a) u false := by
  cases v with
  | non => cases r; exact ⟨.none_list hl hu, .list_none hl hu⟩
  | bl b => cases r; exact ⟨.bool_list b hl hu, .list_bool b hl hu⟩
  | int i => obtain ⟨t, rfl⟩ := r; exact ⟨.int_list i t hl hu, .list_int i t hl hu⟩
  | str i => obtain ⟨t, rfl⟩ := r; exact ⟨.str_list i t hl hu, .list_str i t hl hu⟩
  | _ => exact absurd (show false = true from f) Bool.false_ne_true
theorem flat_tuple {A : Around} {v : V} {u : Value} {a : Addr} {its : Array Value} (f : flatV v = true) (r : RelV v u) (hl : s.heap.IsTuple a its) (hu : A.units < cLine) : SeqAt.EqAt A s u (.ref a) false ∧ SeqAt.EqAt A s (.ref a) u false := by
  cases v with
  | non => cases r; exact ⟨.none_tuple hl hu, .tuple_none hl hu⟩
  | bl b => cases r; exact ⟨.bool_tuple b hl hu, .tuple_bool b hl hu⟩
  | int i => obtain ⟨t, rfl⟩ := r; exact ⟨.int_tuple i t hl hu, .tuple_int i t hl hu⟩
  | str i => obtain ⟨t, rfl⟩ := r; exact ⟨.str_tuple i t hl hu, .tuple_str i t hl hu⟩
  | _ => exact absurd (show false = true from f) Bool.false_ne_true
mutual
theorem eqAt_D (I : Inv X pins σ H s) : ∀ (d d' : Dt) (A : Around) (x y : V) (u v : Value), At X.K H d x → At X.K H d' y → RelV x u → RelV y v → A.units + dep d < cLine → SeqAt.EqAt A s u v (deq d d')
  | .at_ p, .at_ q, A, x, y, u, v, h, h', r, r', hu => by
    unfold At at h h'; unfold deq
    obtain ⟨rfl, f⟩ := h
    obtain ⟨rfl, f'⟩ := h'
    exact eqAt_V r r' f f'
  | .at_ p, .lst l, A, x, y, u, v, h, h', r, r', hu => by
    unfold At at h h'; unfold deq
    obtain ⟨rfl, f⟩ := h
    obtain ⟨a, xs, rfl, q, _⟩ := h'
    obtain ⟨its, _, pl, _⟩ := I.list q
    cases r'
    exact (flat_list f r pl.isList (by omega)).1
  | .at_ p, .tup l, A, x, y, u, v, h, h', r, r', hu => by
    unfold At at h h'; unfold deq
    obtain ⟨rfl, f⟩ := h
    obtain ⟨a, xs, rfl, q, _⟩ := h'
    obtain ⟨its, _, pl, _⟩ := I.tuple q
    cases r'
    exact (flat_tuple f r pl (by omega)).1
  | .lst l, .at_ p, A, x, y, u, v, h, h', r, r', hu => by
    unfold At at h h'; unfold deq
    obtain ⟨rfl, f⟩ := h'
    obtain ⟨a, xs, rfl, q, _⟩ := h
    obtain ⟨its, _, pl, _⟩ := I.list q
    cases r
    exact (flat_list f r' pl.isList (by omega)).2
  | .tup l, .at_ p, A, x, y, u, v, h, h', r, r', hu => by
    unfold At at h h'; unfold deq
    obtain ⟨rfl, f⟩ := h'
    obtain ⟨a, xs, rfl, q, _⟩ := h
    obtain ⟨its, _, pl, _⟩ := I.tuple q
    cases r
    exact (flat_tuple f r' pl (by omega)).2
  | .lst l, .tup l', A, x, y, u, v, h, h', r, r', hu => by
    unfold At at h h'; unfold deq
    obtain ⟨a, xs, rfl, q, _⟩ := h
    obtain ⟨b, ys, rfl, q', _⟩ := h'
    obtain ⟨its, _, pl, _⟩ := I.list q
    obtain ⟨its', _, pl', _⟩ := I.tuple q'
    cases r; cases r'
    exact .list_tuple pl.isList pl' (by omega)
  | .tup l, .lst l', A, x, y, u, v, h, h', r, r', hu => by
    unfold At at h h'; unfold deq
    obtain ⟨a, xs, rfl, q, _⟩ := h
    obtain ⟨b, ys, rfl, q', _⟩ := h'
    obtain ⟨its, _, pl, _⟩ := I.tuple q
    obtain ⟨its', _, pl', _⟩ := I.list q'
    cases r; cases r'
    exact .tuple_list pl pl'.isList (by omega)
  | .lst l, .lst l', A, x, y, u, v, h, h', r, r', hu => by
    by_cases e : x = y
    · subst e
      have := at_inj I h h'
      rw [← this, deq_refl h]
      have hx : ∃ a, x = .ref a := by unfold At at h; obtain ⟨a, _, e, _⟩ := h; exact ⟨a, e⟩
      obtain ⟨a, rfl⟩ := hx
      cases r; cases r'
      exact .same _
    · unfold At at h h'; unfold deq
      unfold dep at hu
      obtain ⟨a, xs, rfl, q, h⟩ := h
      obtain ⟨b, ys, rfl, q', h'⟩ := h'
      obtain ⟨its, ri, pl, _⟩ := I.list q
      obtain ⟨its', ri', pl', _⟩ := I.list q'
      cases r; cases r'
      have ne : a ≠ b := fun z => e (by rw [z])
      have e1 := h.length
      have e2 := h'.length
      have e3 := ri.length
      have e4 := ri'.length
      refine .of_refs ne ?_
      by_cases hl : l.length = l'.length
      · rw [deqs_range (.lst []) hl]
        have hsz : its.toArray.size = l.length := by simp; omega
        rw [← hsz]
        exact .lists pl.isList pl'.isList (by simp; omega) (by omega) fun j h1 h2 => by
          have := eqAts_D I l l' A.in1 xs ys its its' h h' ri ri' (by show A.units + 1 + deps l < cLine; omega) j (by simpa using h1) (by simpa using h2)
          simpa using this
      · rw [deqs_len hl]
        exact .lists_lengths pl.isList pl'.isList (by simp; omega) (by omega)
  | .tup l, .tup l', A, x, y, u, v, h, h', r, r', hu => by
    by_cases e : x = y
    · subst e
      have := at_inj I h h'
      rw [← this, deq_refl h]
      have hx : ∃ a, x = .ref a := by unfold At at h; obtain ⟨a, _, e, _⟩ := h; exact ⟨a, e⟩
      obtain ⟨a, rfl⟩ := hx
      cases r; cases r'
      exact .same _
    · unfold At at h h'; unfold deq
      unfold dep at hu
      obtain ⟨a, xs, rfl, q, h⟩ := h
      obtain ⟨b, ys, rfl, q', h'⟩ := h'
      obtain ⟨its, ri, pl, _⟩ := I.tuple q
      obtain ⟨its', ri', pl', _⟩ := I.tuple q'
      cases r; cases r'
      have ne : a ≠ b := fun z => e (by rw [z])
      have e1 := h.length
      have e2 := h'.length
      have e3 := ri.length
      have e4 := ri'.length
      refine .of_refs ne ?_
      have T := SeqAt.RcAt.tuples (A := A) (s := s) (e := fun j => deq (l.getD j (.lst [])) (l'.getD j (.lst []))) pl pl' (by omega) fun j h1 h2 => by
          have := eqAts_D I l l' A.in1 xs ys its its' h h' ri ri' (by show A.units + 1 + deps l < cLine; omega) j (by simpa using h1) (by simpa using h2)
          simpa using this
      by_cases hl : l.length = l'.length
      · rw [deqs_range (.lst []) hl]
        have hsz : its.toArray.size = l.length := by simp; omega
        have hsz' : its'.toArray.size = l.length := by simp; omega
        rw [hsz, hsz', Nat.min_self, beq_self_eq_true, Bool.and_true] at T
        exact T
      · rw [deqs_len hl]
        have hne : (its.toArray.size == its'.toArray.size) = false := by
          rw [beq_eq_false_iff_ne]; simp; omega
        rw [hne, Bool.and_false] at T
        exact T
theorem eqAts_D (I : Inv X pins σ H s) : ∀ (ds ds' : List Dt) (A : Around) (xs ys : List V) (us vs : List Value), AtL X.K H ds xs → AtL X.K H ds' ys → Vals xs us → Vals ys vs → A.units + deps ds < cLine →
    ∀ (j : Nat) (h1 : j < us.length) (h2 : j < vs.length), SeqAt.EqAt A s us[j] vs[j] (deq (ds.getD j (.lst [])) (ds'.getD j (.lst [])))
  | [], _, A, xs, ys, us, vs, h, h', r, r', hu => fun j h1 h2 => by
    unfold AtL at h
    subst h
    cases r
    cases h1
  | _ :: _, [], A, xs, ys, us, vs, h, h', r, r', hu => fun j h1 h2 => by
    unfold AtL at h'
    subst h'
    cases r'
    cases h2
  | d :: ds, d' :: ds', A, xs, ys, us, vs, h, h', r, r', hu => fun j h1 h2 => by
    unfold AtL at h h'
    obtain ⟨y, ys, rfl, q1, q2⟩ := h
    obtain ⟨z, zs, rfl, q1', q2'⟩ := h'
    cases r with
    | cons r1 r2 =>
      cases r' with
      | cons r1' r2' =>
        unfold deps at hu
        have m1 : dep d ≤ Nat.max (dep d) (deps ds) := Nat.le_max_left _ _
        have m2 : deps ds ≤ Nat.max (dep d) (deps ds) := Nat.le_max_right _ _
        cases j with
        | zero => exact eqAt_D I d d' A _ _ _ _ q1 q1' r1 r1' (by omega)
        | succ j => exact eqAts_D I ds ds' A _ _ _ _ q2 q2' r2 r2' (by omega) j (by simpa using h1) (by simpa using h2)
end
theorem isRef_D {K : PySem.W.Frag} {d : Dt} {a : Addr} (h : At K H d (.ref a)) : (∃ l xs, d = .lst l ∧ SqL K H a xs ∧ AtL K H l xs) ∨ (∃ l xs, d = .tup l ∧ SqT K H a xs ∧ AtL K H l xs) := by
  cases d with
  | at_ v =>
    unfold At at h
    rw [← h.1] at h
    exact absurd (show false = true from h.2) Bool.false_ne_true
  | lst l => unfold At at h; obtain ⟨b, xs, e, q, h⟩ := h; cases e; exact .inl ⟨l, xs, rfl, q, h⟩
  | tup l => unfold At at h; obtain ⟨b, xs, e, q, h⟩ := h; cases e; exact .inr ⟨l, xs, rfl, q, h⟩
theorem notRef_D {K : PySem.W.Frag} {d : Dt} {x : V} (h : At K H d x) (f : ∀ a, x ≠ .ref a) : d = .at_ x ∧ flatV x = true := by
  cases d with
  | at_ v => unfold At at h; rw [h.1]; exact ⟨rfl, h.2⟩
  | lst l => unfold At at h; obtain ⟨b, xs, e, _⟩ := h; exact absurd e (f b)
  | tup l => unfold At at h; obtain ⟨b, xs, e, _⟩ := h; exact absurd e (f b)
theorem rc_D (I : Inv X pins σ H s) {A : Around} {d d' : Dt} {a b : Addr} (h : At X.K H d (.ref a)) (h' : At X.K H d' (.ref b)) (hu : A.units + dep d < cLine) : SeqAt.RcAt A s (.ref a) (.ref b) (deq d d') ∧ SeqAt.RcNeAt A s (.ref a) (.ref b) (!deq d d') := by
  rcases isRef_D h with ⟨l, xs, rfl, q, h⟩ | ⟨l, xs, rfl, q, h⟩
  · rcases isRef_D h' with ⟨l', ys, rfl, q', h'⟩ | ⟨l', ys, rfl, q', h'⟩
    · unfold deq
      unfold dep at hu
      obtain ⟨its, ri, pl, _⟩ := I.list q
      obtain ⟨its', ri', pl', _⟩ := I.list q'
      have e1 := h.length
      have e2 := h'.length
      have e3 := ri.length
      have e4 := ri'.length
      have it : ∀ j (h1 : j < its.toArray.size) (h2 : j < its'.toArray.size), SeqAt.EqAt A.in1 s its.toArray[j] its'.toArray[j] (deq (l.getD j (.lst [])) (l'.getD j (.lst []))) := fun j h1 h2 => by
        have := eqAts_D I l l' A.in1 xs ys its its' h h' ri ri' (by show A.units + 1 + deps l < cLine; omega) j (by simpa using h1) (by simpa using h2)
        simpa using this
      by_cases hl : l.length = l'.length
      · rw [deqs_range (.lst []) hl]
        have hsz : its.toArray.size = l.length := by simp; omega
        rw [← hsz]
        exact ⟨.lists pl.isList pl'.isList (by simp; omega) (by omega) it, .lists pl.isList pl'.isList (by simp; omega) (by omega) it⟩
      · rw [deqs_len hl]
        exact ⟨.lists_lengths pl.isList pl'.isList (by simp; omega) (by omega), .lists_lengths pl.isList pl'.isList (by simp; omega) (by omega)⟩
    · unfold deq
      obtain ⟨its, ri, pl, _⟩ := I.list q
      obtain ⟨its', ri', pl', _⟩ := I.tuple q'
      exact ⟨.list_tuple pl.isList pl' (by omega), .list_tuple pl.isList pl' (by omega)⟩
  · rcases isRef_D h' with ⟨l', ys, rfl, q', h'⟩ | ⟨l', ys, rfl, q', h'⟩
    · unfold deq
      obtain ⟨its, ri, pl, _⟩ := I.tuple q
      obtain ⟨its', ri', pl', _⟩ := I.list q'
      exact ⟨.tuple_list pl pl'.isList (by omega), .tuple_list pl pl'.isList (by omega)⟩
    · unfold deq
      unfold dep at hu
      obtain ⟨its, ri, pl, _⟩ := I.tuple q
      obtain ⟨its', ri', pl', _⟩ := I.tuple q'
      have e1 := h.length
      have e2 := h'.length
      have e3 := ri.length
      have e4 := ri'.length
      have it : ∀ j (h1 : j < its.toArray.size) (h2 : j < its'.toArray.size), SeqAt.EqAt A.in1 s its.toArray[j] its'.toArray[j] (deq (l.getD j (.lst [])) (l'.getD j (.lst []))) := fun j h1 h2 => by
        have := eqAts_D I l l' A.in1 xs ys its its' h h' ri ri' (by show A.units + 1 + deps l < cLine; omega) j (by simpa using h1) (by simpa using h2)
        simpa using this
      have T := SeqAt.RcAt.tuples pl pl' (by omega) it
      have T' := SeqAt.RcNeAt.tuples pl pl' (by omega) it
      by_cases hl : l.length = l'.length
      · rw [deqs_range (.lst []) hl]
        have hsz : its.toArray.size = l.length := by simp; omega
        have hsz' : its'.toArray.size = l.length := by simp; omega
        rw [hsz, hsz', Nat.min_self, beq_self_eq_true, Bool.and_true] at T T'
        exact ⟨T, T'⟩
      · rw [deqs_len hl]
        have hne : (its.toArray.size == its'.toArray.size) = false := by
          rw [beq_eq_false_iff_ne]; simp; omega
        rw [hne, Bool.and_false] at T T'
        exact ⟨T, T'⟩
theorem rc_flat (I : Inv X pins σ H s) {A : Around} {d : Dt} {a : Addr} {v : V} {u : Value} (h : At X.K H d (.ref a)) (f : flatV v = true) (r : RelV v u) (hu : A.units < cLine) :
    SeqAt.RcAt A s (.ref a) u false ∧ SeqAt.RcNeAt A s (.ref a) u true ∧ SeqAt.RcAt A s u (.ref a) false ∧ SeqAt.RcNeAt A s u (.ref a) true := by
  rcases isRef_D h with ⟨l, xs, rfl, q, h⟩ | ⟨l, xs, rfl, q, h⟩
  · obtain ⟨its, ri, pl, _⟩ := I.list q
    cases v with
    | non => cases r; exact ⟨.list_none pl.isList hu, .list_none pl.isList hu, .none_list pl.isList hu, .none_list pl.isList hu⟩
    | bl b => cases r; exact ⟨.list_bool b pl.isList hu, .list_bool b pl.isList hu, .bool_list b pl.isList hu, .bool_list b pl.isList hu⟩
    | int b => obtain ⟨t, rfl⟩ := r; exact ⟨.list_int b t pl.isList hu, .list_int b t pl.isList hu, .int_list b t pl.isList hu, .int_list b t pl.isList hu⟩
    | str b => obtain ⟨t, rfl⟩ := r; exact ⟨.list_str b t pl.isList hu, .list_str b t pl.isList hu, .str_list b t pl.isList hu, .str_list b t pl.isList hu⟩
    | _ => exact absurd (show false = true from f) Bool.false_ne_true
  · obtain ⟨its, ri, pl, _⟩ := I.tuple q
    cases v with
    | non => cases r; exact ⟨.tuple_none pl hu, .tuple_none pl hu, .none_tuple pl hu, .none_tuple pl hu⟩
    | bl b => cases r; exact ⟨.tuple_bool b pl hu, .tuple_bool b pl hu, .bool_tuple b pl hu, .bool_tuple b pl hu⟩
    | int b => obtain ⟨t, rfl⟩ := r; exact ⟨.tuple_int b t pl hu, .tuple_int b t pl hu, .int_tuple b t pl hu, .int_tuple b t pl hu⟩
    | str b => obtain ⟨t, rfl⟩ := r; exact ⟨.tuple_str b t pl hu, .tuple_str b t pl hu, .str_tuple b t pl hu, .str_tuple b t pl hu⟩
    | _ => exact absurd (show false = true from f) Bool.false_ne_true
def rEqT (K : PySem.W.Frag) (neg : Bool) : R2 := fun x y H Q => ∃ d d', At K H d x ∧ At K H d' y ∧ dep d ≤ 40 ∧ Q (.bl (if neg then !deq d d' else deq d d')) H
theorem rc_any (I : Inv X pins σ H s) {A : Around} {d d' : Dt} {x y : V} {u v : Value} (h : At X.K H d x) (h' : At X.K H d' y) (r : RelV x u) (r' : RelV y v) (hr : (∃ a, x = .ref a) ∨ ∃ b, y = .ref b) (hu : A.units + dep d < cLine) :
    SeqAt.RcAt A s u v (deq d d') ∧ SeqAt.RcNeAt A s u v (!deq d d') := by
  by_cases hx : ∃ a, x = .ref a
  · obtain ⟨a, rfl⟩ := hx
    cases r
    by_cases hy : ∃ b, y = .ref b
    · obtain ⟨b, rfl⟩ := hy
      cases r'
      exact rc_D I h h' hu
    · obtain ⟨rfl, f⟩ := notRef_D h' (fun b e => hy ⟨b, e⟩)
      obtain ⟨q1, q2, _⟩ := rc_flat I h f r' (show A.units < cLine by omega)
      have e : deq d (.at_ y) = false := by
        rcases isRef_D h with ⟨l, xs, rfl, _⟩ | ⟨l, xs, rfl, _⟩ <;> (unfold deq; rfl)
      rw [e]
      exact ⟨q1, q2⟩
  · have hy : ∃ b, y = .ref b := hr.resolve_left hx
    obtain ⟨b, rfl⟩ := hy
    cases r'
    obtain ⟨rfl, f⟩ := notRef_D h (fun b e => hx ⟨b, e⟩)
    obtain ⟨_, _, q1, q2⟩ := rc_flat I h' f r (show A.units < cLine by omega)
    have e : deq (.at_ x) d' = false := by
      rcases isRef_D h' with ⟨l, xs, rfl, _⟩ | ⟨l, xs, rfl, _⟩ <;> (unfold deq; rfl)
    rw [e]
    exact ⟨q1, q2⟩
theorem op_eqT (hu : X.A.units + 64 < cLine) {x y : V} {u v : Value} {Q : VK} (I : Inv X pins σ H s) (rx : RelV x u) (ry : RelV y v) (hr : (∃ a, x = .ref a) ∨ ∃ b, y = .ref b) (h : rEqT X.K false x y H Q) : wpAny (model X.prog X.w) X.A (compareOp .Eq u v) (EP X pins σ Q) X.xe s := by
  obtain ⟨d, d', h1, h2, hd, q⟩ := h
  exact (rc_any I h1 h2 rx ry hr (A := X.A) (by omega)).1 _ _ _ _ ⟨.bl _, H, I, rfl, q⟩
theorem op_neT (hu : X.A.units + 64 < cLine) {x y : V} {u v : Value} {Q : VK} (I : Inv X pins σ H s) (rx : RelV x u) (ry : RelV y v) (hr : (∃ a, x = .ref a) ∨ ∃ b, y = .ref b) (h : rEqT X.K true x y H Q) : wpAny (model X.prog X.w) X.A (compareOp .NotEq u v) (EP X pins σ Q) X.xe s := by
  obtain ⟨d, d', h1, h2, hd, q⟩ := h
  exact (rc_any I h1 h2 rx ry hr (A := X.A) (by omega)).2 _ _ _ _ ⟨.bl _, H, I, rfl, q⟩
end
end L2
set_option maxRecDepth 100000
set_option maxHeartbeats 4000000
namespace L2
open PySem PySem.Spec PyProof.Rows
def rNo : R2 := fun _ _ _ _ => False
def rAddD (K : PySem.W.Frag) : R2 := fun x y H Q => match x, y with
  | .int i, .int j => Q (.int (i + j)) H
  | .str a, .str b => a.length + b.length ≤ sizeLine ∧ Q (.str (a ++ b)) H
  | .ref a, .ref b => rCat (.ref a) (.ref b) H Q ∨ rCatT K (.ref a) (.ref b) H Q ∨ rCatE K (.ref a) (.ref b) H Q
  | _, _ => False
def rSubD : R2 := fun x y H Q => match x, y with
  | .int i, .int j => Q (.int (i - j)) H
  | _, _ => False
def rMulD : R2 := fun x y H Q => match x, y with
  | .int i, .int j => CMul i j ∧ Q (.int (i * j)) H
  | _, _ => False
def rFdivD : R2 := fun x y H Q => match x, y with
  | .int i, .int j => CDiv i j ∧ Q (.int (i / j)) H
  | _, _ => False
def rModD : R2 := fun x y H Q => match x, y with
  | .int i, .int j => 0 < j ∧ Q (.int (i % j)) H
  | _, _ => False
def rPowD : R2 := fun x y H Q => match x, y with
  | .int i, .int j => CPow i j ∧ Q (.int (i ^ j.toNat)) H
  | _, _ => False
def rShlD : R2 := fun x y H Q => match x, y with
  | .int i, .int j => CPow i j ∧ Q (.int (i * 2 ^ j.toNat)) H
  | _, _ => False
def rShrD : R2 := fun x y H Q => match x, y with
  | .int i, .int j => 0 ≤ j ∧ Q (.int (i / 2 ^ j.toNat)) H
  | _, _ => False
def rAndD : R2 := fun x y H Q => match x, y with
  | .int i, .int j => Q (.int (Builtin.bitAnd i j)) H
  | _, _ => False
def rOrD : R2 := fun x y H Q => match x, y with
  | .int i, .int j => Q (.int (Builtin.bitOr i j)) H
  | _, _ => False
def rXorD : R2 := fun x y H Q => match x, y with
  | _, _ => False
def rOp (K : PySem.W.Frag) : Operator → R2
  | .Add => rAddD K
  | .Sub => rSubD
  | .Mult => rMulD
  | .FloorDiv => rFdivD
  | .Mod => rModD
  | .Pow => rPowD
  | .LShift => rShlD
  | .RShift => rShrD
  | .BitAnd => rAndD
  | .BitOr => rOrD
  | .BitXor => rXorD
  | _ => rNo
section
variable {X : Cx}
theorem op_D (op : Operator) : OpR X (binaryOp op) (rOp X.K op) := by
  intro pins s σ H x y v u Q I rx ry h
  cases op with
  | Add =>
    cases x <;> cases y <;> first
      | exact (show False from h).elim
      | exact op_add pins s σ H _ _ v u Q I rx ry ⟨_, _, rfl, rfl, h⟩
      | exact op_add_str pins s σ H _ _ v u Q I rx ry ⟨_, _, rfl, rfl, h⟩
      | exact (op_cat.or (op_catT.or op_catE)) pins s σ H _ _ v u Q I rx ry h
  | Sub => cases x <;> cases y <;> first | exact (show False from h).elim | exact op_sub pins s σ H _ _ v u Q I rx ry ⟨_, _, rfl, rfl, h⟩
  | Mult => cases x <;> cases y <;> first | exact (show False from h).elim | exact op_mul pins s σ H _ _ v u Q I rx ry ⟨_, _, rfl, rfl, h⟩
  | FloorDiv => cases x <;> cases y <;> first | exact (show False from h).elim | exact op_fdiv pins s σ H _ _ v u Q I rx ry ⟨_, _, rfl, rfl, h⟩
  | Mod => cases x <;> cases y <;> first | exact (show False from h).elim | exact op_mod pins s σ H _ _ v u Q I rx ry ⟨_, _, rfl, rfl, h⟩
  | Pow => cases x <;> cases y <;> first | exact (show False from h).elim | exact op_pow pins s σ H _ _ v u Q I rx ry ⟨_, _, rfl, rfl, h⟩
  | LShift => cases x <;> cases y <;> first | exact (show False from h).elim | exact op_shl pins s σ H _ _ v u Q I rx ry ⟨_, _, rfl, rfl, h⟩
  | RShift => cases x <;> cases y <;> first | exact (show False from h).elim | exact op_shr pins s σ H _ _ v u Q I rx ry ⟨_, _, rfl, rfl, h⟩
  | BitAnd => cases x <;> cases y <;> first | exact (show False from h).elim | exact op_and pins s σ H _ _ v u Q I rx ry ⟨_, _, rfl, rfl, h⟩
  | BitOr => cases x <;> cases y <;> first | exact (show False from h).elim | exact op_or pins s σ H _ _ v u Q I rx ry ⟨_, _, rfl, rfl, h⟩
  | BitXor => exact (show False from h).elim
  | _ => exact (show False from h).elim
end
def rEqD (K : PySem.W.Frag) (neg : Bool) : R2 := fun x y H Q => match x, y with
  | .ref a, .ref b => rEqL K neg (.ref a) (.ref b) H Q ∨ rEqT K neg (.ref a) (.ref b) H Q
  | .ref a, y => rEqT K neg (.ref a) y H Q
  | x, .ref b => rEqT K neg x (.ref b) H Q
  | .int i, .int j => Q (.bl (if neg then !decide (i = j) else decide (i = j))) H
  | .str i, .str j => Q (.bl (if neg then !decide (i = j) else decide (i = j))) H
  | .bl i, .bl j => Q (.bl (if neg then !(i == j) else (i == j))) H
  | x, y => scal x y = true ∧ Q (.bl (if neg then !decide (x = y) else decide (x = y))) H
def rLtD : R2 := fun x y H Q => match x, y with
  | .int i, .int j => Q (.bl (decide (i < j))) H
  | .str i, .str j => Q (.bl (decide (i.cps.toList < j.cps.toList))) H
  | _, _ => False
def rLeD : R2 := fun x y H Q => match x, y with
  | .int i, .int j => Q (.bl (decide (i ≤ j))) H
  | .str i, .str j => Q (.bl (!decide (j.cps.toList < i.cps.toList))) H
  | _, _ => False
def rGtD : R2 := fun x y H Q => match x, y with
  | .int i, .int j => Q (.bl (decide (j < i))) H
  | _, _ => False
def rGeD : R2 := fun x y H Q => match x, y with
  | .int i, .int j => Q (.bl (decide (j ≤ i))) H
  | _, _ => False
def rInD (K : PySem.W.Frag) (neg : Bool) : R2 := fun x y H Q => match x, y with
  | x, .ref p => rIn K neg x (.ref p) H Q ∨ ∃ o, DGet H p x o ∧ Q (.bl (if neg then !o.isSome else o.isSome)) H
  | _, _ => False
def rIsD (neg : Bool) : R2 := fun x y H Q => match y with
  | .non => Q (.bl (if neg then !decide (x = .non) else decide (x = .non))) H
  | .bl d => (match x with
    | .bl c => Q (.bl (if neg then !(c == d) else (c == d))) H
    | _ => False)
  | _ => False
def rCmp (K : PySem.W.Frag) : CmpOp → R2
  | .Eq => rEqD K false
  | .NotEq => rEqD K true
  | .Lt => rLtD
  | .LtE => rLeD
  | .Gt => rGtD
  | .GtE => rGeD
  | .In => rInD K false
  | .NotIn => rInD K true
  | .Is => rIsD false
  | .IsNot => rIsD true
section
variable {X : Cx}
theorem cmp_D (hu : X.A.units + 64 < cLine) (op : CmpOp) : OpR X (compareOp op) (rCmp X.K op) := by
  intro pins s σ H x y v u Q I rx ry h
  cases op with
  | Eq =>
    cases x <;> cases y <;> first
      | (rcases h with h | h
         · exact op_eqL (by omega) pins s σ H _ _ v u Q I rx ry h
         · exact op_eqT hu I rx ry (.inl ⟨_, rfl⟩) h)
      | exact op_eqT hu I rx ry (.inl ⟨_, rfl⟩) h
      | exact op_eqT hu I rx ry (.inr ⟨_, rfl⟩) h
      | exact op_eq pins s σ H _ _ v u Q I rx ry h
      | exact op_eq pins s σ H _ _ v u Q I rx ry ⟨rfl, by rw [dec_int, Bool.beq_eq_decide_eq]; exact h⟩
      | exact op_eq pins s σ H _ _ v u Q I rx ry ⟨rfl, by rw [dec_str, Bool.beq_eq_decide_eq]; exact h⟩
      | exact op_eq pins s σ H _ _ v u Q I rx ry ⟨rfl, by rw [dec_bl]; exact h⟩
  | NotEq =>
    cases x <;> cases y <;> first
      | (rcases h with h | h
         · exact op_neL (by omega) pins s σ H _ _ v u Q I rx ry h
         · exact op_neT hu I rx ry (.inl ⟨_, rfl⟩) h)
      | exact op_neT hu I rx ry (.inl ⟨_, rfl⟩) h
      | exact op_neT hu I rx ry (.inr ⟨_, rfl⟩) h
      | exact op_ne pins s σ H _ _ v u Q I rx ry h
      | exact op_ne pins s σ H _ _ v u Q I rx ry ⟨rfl, by rw [dec_int, Bool.beq_eq_decide_eq]; exact h⟩
      | exact op_ne pins s σ H _ _ v u Q I rx ry ⟨rfl, by rw [dec_str, Bool.beq_eq_decide_eq]; exact h⟩
      | exact op_ne pins s σ H _ _ v u Q I rx ry ⟨rfl, by rw [dec_bl]; exact h⟩
  | Lt => cases x <;> cases y <;> first | exact (show False from h).elim | exact op_lt pins s σ H _ _ v u Q I rx ry ⟨_, _, rfl, rfl, h⟩ | exact op_lt_str pins s σ H _ _ v u Q I rx ry ⟨_, _, rfl, rfl, h⟩
  | LtE => cases x <;> cases y <;> first | exact (show False from h).elim | exact op_le pins s σ H _ _ v u Q I rx ry ⟨_, _, rfl, rfl, h⟩ | exact op_le_str pins s σ H _ _ v u Q I rx ry ⟨_, _, rfl, rfl, h⟩
  | Gt => cases x <;> cases y <;> first | exact (show False from h).elim | exact op_gt pins s σ H _ _ v u Q I rx ry ⟨_, _, rfl, rfl, h⟩
  | GtE => cases x <;> cases y <;> first | exact (show False from h).elim | exact op_ge pins s σ H _ _ v u Q I rx ry ⟨_, _, rfl, rfl, h⟩
  | In => cases x <;> cases y <;> first | exact (show False from h).elim | exact h.elim (op_in_seq pins s σ H _ _ v u Q I rx ry) fun ⟨o, g, q⟩ => by cases ry; exact d_in (by omega) I g rx fun s' I' => ⟨.bl _, H, I', rfl, q⟩
  | NotIn => cases x <;> cases y <;> first | exact (show False from h).elim | exact h.elim (op_notIn_seq pins s σ H _ _ v u Q I rx ry) fun ⟨o, g, q⟩ => by cases ry; exact d_notIn (by omega) I g rx fun s' I' => ⟨.bl _, H, I', rfl, q⟩
  | Is => cases y <;> first | exact (show False from h).elim | exact op_isN pins s σ H _ _ v u Q I rx ry ⟨rfl, h⟩ | (cases x <;> first | exact (show False from h).elim | (cases rx; cases ry; exact is_bool ⟨.bl _, H, I, rfl, h⟩))
  | IsNot => cases y <;> first | exact (show False from h).elim | exact op_notN pins s σ H _ _ v u Q I rx ry ⟨rfl, h⟩ | (cases x <;> first | exact (show False from h).elim | (cases rx; cases ry; exact isnot_bool ⟨.bl _, H, I, rfl, h⟩))
end
def rNegD : V → Hp → VK → Prop := fun x H Q => match x with
  | .int i => Q (.int (-i)) H
  | _ => False
theorem un_D {X : Cx} : UnR X (unaryOp .USub) rNegD := by
  intro pins s σ H x v Q I rx h
  cases x <;> first | exact (show False from h).elim | exact un_neg pins s σ H _ v Q I rx ⟨_, rfl, h⟩
def rInvD : V → Hp → VK → Prop := fun x H Q => match x with
  | .int i => Q (.int (Builtin.bitNot i)) H
  | _ => False
theorem inv_D {X : Cx} : UnR X (unaryOp .Invert) rInvD := by
  intro pins s σ H x v Q I rx h
  cases x <;> first | exact (show False from h).elim | exact un_inv pins s σ H _ v Q I rx ⟨_, rfl, h⟩
theorem tru_D {X : Cx} : TruR X (truD X.K) := by
  intro pins s σ H x v Q I rx h
  cases x with
  | non => exact tru_ok pins s σ H _ v Q I rx ⟨_, rfl, h⟩
  | bl b => exact tru_ok pins s σ H _ v Q I rx ⟨_, rfl, h⟩
  | int i => exact tru_ok pins s σ H _ v Q I rx ⟨_, rfl, h⟩
  | str y => exact tru_ok pins s σ H _ v Q I rx ⟨_, ⟨h.1, rfl⟩, h.2⟩
  | ref p => exact tru_ok pins s σ H _ v Q I rx h
  | _ => exact (show False from h).elim
def rIxD (K : PySem.W.Frag) : R2 := fun x y H Q => match x, y with
  | .str z, .int i => z.length ≤ sizeLine ∧ ∃ c, atI z.cps.toList i = some c ∧ Q (.str ⟨#[c]⟩) H
  | .ref p, .int i => ∃ xs v, (SqL K H p xs ∨ SqT K H p xs) ∧ atI xs i = some v ∧ Q v H
  | .ref p, .str k => ∃ v, DGet H p (.str k) (some v) ∧ Q v H
  | .ref p, .ref b => ∃ v, DGet H p (.ref b) (some v) ∧ Q v H
  | _, _ => False
theorem ix_D {X : Cx} (hu : X.A.units + 64 < cLine) : IxR X (rIxD X.K) := by
  intro value slice pins s σ H x y v u Q I rx ry h hs
  cases x <;> cases y <;> first
    | exact (show False from h).elim
    | (obtain ⟨h1, c, h2, h3⟩ := h; exact ix_str value slice pins s σ H _ _ v u Q I rx ry ⟨_, _, c, rfl, rfl, h1, h2, h3⟩ hs)
    | (obtain ⟨xs, w, h1 | h1, h2, h3⟩ := h
       · exact ix_list value slice pins s σ H _ _ v u Q I rx ry ⟨_, _, _, _, rfl, rfl, h1, h2, h3⟩ hs
       · exact ix_tup value slice pins s σ H _ _ v u Q I rx ry ⟨_, _, _, _, rfl, rfl, h1, h2, h3⟩ hs)
    | (obtain ⟨w, h1, h2⟩ := h; exact ix_dict hu value slice pins s σ H _ _ v u Q I rx ry ⟨_, w, rfl, h1, h2⟩ hs)
def rStoD : V → V → V → Hp → (Hp → Prop) → Prop := fun o i v H N => match o, i with
  | .ref p, .int k => (∃ xs j, H p = some (.lst xs) ∧ ixN xs.length k = some j ∧ N (upd H p (.lst (xs.set j v)))) ∨ ∃ H', DPut H p (.int k) v H' ∧ N H'
  | .ref p, i => ∃ H', DPut H p i v H' ∧ N H'
  | _, _ => False
theorem sub_D {X : Cx} (hu : X.A.units + 64 < cLine) : PSet X rStoD := by
  intro pins s σ H o i v ov iv u Q I ro ri rv h
  cases o with
  | ref p =>
    have dp : ∀ {H'}, DPut H p i v H' → Q H' → wpAny (model X.prog X.w) X.A (setItem ov iv u) (fun _ s' => ∃ H', Inv X pins σ H' s' ∧ Q H') X.xe s := fun {H'} g q => by
      cases ro
      exact d_setItem (by omega) I g ri rv fun s' I' => ⟨H', I', q⟩
    cases i with
    | int k =>
      rcases h with ⟨xs, j, h1, h2, h3⟩ | ⟨H', g, q⟩
      · exact set_list pins s σ H _ _ v ov iv u Q I ro ri rv ⟨p, xs, k, j, rfl, rfl, h1, h2, h3⟩
      · exact dp g q
    | _ => obtain ⟨H', g, q⟩ := h; exact dp g q
  | _ => exact (show False from h).elim
def rGetD (K : PySem.W.Frag) (f : Str) : V → Hp → VK → Prop := fun x H Q => match x with
  | .ref a => (∃ C dx fs v, H a = some (.ins C dx fs) ∧ Cls K C ∧ NoAttr K C f ∧ fs.lookup f = some v ∧ Q v H) ∨ False
  | _ => False
def rSetD (K : PySem.W.Frag) (f : Str) : V → V → Hp → (Hp → Prop) → Prop := fun x y H N => match x with
  | .ref a => (∃ C dx fs, H a = some (.ins C dx fs) ∧ Cls K C ∧ NoAttr K C f ∧ fs.length < 1000 ∧ N (upd H a (.ins C dx (putF f y fs)))) ∨ False
  | _ => False
section
variable {X : Cx} {pins : List (Addr × Obj)} {σ : St} {H : Hp} {s : Shared} {A : Around} {E : Value → Shared → Prop}
theorem get_D {f : Str} {x : V} {u : Value} {b : Bool} {Q : VK} (I : Inv X pins σ H s) (rx : RelV x u) (h : rGetD X.K f x H Q) : wpAny (model X.prog X.w) A (getAttr u f b) (EP X pins σ Q) E s := by
  cases x with
  | ref a =>
    cases rx
    rcases h with ⟨C, dx, fs, v, ea, c, n, l, q⟩ | h
    · exact getattr_ok I ea c n l fun u' s2 I2 ru => ⟨v, H, I2, ru, q⟩
    · exact h.elim
  | _ => exact (show False from h).elim
theorem set_D {f : Str} {x y : V} {u v : Value} {N : Hp → Prop} {Q : Unit → Shared → Prop} (I : Inv X pins σ H s) (rx : RelV x u) (ry : RelV y v) (h : rSetD X.K f x y H N) (hQ : ∀ H' s', Inv X pins σ H' s' → N H' → Q () s') :
    wpAny (model X.prog X.w) A (setAttr u f v) Q E s := by
  cases x with
  | ref a =>
    cases rx
    rcases h with ⟨C, dx, fs, ea, c, n, l, q⟩ | h
    · exact setattr_ok I ea c n l ry fun s3 I3 => hQ _ _ I3 q
    · exact h.elim
  | _ => exact (show False from h).elim
end
end L2
set_option maxRecDepth 100000
set_option maxHeartbeats 4000000
namespace L2
open PySem PySem.Spec PyProof.Rows
structure FI where
  f : Addr
  fd : FuncData
  ps : List Str
  k : Nat
  sp : Sp
  dfs : List V
  ds : List Value
structure MI where
  C : Addr
  i : FI
inductive GB where
  | fn (i : FI)
  | cls (C : Addr) (i : Option FI)
  | met (m : Str) (l : List MI)
  | val (v : V) (u : Value)
  | exc (C : Addr) (i : Option FI)
def findMet : List (Str × GB) → Str → Option (List MI)
  | [], _ => none
  | (_, .met m l) :: r, x => if m = x then some l else findMet r x
  | _ :: r, x => findMet r x
theorem findMet_mem : ∀ {gb : List (Str × GB)} {x : Str} {l : List MI}, findMet gb x = some l → ∃ k, (k, GB.met x l) ∈ gb
  | (k, .met m l') :: r, x, l, h => by
    unfold findMet at h
    by_cases e : m = x
    · rw [if_pos e] at h; cases h; subst e; exact ⟨k, by simp⟩
    · rw [if_neg e] at h; obtain ⟨k, q⟩ := findMet_mem h; exact ⟨k, List.mem_cons_of_mem _ q⟩
  | (_, .fn _) :: r, x, l, h => by unfold findMet at h; obtain ⟨k, q⟩ := findMet_mem h; exact ⟨k, List.mem_cons_of_mem _ q⟩
  | (_, .cls _ _) :: r, x, l, h => by unfold findMet at h; obtain ⟨k, q⟩ := findMet_mem h; exact ⟨k, List.mem_cons_of_mem _ q⟩
  | (_, .val _ _) :: r, x, l, h => by unfold findMet at h; obtain ⟨k, q⟩ := findMet_mem h; exact ⟨k, List.mem_cons_of_mem _ q⟩
  | (_, .exc _ _) :: r, x, l, h => by unfold findMet at h; obtain ⟨k, q⟩ := findMet_mem h; exact ⟨k, List.mem_cons_of_mem _ q⟩
structure Sg where
  K : PySem.W.Frag
  N : List Str
  sc : List (Str × NameKind)
  gb : List (Str × GB)
  bl : List Str
  top : Bool
  calm : Bool
def slotF : List Str → Str → Nat → Option Nat
  | [], _, _ => none
  | y :: r, x, i => if y = x then some i else slotF r x (i + 1)
theorem slotF_get : ∀ {N : List Str} {x : Str} {i j : Nat}, slotF N x j = some i → j ≤ i ∧ N[i - j]? = some x
  | [], _, _, _, h => by cases h
  | y :: r, x, i, j, h => by
    unfold slotF at h
    by_cases e : y = x
    · rw [if_pos e] at h
      cases h
      refine ⟨Nat.le_refl _, ?_⟩
      rw [Nat.sub_self, e]
      rfl
    · rw [if_neg e] at h
      obtain ⟨h1, h2⟩ := slotF_get h
      refine ⟨by omega, ?_⟩
      have : i - j = (i - (j + 1)) + 1 := by omega
      rw [this, List.getElem?_cons_succ]
      exact h2
theorem slot_get {N : List Str} {x : Str} {i : Nat} (h : slotF N x 0 = some i) : N[i]? = some x := (slotF_get h).2
def plainName (x : Str) : Bool := !(x == ("__debug__" : Str)) && !(x == ("__classdict__" : Str)) && !(x == ("__name__" : Str))
def isGl (G : Sg) (x : Str) : Bool := (G.sc.lookup x == some .globalImplicit) && plainName x
def tyName (x : Str) : Option String :=
  if x = "int" then some "int" else if x = "bool" then some "bool" else if x = "str" then some "str" else if x = "list" then some "list" else if x = "tuple" then some "tuple" else if x = "dict" then some "dict" else if x = "ValueError" then some "ValueError" else none
theorem boot_VE : bootBuiltins "ValueError" = some (.type "ValueError") := by decide +kernel
theorem tyName_ok {x : Str} {T : String} (h : tyName x = some T) : bootBuiltins x = some (.type T) := by
  unfold tyName at h
  by_cases e1 : x = "int"
  · rw [if_pos e1] at h; cases h; rw [e1]; exact PyProof.Rows.boot_int
  rw [if_neg e1] at h
  by_cases e2 : x = "bool"
  · rw [if_pos e2] at h; cases h; rw [e2]; exact PyProof.Rows.boot_bool
  rw [if_neg e2] at h
  by_cases e3 : x = "str"
  · rw [if_pos e3] at h; cases h; rw [e3]; exact PyProof.Rows.boot_str
  rw [if_neg e3] at h
  by_cases e4 : x = "list"
  · rw [if_pos e4] at h; cases h; rw [e4]; exact PyProof.Rows.boot_list
  rw [if_neg e4] at h
  by_cases e5 : x = "tuple"
  · rw [if_pos e5] at h; cases h; rw [e5]; exact PyProof.Rows.boot_tuple
  rw [if_neg e5] at h
  by_cases e6 : x = "dict"
  · rw [if_pos e6] at h; cases h; rw [e6]; exact PyProof.Rows.boot_dict
  rw [if_neg e6] at h
  by_cases e7 : x = "ValueError"
  · rw [if_pos e7] at h; cases h; rw [e7]; exact boot_VE
  rw [if_neg e7] at h
  cases h
def PassX (CX : CXT) (X : Cx) : Prop := ∀ Ex, Meets X Ex → ∀ (pins : List (Addr × Obj)) (σ : St) (H : Hp) (s : Shared) (e : Value) (s' : Shared), Inv X pins σ H s → CX X.stack H s (fun v _ H' => ∃ a, v = .ref a ∧ Ex σ a H') e s' → X.xe e s'
structure FIOk (X : Cx) (i : FI) : Prop where
  kp : PySem.W.keepIn X.K (.ref i.f) = true
  ok : ∃ CX, (∀ X' : Cx, X'.prog = X.prog → X'.w = X.w → PassX CX X') ∧ FnOk X.prog X.w X.K X.mg X.base CX i.k i.f i.fd i.ps i.sp
  room : Room i.k X.A
  binds : ∀ j, j ≤ i.dfs.length → Binds X.K i.fd i.ps (i.ds.drop j)
  vals : Vals i.dfs i.ds
def InitOk (X : Cx) (C : Addr) : Option FI → Prop
  | none => PySem.W.findIn X.K (.ref C) "__init__" = some (some (.builtin "ValueError.__init__"))
  | some i => PySem.W.findIn X.K (.ref C) "__init__" = some (some (.ref i.f)) ∧ PySem.W.isFn X.K (.ref i.f) = true ∧ FIOk X i ∧ Room (i.k + 1) X.A
def MkOk (X : Cx) (C : Addr) : Option FI → Prop
  | none => PySem.W.makesIn X.K C = true ∧ PySem.W.findIn X.K (.ref C) "__init__" = some (some (.builtin "object.__init__"))
  | some i => PySem.W.makesIn X.K C = true ∧ PySem.W.findIn X.K (.ref C) "__init__" = some (some (.ref i.f)) ∧ PySem.W.isFn X.K (.ref i.f) = true ∧ FIOk X i ∧ Room (i.k + 1) X.A
structure GOk (X : Cx) (G : Sg) : Prop where
  K : X.K = G.K
  kind : X.env.scope.kind = .function
  own : PassesOwn (model X.prog X.w) X.A X.env X.xe
  N : X.N = G.N
  nd : G.N.Nodup
  sc : ∀ x, X.env.scope.names.lookup x = G.sc.lookup x
  vis : ∀ x ∈ G.N, Vis X.env.scope x
  top : G.top = true → ∀ x, X.fn x = true
  calm : G.calm = X.calm
  hd : X.calm = true → X.A.handled = none
  units : X.A.units + 64 < cLine
  cel : ∀ x, (X.env.scope.names.lookup x = some .cell ∨ X.env.scope.names.lookup x = some .free) → ∃ c, X.env.cells.lookup x = some c
  fn : ∀ x i, G.gb.lookup x = some (.fn i) → X.mg x = some (.ref i.f) ∧ FIOk X i
  val : ∀ x v u, G.gb.lookup x = some (.val v u) → X.mg x = some u ∧ RelV v u
  bl : ∀ x, G.bl.contains x = true → X.mg x = none
  exc : ∀ x C oi, G.gb.lookup x = some (.exc C oi) → X.mg x = some (.ref C) ∧ PySem.W.keepIn X.K (.ref C) = true ∧ ECls X.K C ∧ InitOk X C oi
  cls : ∀ x C oi, G.gb.lookup x = some (.cls C oi) → X.mg x = some (.ref C) ∧ PySem.W.keepIn X.K (.ref C) = true ∧ MkOk X C oi
  met : ∀ m l, findMet G.gb m = some l → ∀ mi ∈ l, Cls X.K mi.C ∧ Meth X.K mi.C m mi.i.f ∧ FIOk X mi.i
  frm : G.top = true → X.stack = X.env :: X.outer ∧ X.env.frame = some X.env.locals
section
variable {X : Cx} {G : Sg}
theorem GOk.gl (O : GOk X G) {x : Str} (h : isGl G x = true) : Gl X x := by
  unfold isGl at h
  rw [Bool.and_eq_true] at h
  have := eq_of_beq h.1
  unfold Gl
  show X.env.scope.names.lookup x = _
  rw [O.sc x]
  exact this
theorem plain_d {x : Str} (h : plainName x = true) : (x == ("__debug__" : Str)) = false ∧ (x == ("__classdict__" : Str)) = false ∧ x ≠ "__name__" := by
  unfold plainName at h
  simp only [Bool.and_eq_true, Bool.not_eq_true'] at h
  exact ⟨h.1.1, h.1.2, fun e => by rw [e] at h; simp at h⟩
theorem isGl_d {x : Str} (h : isGl G x = true) : (x == ("__debug__" : Str)) = false ∧ (x == ("__classdict__" : Str)) = false ∧ x ≠ "__name__" := by
  unfold isGl at h
  rw [Bool.and_eq_true] at h
  exact plain_d h.2
def wName (G : Sg) (x : Str) : DE :=
  match slotF G.N x 0 with
  | some i => if plainName x = true then dVar i else dNo
  | none => if isGl G x = true then (match G.gb.lookup x with
      | some (.val v _) => dC v
      | some (.exc C _) => dC (.ref C)
      | some (.cls C _) => dC (.ref C)
      | some _ => dNo
      | none => if G.bl.contains x = true then (match tyName x with
        | some T => dC (.ty T)
        | none => dNo) else dNo) else dNo
theorem qe_no {e : Expr} : QE X e dNo := fun _ _ _ _ _ _ _ _ h => h.elim
theorem qe_var {i : Nat} {x : Str} {pos : Pos} (hN : X.N[i]? = some x) (hv : Vis X.env.scope x) (hp : plainName x = true) : QE X (.Name x pos) (dVar i) := by
  intro Ex _ pins s σ H Q I h
  unfold dVar at h
  split at h
  · rename_i v e
    exact pe_var hN hv (plain_d hp).1 (plain_d hp).2.1 pins s σ H Q I ⟨v, e, h⟩
  · exact h.elim
theorem qe_name (O : GOk X G) (x : Str) (pos : Pos) : QE X (.Name x pos) (wName G x) := by
  unfold wName
  split
  · rename_i i e
    split
    · rename_i hp
      have hi := slot_get e
      exact qe_var (by rw [O.N]; exact hi) (O.vis x (List.mem_of_getElem? hi)) hp
    · exact qe_no
  · split
    · rename_i hg
      have dd := isGl_d hg
      split
      · rename_i v u e
        obtain ⟨h1, h2⟩ := O.val x v u e
        exact fun _ _ => pe_glob (O.gl hg) h1 h2 dd.1
      · rename_i C oi e
        exact fun _ _ => pe_glob (v := .ref C) (O.gl hg) (O.exc x C oi e).1 rfl dd.1
      · rename_i C oi e
        exact fun _ _ => pe_glob (v := .ref C) (O.gl hg) (O.cls x C oi e).1 rfl dd.1
      · exact qe_no
      · split
        · rename_i hb
          split
          · rename_i T e
            exact fun _ _ => pe_bltn (O.gl hg) (O.bl x hb) (tyName_ok e) rfl dd.2.2 dd.1
          · exact qe_no
        · exact qe_no
    · exact qe_no
def wConst : Const → DE
  | .int i => dC (.int i)
  | .bool b => dC (.bl b)
  | .none => dC .non
  | .str x => dC (.str x)
  | _ => dNo
theorem qe_const (c : Const) (j : Nat) (pos : Pos) : QE X (.Constant c j pos) (wConst c) := by
  cases c with
  | int i => exact fun _ _ => pe_int
  | bool b => exact fun _ _ => pe_bl
  | none => exact fun _ _ => pe_non
  | str x => exact fun _ _ => pe_str
  | _ => exact qe_no
variable {a b c : Expr} {da db dc : DE} {ta tb : DT} {es : List Expr} {r : DA} {pos : Pos}
theorem qe_bin (op : Operator) (ha : QE X a da) (hb : QE X b db) : QE X (.BinOp a op b pos) (dBin (rOp X.K op) da db) := fun Ex m => pe_op (op_D op) (ha Ex m) (hb Ex m)
theorem qe_neg (ha : QE X a da) : QE X (.UnaryOp .USub a pos) (dUn rNegD da) := fun Ex m => pe_un un_D (ha Ex m)
theorem qe_inv (ha : QE X a da) : QE X (.UnaryOp .Invert a pos) (dUn rInvD da) := fun Ex m => pe_un inv_D (ha Ex m)
theorem qe_cmp (hu : X.A.units + 64 < cLine) (op : CmpOp) (ha : QE X a da) (hb : QE X b db) (hm : behindInMarks op b = false) : QE X (.Compare a [op] [b] pos) (dBin (rCmp X.K op) da db) := fun Ex m => pe_cmpR (cmp_D hu op) (ha Ex m) (hb Ex m) hm
theorem qt_cmp (hu : X.A.units + 64 < cLine) (op : CmpOp) (ha : QE X a da) (hb : QE X b db) (hm : behindInMarks op b = false) : QT X (.Compare a [op] [b] pos) (dTst (dBin (rCmp X.K op) da db)) := by
  intro Ex m pins s σ H Q I h
  refine wpAny_isTrue_Compare1 (thn (ha Ex m pins s σ H _ I h) fun v s1 ⟨x, H1, I1, r1, q1⟩ => thn (hb Ex m pins s1 σ H1 _ I1 q1) fun u s2 ⟨y, H2, I2, r2, q2⟩ =>
    thn (cmp_D hu op pins s2 σ H2 x y v u _ I2 r1 r2 q2) fun c s3 ⟨z, H3, I3, r3, q3⟩ => ?_) hm
  cases z with
  | bl k => cases r3; exact wpAny_truthy_bool ⟨H3, I3, q3⟩
  | _ => exact (show False from q3).elim
theorem qe_chain (hu : X.A.units + 64 < cLine) (op op' : CmpOp) (ha : QE X a da) (hb : QE X b db) (hc : QE X c dc) (hm : lastMarks [op, op'] [b, c] = false) :
    QE X (.Compare a [op, op'] [b, c] pos) (dChain (rCmp X.K op) (rCmp X.K op') da db dc) := by
  intro Ex m pins s σ H Q I h
  refine Compare_chain (thn (ha Ex m pins s σ H _ I h) fun v s1 ⟨x, H1, I1, r1, q1⟩ => chain_link (thn (hb Ex m pins s1 σ H1 _ I1 q1) fun u s2 ⟨y, H2, I2, r2, q2⟩ =>
    thn (cmp_D hu op pins s2 σ H2 x y v u _ I2 r1 r2 q2) fun d s3 ⟨z, H3, I3, r3, q3⟩ => ?_)) hm
  cases z with
  | bl k =>
    cases r3
    refine wpAny_truthy_bool ?_
    cases k with
    | false => exact ite_ff ⟨.bl false, H3, I3, rfl, q3⟩
    | true => exact ite_tt (chain_last (thn (hc Ex m pins s3 σ H3 _ I3 q3) fun w' s4 ⟨z', H4, I4, r4, q4⟩ => cmp_D hu op' pins s4 σ H4 y z' u w' Q I4 r2 r4 q4))
  | _ => exact (show False from q3).elim
theorem qt_chain (hu : X.A.units + 64 < cLine) (op op' : CmpOp) (ha : QE X a da) (hb : QE X b db) (hc : QE X c dc) (hm : lastMarks [op, op'] [b, c] = false) :
    QT X (.Compare a [op, op'] [b, c] pos) (dTst (dChain (rCmp X.K op) (rCmp X.K op') da db dc)) := by
  intro Ex m pins s σ H Q I h
  refine isTrue_chain (thn (ha Ex m pins s σ H _ I h) fun v s1 ⟨x, H1, I1, r1, q1⟩ => test_link (thn (hb Ex m pins s1 σ H1 _ I1 q1) fun u s2 ⟨y, H2, I2, r2, q2⟩ =>
    thn (cmp_D hu op pins s2 σ H2 x y v u _ I2 r1 r2 q2) fun d s3 ⟨z, H3, I3, r3, q3⟩ => ?_)) hm
  cases z with
  | bl k =>
    cases r3
    refine wpAny_truthy_bool ?_
    cases k with
    | false => exact ite_ff ⟨H3, I3, q3⟩
    | true =>
      refine ite_tt (test_last (thn (hc Ex m pins s3 σ H3 _ I3 q3) fun w' s4 ⟨z', H4, I4, r4, q4⟩ => thn (cmp_D hu op' pins s4 σ H4 y z' u w' _ I4 r2 r4 q4) fun d' s5 ⟨z2, H5, I5, r5, q5⟩ => ?_))
      cases z2 with
      | bl k2 => cases r5; exact wpAny_truthy_bool ⟨H5, I5, q5⟩
      | _ => exact (show False from q5).elim
  | _ => exact (show False from q3).elim
def plainT : Expr → Bool
  | .UnaryOp .Not _ _ => false
  | .BoolOp _ _ _ => false
  | .IfExp _ _ _ _ => false
  | .Compare _ _ _ _ => false
  | _ => true
theorem plainT_ok {e : Expr} (h : plainT e = true) (whole : Sem Value) : isTrue e X.env whole = (do let v ← whole; standAt e.pos; holding [v] (truthy v)) := by
  cases e with
  | UnaryOp op _ _ => cases op <;> first | rfl | cases h
  | BoolOp _ _ _ => cases h
  | IfExp _ _ _ _ => cases h
  | Compare _ _ _ _ => cases h
  | _ => rfl
theorem qt_tru (ha : QE X a da) (h : plainT a = true) : QT X a (dTru X.K da) := by
  intro Ex m pins s σ H Q I hw
  exact isTrue_plain (thn (ha Ex m pins s σ H _ I hw) fun v s1 ⟨x, H1, I1, r1, q1⟩ => tru_D pins s1 σ H1 x v Q I1 r1 q1) (plainT_ok h _)
theorem qt_not (ha : QT X a ta) : QT X (.UnaryOp .Not a pos) (dNot ta) := fun Ex m => pt_not (ha Ex m)
theorem qw_and1 (ha : QT X a ta) : QW X (.BoolOp .And [a] pos) ta := fun Ex m => pw_and1 (ha Ex m)
theorem qw_or1 (ha : QT X a ta) : QW X (.BoolOp .Or [a] pos) ta := fun Ex m => pw_or1 (ha Ex m)
theorem qw_and (ha : QT X a ta) (hb : QW X (.BoolOp .And (b :: es) pos) tb) : QW X (.BoolOp .And (a :: b :: es) pos) (dAnd ta tb) := fun Ex m => pw_and (ha Ex m) (hb Ex m)
theorem qw_or (ha : QT X a ta) (hb : QW X (.BoolOp .Or (b :: es) pos) tb) : QW X (.BoolOp .Or (a :: b :: es) pos) (dOr ta tb) := fun Ex m => pw_or (ha Ex m) (hb Ex m)
theorem qe_one {op : BoolOp} (ha : QE X a da) : QE X (.BoolOp op [a] pos) da := fun Ex m => pe_one (ha Ex m)
theorem qe_and (ha : QE X a da) (hb : QE X (.BoolOp .And (b :: es) pos) db) : QE X (.BoolOp .And (a :: b :: es) pos) (dAndV X.K da db) := by
  intro Ex m pins s σ H Q I h
  refine BoolOp_and (thn (ha Ex m pins s σ H _ I h) fun v s1 ⟨x, H1, I1, r1, q1⟩ => thn (tru_D pins s1 σ H1 x v _ I1 r1 q1) fun k s2 ⟨H2, I2, q2⟩ => ?_)
  cases k with
  | true => exact hb Ex m pins s2 σ H2 Q I2 q2
  | false => exact ⟨x, H2, I2, r1, q2⟩
theorem qe_or (ha : QE X a da) (hb : QE X (.BoolOp .Or (b :: es) pos) db) : QE X (.BoolOp .Or (a :: b :: es) pos) (dOrV X.K da db) := by
  intro Ex m pins s σ H Q I h
  refine BoolOp_or (thn (ha Ex m pins s σ H _ I h) fun v s1 ⟨x, H1, I1, r1, q1⟩ => thn (tru_D pins s1 σ H1 x v _ I1 r1 q1) fun k s2 ⟨H2, I2, q2⟩ => ?_)
  cases k with
  | false => exact hb Ex m pins s2 σ H2 Q I2 q2
  | true => exact ⟨x, H2, I2, r1, q2⟩
theorem qe_not (ha : QE X a da) : QE X (.UnaryOp .Not a pos) (dNotV X.K da) := by
  intro Ex m pins s σ H Q I h
  refine UnaryOp_ (thn (ha Ex m pins s σ H _ I h) fun v s1 ⟨x, H1, I1, r1, q1⟩ => not_of (thn (tru_D pins s1 σ H1 x v _ I1 r1 q1) fun k s2 ⟨H2, I2, q2⟩ => ?_))
  exact ⟨.bl (!k), H2, I2, rfl, q2⟩
theorem qe_if {t : Expr} (ht : QT X t ta) (ha : QE X a da) (hb : QE X b db) : QE X (.IfExp t a b pos) (dIfE ta da db) := fun Ex m => pe_ifExp (ht Ex m) (ha Ex m) (hb Ex m)
def noStar : Expr → Bool
  | .Starred _ _ => false
  | _ => true
theorem noStar_ok {e : Expr} (h : noStar e = true) (es : List Expr) (env : Env) : starEach (e :: es) env = (false, eval e env) :: starEach es env := by
  cases e with
  | Starred _ _ => cases h
  | _ => rfl
theorem noStars_any {es : List Expr} (h : es.all noStar = true) (env : Env) (pos : Pos) : (backTo pos (starEach es env)).any (·.1) = false := by
  induction es with
  | nil => rfl
  | cons e es ih =>
    rw [List.all_cons, Bool.and_eq_true] at h
    rw [noStar_ok h.1]
    show (false || (backTo pos (starEach es env)).any (·.1)) = false
    rw [ih h.2]
    rfl
theorem noStars_all {es : List Expr} (h : es.all noStar = true) (env : Env) (pos : Pos) : (backTo pos (starEach es env)).all (fun x => !x.1) = true := by
  induction es with
  | nil => rfl
  | cons e es ih =>
    rw [List.all_cons, Bool.and_eq_true] at h
    rw [noStar_ok h.1]
    show (true && (backTo pos (starEach es env)).all (fun x => !x.1)) = true
    rw [ih h.2]
    rfl
theorem qa_nil : QA X [] dNil := fun _ _ => pa_nil
theorem qa_cons (ha : QE X a da) (hr : QA X es r) (hs : noStar a = true) : QA X (a :: es) (dCons da r) := fun Ex m => pa_cons (ha Ex m) (hr Ex m) (noStar_ok hs es X.env)
theorem qe_tup {k : Nat} (h : QA X es r) : QE X (.Tuple es k pos) (dTup r) := fun Ex m => pe_tup (h Ex m)
theorem qe_lst (h : QA X es r) : QE X (.List es pos) (dLst r) := fun Ex m => pe_lst (h Ex m)
def noSlice : Expr → Bool
  | .Slice _ _ _ _ => false
  | _ => true
theorem noSlice_ok {e : Expr} (h : noSlice e = true) : PlainIx e := by
  intro o i
  cases e with
  | Slice _ _ _ _ => cases h
  | _ => rfl
theorem qe_ix (hu : X.A.units + 64 < cLine) (ha : QE X a da) (hb : QE X b db) (h : noSlice b = true) : QE X (.Subscript a b pos) (dBin (rIxD X.K) da db) := fun Ex m => pe_ix (ix_D hu) (ha Ex m) (hb Ex m) (noSlice_ok h)
theorem qe_attr {f : Str} (ha : QE X a da) (h : attributeBase a f X.env (eval a X.env) = eval a X.env) : QE X (.Attribute a f pos) (dUn (rGetD X.K f) da) := by
  intro Ex m pins s σ H Q I hw
  exact attr_of h (thn (ha Ex m pins s σ H _ I hw) fun u s1 ⟨x, H1, I1, rx, q⟩ => get_D I1 rx q)
end
end L2
set_option maxRecDepth 100000
set_option maxHeartbeats 4000000
namespace L2
open PySem PySem.Spec PyProof.Rows
abbrev RF := List V → Hp → VK → Prop
def isTyB (x : V) (T : String) : Bool := match x with
  | .int _ => T == "int"
  | .bl _ => T == "bool" || T == "int"
  | .str _ => T == "str"
  | _ => false
def okT (T : String) : Bool := ["int", "bool", "str", "list", "tuple", "dict"].contains T
def rIsi (K : PySem.W.Frag) : RF := fun xs H Q => match xs with
  | [.int i, .ty T] => okT T = true ∧ Q (.bl (isTyB (.int i) T)) H
  | [.bl i, .ty T] => okT T = true ∧ Q (.bl (isTyB (.bl i) T)) H
  | [.str i, .ty T] => okT T = true ∧ Q (.bl (isTyB (.str i) T)) H
  | [.non, .ty T] => okT T = true ∧ Q (.bl (isTyB .non T)) H
  | [x, .ty T] => ∃ t b, TyX K H x t ∧ PySem.W.kitOne K t (.type T) = some b ∧ Q (.bl b) H
  | [x, .ref C] => (∃ t b, TyX K H x t ∧ PySem.W.kitOne K t (.ref C) = some b ∧ Q (.bl b) H) ∨ rIsiT K x (.ref C) H Q
  | _ => False
def rLen (K : PySem.W.Frag) : RF := fun xs H Q => match xs with
  | [.str z] => z.length ≤ sizeLine ∧ Q (.int z.length) H
  | [.ref p] => (∃ ys, (SqL K H p ys ∨ SqT K H p ys) ∧ Q (.int ys.length) H) ∨ ∃ kvs, Rd H p (.dK kvs) ∧ Q (.int kvs.length) H
  | _ => False
def rAll (K : PySem.W.Frag) : RF := fun xs H Q => match xs with
  | [.ref p] => ∃ bs : List Bool, SqL K H p (bs.map V.bl) ∧ Q (.bl (bs.all fun b => b)) H
  | _ => False
def rInt : RF := fun xs H Q => match xs with
  | [.int i] => Q (.int i) H
  | [.bl k] => Q (.int (if k then 1 else 0)) H
  | _ => False
def rListOf (K : PySem.W.Frag) : RF := fun xs H Q => match xs with
  | [.ref p] => ∃ ys, (SqL K H p ys ∨ SqT K H p ys) ∧ ∀ l, H l = none → Q (.ref l) (upd H l (.lst ys))
  | _ => False
def rTupOf (K : PySem.W.Frag) : RF := fun xs H Q => match xs with
  | [.ref p] => ∃ ys, (SqL K H p ys ∧ ∀ l, H l = none → Q (.ref l) (upd H l (.tup ys))) ∨ (SqT K H p ys ∧ Q (.ref p) H)
  | _ => False
inductive BF where
  | bf (id : String) | ty (T : String)
def bltR (K : PySem.W.Frag) (calm : Bool) (x : Str) : Option (BF × RF) :=
  if x = "len" then some (.bf "len", rLen K) else
  if x = "isinstance" then some (.bf "isinstance", rIsi K) else
  if x = "all" then (if calm = true then some (.bf "all", rAll K) else none) else
  if x = "int" then some (.ty "int", rInt) else
  if x = "list" then some (.ty "list", rListOf K) else
  if x = "tuple" then some (.ty "tuple", rTupOf K) else
  none
def BF.val : BF → Value
  | .bf id => .builtin id
  | .ty T => .type T
section
variable {X : Cx}
theorem kit_scalar {K : PySem.W.Frag} {x : V} {T : String} (hx : flatV x = true) (h : okT T = true) : ∃ t, (∀ H, TyOf K H x t) ∧ PySem.W.kitOne K t (.type T) = some (isTyB x T) := by
  have hT : T = "int" ∨ T = "bool" ∨ T = "str" ∨ T = "list" ∨ T = "tuple" ∨ T = "dict" := by
    unfold okT at h
    simpa using h
  cases x with
  | int i => refine ⟨_, fun H => TyOf.int i, ?_⟩; rcases hT with rfl | rfl | rfl | rfl | rfl | rfl <;> rfl
  | bl i => refine ⟨_, fun H => TyOf.bl i, ?_⟩; rcases hT with rfl | rfl | rfl | rfl | rfl | rfl <;> rfl
  | str i => refine ⟨_, fun H => TyOf.str i, ?_⟩; rcases hT with rfl | rfl | rfl | rfl | rfl | rfl <;> rfl
  | non => refine ⟨_, fun H => TyOf.non, ?_⟩; rcases hT with rfl | rfl | rfl | rfl | rfl | rfl <;> rfl
  | _ => cases hx
theorem call_isi : CallR X (.builtin "isinstance") (rIsi X.K) := by
  intro pins s σ H xs us Q I r h
  have sc : ∀ x T, xs = [x, .ty T] → flatV x = true → okT T = true → Q (.bl (isTyB x T)) H → wpAny (model X.prog X.w) X.A (call (.builtin "isinstance") us) (EP X pins σ Q) X.xe s := fun x T e hx hT q => by
    subst e
    obtain ⟨t, ht, hk⟩ := kit_scalar (K := X.K) hx hT
    exact call_isT pins s σ H _ us Q I r ⟨x, T, t, _, rfl, ht H, hk, q⟩
  unfold rIsi at h
  split at h
  · exact sc _ _ rfl rfl h.1 h.2
  · exact sc _ _ rfl rfl h.1 h.2
  · exact sc _ _ rfl rfl h.1 h.2
  · exact sc _ _ rfl rfl h.1 h.2
  · obtain ⟨t, b, ty, e, q⟩ := h
    obtain ⟨u, v, rfl, ru, rv⟩ := r.two
    cases rv
    exact isinst_okX I ru ty e fun tk => ⟨.bl b, H, I.tok tk, rfl, q⟩
  · obtain ⟨u, v, rfl, ru, rv⟩ := r.two
    rcases h with ⟨t, b, ty, e, q⟩ | h
    · cases rv
      exact isinst_okX I ru ty e fun tk => ⟨.bl b, H, I.tok tk, rfl, q⟩
    · exact call_isiT I ru rv h
  · exact h.elim
theorem call_lenD : CallR X (.builtin "len") (rLen X.K) := by
  intro pins s σ H xs us Q I r h
  unfold rLen at h
  split at h
  · exact call_len_str pins s σ H _ us Q I r ⟨_, rfl, h.1, h.2⟩
  · rcases h with ⟨ys, h1, h2⟩ | ⟨kvs, h1, h2⟩
    · exact call_len_seq pins s σ H _ us Q I r ⟨_, ys, rfl, h1, h2⟩
    · obtain ⟨u, rfl, ru⟩ := vals1 r
      cases ru
      exact d_len I h1 fun t s' I' => ⟨.int _, H, I', ⟨t, rfl⟩, h2⟩
  · exact h.elim
theorem call_allD (hc : X.calm = true) : CallR X (.builtin "all") (rAll X.K) := by
  intro pins s σ H xs us Q I r h
  unfold rAll at h
  split at h
  · obtain ⟨bs, h1, h2⟩ := h
    exact call_all hc pins s σ H _ us Q I r ⟨_, bs, rfl, h1, h2⟩
  · exact h.elim
theorem call_intD : CallR X (.type "int") rInt := by
  intro pins s σ H xs us Q I r h
  unfold rInt at h
  split at h
  · exact call_int1 pins s σ H _ us Q I r (.inl ⟨_, rfl, h⟩)
  · exact call_int1 pins s σ H _ us Q I r (.inr ⟨_, rfl, h⟩)
  · exact h.elim
theorem call_listD : CallR X (.type "list") (rListOf X.K) := by
  intro pins s σ H xs us Q I r h
  unfold rListOf at h
  split at h
  · obtain ⟨ys, h1, h2⟩ := h
    exact call_list_of pins s σ H _ us Q I r ⟨_, ys, rfl, h1, h2⟩
  · exact h.elim
theorem call_tupD : CallR X (.type "tuple") (rTupOf X.K) := by
  intro pins s σ H xs us Q I r h
  unfold rTupOf at h
  split at h
  · obtain ⟨ys, h1⟩ := h
    exact call_tuple_of pins s σ H _ us Q I r ⟨_, ys, rfl, h1⟩
  · exact h.elim
theorem bltR_ok {x : Str} {f : BF} {r : RF} {c : Bool} (h : bltR X.K c x = some (f, r)) (hc : c = X.calm) : bootBuiltins x = some f.val ∧ CallR X f.val r := by
  unfold bltR at h
  by_cases e : x = "len"
  · rw [if_pos e] at h; cases h; rw [e]; exact ⟨PySem.boot_len, call_lenD⟩
  rw [if_neg e] at h
  by_cases e : x = "isinstance"
  · rw [if_pos e] at h; cases h; rw [e]; exact ⟨PyProof.Rows.boot_isinstance, call_isi⟩
  rw [if_neg e] at h
  by_cases e : x = "all"
  · rw [if_pos e] at h
    by_cases ec : c = true
    · rw [if_pos ec] at h; cases h; rw [e]; exact ⟨PyProof.Rows.boot_all, call_allD (hc ▸ ec)⟩
    · rw [if_neg ec] at h; cases h
  rw [if_neg e] at h
  by_cases e : x = "int"
  · rw [if_pos e] at h; cases h; rw [e]; exact ⟨PyProof.Rows.boot_int, call_intD⟩
  rw [if_neg e] at h
  by_cases e : x = "list"
  · rw [if_pos e] at h; cases h; rw [e]; exact ⟨PyProof.Rows.boot_list, call_listD⟩
  rw [if_neg e] at h
  by_cases e : x = "tuple"
  · rw [if_pos e] at h; cases h; rw [e]; exact ⟨PyProof.Rows.boot_tuple, call_tupD⟩
  rw [if_neg e] at h
  cases h
abbrev RM := V → List V → Hp → VK → Prop
structure BM where
  T : String
  id : String
  r : RM
def rMt (K : PySem.W.Frag) (bs : List BM) : V → Hp → (Hp → (List V → Hp → Prop) → Prop) → VK → Prop := fun x H1 ta Q =>
  match bs with
  | [] => False
  | [b] => tyV K b.T x H1 ∧ ta H1 fun xs H2 => b.r x xs H2 Q
  | b :: rest => (tyV K b.T x H1 ∧ ta H1 fun xs H2 => b.r x xs H2 Q) ∨ rMt K rest x H1 ta Q
structure BMOk (X : Cx) (m : Str) (b : BM) : Prop where
  pa : PlainAttrs b.T
  slot : Slot b.T m b.id
  ty : typeOf (.builtin b.id) = pure (.type "method_descriptor")
  mt : MtR X b.id b.r
def rJoin (K : PySem.W.Frag) : RM := fun x xs H Q => ∃ z p ys, x = .str z ∧ xs = [.ref p] ∧ SqL K H p (ys.map V.str) ∧ (ys.map (·.length)).sum + ys.length * z.length ≤ 16777216 ∧ Q (.str (Txt.join z ys)) H
def rDGet : RM := fun x xs H Q => match x, xs with
  | .ref a, [y] => ∃ o, DGet H a y o ∧ Q (o.getD .non) H
  | .ref a, [y, z] => ∃ o, DGet H a y o ∧ Q (o.getD z) H
  | _, _ => False
theorem mt_dget (hu : X.A.units + 64 < cLine) : MtR X "dict.get" rDGet := by
  intro pins s σ H x xs v us Q I rx rs h
  unfold rDGet at h
  split at h
  · obtain ⟨o, g, q⟩ := h
    obtain ⟨u, rfl, ru⟩ := rs.one
    cases rx
    exact d_get1 (by omega) I g ru fun w' s' I' r' => ⟨_, H, I', r', q⟩
  · obtain ⟨o, g, q⟩ := h
    obtain ⟨u, w, rfl, ru, rw'⟩ := rs.two
    cases rx
    exact d_get2 (by omega) I g ru rw' fun w' s' I' r' => ⟨_, H, I', r', q⟩
  · exact h.elim
def mtR (K : PySem.W.Frag) (m : Str) : List BM :=
  if m = "append" then [⟨"list", "list.append", rAppend⟩] else
  if m = "get" then [⟨"dict", "dict.get", rDGet⟩] else
  if m = "extend" then [⟨"list", "list.extend", rExtend⟩] else
  if m = "clear" then [⟨"list", "list.clear", rClear⟩] else
  if m = "join" then [⟨"str", "str.join", rJoin K⟩] else
  []
theorem mtR_ok {m : Str} {b : BM} (hu : X.A.units + 64 < cLine) (h : b ∈ mtR X.K m) : BMOk X m b := by
  unfold mtR at h
  by_cases e : m = "append"
  · rw [if_pos e] at h
    have : b = ⟨"list", "list.append", rAppend⟩ := by simpa using h
    subst this; subst e
    exact ⟨PySem.F.plainAttrs_list, PySem.F.slot_list_append, PySem.F.type_list_append, mt_append⟩
  rw [if_neg e] at h
  by_cases e : m = "get"
  · rw [if_pos e] at h
    have : b = ⟨"dict", "dict.get", rDGet⟩ := by simpa using h
    subst this; subst e
    exact ⟨PySem.F.plainAttrs_dict, PySem.F.slot_dict_get, PySem.F.type_dict_get, mt_dget hu⟩
  rw [if_neg e] at h
  by_cases e : m = "extend"
  · rw [if_pos e] at h
    have : b = ⟨"list", "list.extend", rExtend⟩ := by simpa using h
    subst this; subst e
    exact ⟨PySem.F.plainAttrs_list, PySem.F.slot_list_extend, PySem.F.type_list_extend, mt_extend⟩
  rw [if_neg e] at h
  by_cases e : m = "clear"
  · rw [if_pos e] at h
    have : b = ⟨"list", "list.clear", rClear⟩ := by simpa using h
    subst this; subst e
    exact ⟨PySem.F.plainAttrs_list, PySem.F.slot_list_clear, PySem.F.type_list_clear, mt_clear⟩
  rw [if_neg e] at h
  by_cases e : m = "join"
  · rw [if_pos e] at h
    have : b = ⟨"str", "str.join", rJoin X.K⟩ := by simpa using h
    subst this; subst e
    exact ⟨PySem.F.plainAttrs_str, PySem.F.slot_str_join, PySem.F.type_str_join, mt_join⟩
  rw [if_neg e] at h
  cases h
theorem rMt_mem {K : PySem.W.Frag} : ∀ {bs : List BM} {x : V} {H1 : Hp} {ta : Hp → (List V → Hp → Prop) → Prop} {Q : VK}, rMt K bs x H1 ta Q → ∃ b ∈ bs, tyV K b.T x H1 ∧ ta H1 fun xs H2 => b.r x xs H2 Q
  | [], _, _, _, _, h => h.elim
  | [b], _, _, _, _, h => ⟨b, by simp, h⟩
  | b :: c :: rest, x, H1, ta, Q, h => by
    rcases h with h | h
    · exact ⟨b, by simp, h⟩
    · obtain ⟨d, hd, q⟩ := rMt_mem h
      exact ⟨d, List.mem_cons_of_mem _ hd, q⟩
def noSuper : Expr → Bool
  | .Call (.Name x _) [] [] _ => !(x == ("super" : Str))
  | _ => true
theorem noSuper_ok {e : Expr} (h : noSuper e = true) (f : Str) (env : Env) (whole : Sem Value) : attributeBase e f env whole = whole := by
  unfold attributeBase
  split
  · rename_i id p pos
    have : (id == ("super" : Str)) = false := by
      have h' : (!(id == ("super" : Str))) = true := h
      simpa using h'
    have e2 : (id != "super") = true := by
      show (!(id == "super")) = true
      rw [this]
      rfl
    rw [e2]
    simp
  · rfl
variable {o : Expr} {do' : DE} {es : List Expr} {r : DA} {m : Str} {apos cpos : Pos}
theorem qe_mt0 {bs : List BM} (hb : ∀ b ∈ bs, BMOk X m b) (ho : QE X o do') (h1 : noSuper o = true) (h4 : (apos.endLine == cpos.line) = true) :
    QE X (.Call (.Attribute o m apos) [] [] cpos) (dMt (rMt X.K bs) do' dNil) := by
  intro Ex mt pins s σ H Q I h
  refine wpAny_Call_method0_late (noSuper_ok h1 m X.env _) h4 (thn (ho Ex mt pins s σ H _ I h) fun v s1 ⟨x, H1, I1, r1, q1⟩ => ?_)
  obtain ⟨b, hbm, ty, q⟩ := rMt_mem q1
  obtain ⟨k1, k2⟩ := tyV_is I1 r1 ty
  have B := hb b hbm
  exact ⟨b.T, b.id, B.pa, B.slot, B.ty, k1, k2, Calls.callWith_builtin rfl (PySem.evalArgs_none (B.mt pins s1 σ H1 x [] v [] Q I1 r1 .nil q))⟩
theorem qe_mt {bs : List BM} {e : Expr} (hb : ∀ b ∈ bs, BMOk X m b) (ho : QE X o do') (ha : QA X (e :: es) r) (h1 : noSuper o = true) (h2 : (e :: es).all noStar = true) (h3 : (e :: es).length < 30) (h4 : (apos.endLine == cpos.line) = true) :
    QE X (.Call (.Attribute o m apos) (e :: es) [] cpos) (dMt (rMt X.K bs) do' r) := by
  intro Ex mt pins s σ H Q I h
  have hs := List.all_cons ▸ h2
  rw [Bool.and_eq_true] at hs
  have hfew : ((backTo cpos (starEach (e :: es) X.env)).all (fun x => !x.1) && (backToKw cpos (keywordEach [] X.env)).all (fun x => x.1.isSome)
      && decide ((e :: es).length + ([] : List Keyword).length + (if ([] : List Keyword).isEmpty then 0 else 1) < 30)) = true := by
    rw [noStars_all h2]
    have : decide ((e :: es).length + ([] : List Keyword).length + (if ([] : List Keyword).isEmpty then 0 else 1) < 30) = true := by
      rw [decide_eq_true_iff]
      simpa using h3
    rw [this]
    rfl
  refine wpAny_Call_method_late (noSuper_ok h1 m X.env _) hfew h4 rfl (thn (ho Ex mt pins s σ H _ I h) fun v s1 ⟨x, H1, I1, r1, q1⟩ => ?_)
  obtain ⟨b, hbm, ty, q⟩ := rMt_mem q1
  obtain ⟨k1, k2⟩ := tyV_is I1 r1 ty
  have B := hb b hbm
  refine ⟨b.T, b.id, B.pa, B.slot, B.ty, k1, k2, ?_⟩
  have hA := ha Ex mt cpos pins s1 σ H1 _ I1 q
  rw [noStar_ok hs.1] at hA ⊢
  refine Calls.callWith_builtin (by show (false || (backTo cpos (starEach es X.env)).any (·.1)) = false; rw [noStars_any hs.2] <;> rfl) (Calls.evalArgs_plain ?_)
  exact thn hA fun us s2 ⟨vs, H2, I2, r2, q2⟩ => B.mt pins s2 σ H2 x vs v us Q I2 r1 r2 q2
variable {x : Str} {p pos : Pos} {G : Sg}
theorem qe_blt {f : BF} {rf : RF} {e : Expr} (hc : CallR X f.val rf) (hg : Gl X x) (hm : X.mg x = none) (hv : bootBuiltins x = some f.val) (ha : QA X (e :: es) r) (hs : (e :: es).all noStar = true) (hn : x ≠ "__name__") (hdb : (x == ("__debug__" : Str)) = false) :
    QE X (.Call (.Name x p) (e :: es) [] pos) (dFn (fun vs H Q _ => rf vs H Q) r) := by
  intro Ex mt
  have h := List.all_cons ▸ hs
  rw [Bool.and_eq_true] at h
  cases f with
  | bf id => exact pe_callB hc hg hm hv (ha Ex mt) hn hdb (noStar_ok h.1 es X.env) (noStars_any h.2 X.env pos)
  | ty T => exact pe_callTy hc hg hm hv (ha Ex mt) hn hdb (noStar_ok h.1 es X.env) (noStars_any h.2 X.env pos)
def spE (sp : Sp) (dvs : List V) : List V → Hp → VK → EK → Prop := fun vs H Q E => sp (vs ++ dvs) H Q (fun v _ H' => ∃ a, v = .ref a ∧ E a H')
theorem run_fnX {i : FI} (F : FIOk X i) {j : Nat} (hj : j ≤ i.dfs.length) {Ex : St → EK} (mt : Meets X Ex) {pins : List (Addr × Obj)} {σ : St} {H : Hp} {s : Shared} {Q : VK} {us : List Value} {vs : List V}
    (I : Inv X pins σ H s) (r : Vals vs us) (h : spE i.sp (i.dfs.drop j) vs H Q (Ex σ)) : wpAny (model X.prog X.w) X.A (call (.ref i.f) us) (EP X pins σ Q) X.xe s := by
  obtain ⟨CX, hx, FO⟩ := F.ok
  have r2 : Vals (vs ++ i.dfs.drop j) (us ++ i.ds.drop j) := r.append (F.vals.drop j)
  have hl : (us ++ i.ds.drop j).length = i.ps.length := by rw [← r2.length]; exact FO.len _ _ _ _ h
  refine wpAny_call (codeAny_mono (FO.run X.A X.stack s H ⟨us, []⟩ (us ++ i.ds.drop j) (vs ++ i.dfs.drop j) Q _ F.room I.env0 (F.binds j hj s us I.kIn hl) r2 h) fun r s' hq => ?_)
  cases r with
  | error e => exact hx X rfl rfl Ex mt pins σ H s e s' I hq
  | ok fl =>
    cases fl with
    | ret u => exact I.after hq
    | next => exact False.elim hq
    | brk => exact False.elim hq
    | cont => exact False.elim hq
theorem qe_call0 {i : FI} (F : FIOk X i) {j : Nat} (hj : j ≤ i.dfs.length) (hg : Gl X x) (hm : X.mg x = some (.ref i.f)) (hdb : (x == ("__debug__" : Str)) = false) :
    QE X (.Call (.Name x p) [] [] pos) (dFn (spE i.sp (i.dfs.drop j)) dNil) := by
  intro Ex mt pins s σ H Q I h
  refine wpAny_Call_Name_kw (ld_glob I hg hm ?_ hdb)
  exact PySem.W.callWith_K0 I.kIn F.kp (run_fnX (us := []) F hj mt I .nil h)
theorem qe_call {i : FI} {e : Expr} (F : FIOk X i) {j : Nat} (hj : j ≤ i.dfs.length) (hg : Gl X x) (hm : X.mg x = some (.ref i.f)) (ha : QA X (e :: es) r) (hs : (e :: es).all noStar = true) (hdb : (x == ("__debug__" : Str)) = false) :
    QE X (.Call (.Name x p) (e :: es) [] pos) (dFn (spE i.sp (i.dfs.drop j)) r) := by
  intro Ex mt pins s σ H Q I h
  have h2 := List.all_cons ▸ hs
  rw [Bool.and_eq_true] at h2
  refine wpAny_Call_Name_kw (ld_glob I hg hm ?_ hdb)
  refine PySem.W.callWith_K (h₀ := X.base) I.ok.mod.kin F.kp (thn (ha Ex mt pos pins s σ H _ I h) fun us s1 ⟨vs, H1, I1, r, q⟩ => ⟨I1.kIn, ?_⟩) (noStar_ok h2.1 es X.env) (noStars_any h2.2 X.env pos)
  exact run_fnX F hj mt I1 r q
def mkX (C : Addr) : Option FI → Nat → List V → Hp → VK → EK → Prop
  | none, _ => fun _ H Q _ => ∀ a, H a = none → Q (.ref a) (upd H a (excO a C none))
  | some i, j => fun _ _ _ _ => False
theorem run_mkX {C : Addr} {oi : Option FI} {j : Nat} (c : ECls X.K C) (hi : InitOk X C oi) (hj : ∀ i, oi = some i → j ≤ i.dfs.length) {Ex : St → EK} (mt : Meets X Ex) {pins : List (Addr × Obj)} {σ : St} {H : Hp} {s : Shared} {Q : VK} {us : List Value} {vs : List V}
    (I : Inv X pins σ H s) (rv : Vals vs us) (hl : vs.length ≤ 1000) (h : mkX C oi j vs H Q (Ex σ)) : wpAny (model X.prog X.w) X.A (call (.ref C) us) (EP X pins σ Q) X.xe s := by
  cases oi with
  | none => exact run_makeX0 c hi I rv hl h
  | some i =>
    exact (show False from h).elim
theorem qe_mkX0 {C : Addr} {oi : Option FI} {j : Nat} (c : ECls X.K C) (hi : InitOk X C oi) (hj : ∀ i, oi = some i → j ≤ i.dfs.length) (kp : PySem.W.keepIn X.K (.ref C) = true) (hg : Gl X x) (hm : X.mg x = some (.ref C)) (hdb : (x == ("__debug__" : Str)) = false) :
    QE X (.Call (.Name x p) [] [] pos) (dFn (mkX C oi j) dNil) := by
  intro Ex mt pins s σ H Q I h
  refine wpAny_Call_Name_kw (ld_glob I hg hm ?_ hdb)
  exact PySem.W.callWith_K0 I.kIn kp (run_mkX (us := []) c hi hj mt I .nil (by simp) h)
theorem qe_mkX {C : Addr} {oi : Option FI} {j : Nat} {e : Expr} (c : ECls X.K C) (hi : InitOk X C oi) (hj : ∀ i, oi = some i → j ≤ i.dfs.length) (kp : PySem.W.keepIn X.K (.ref C) = true) (hg : Gl X x) (hm : X.mg x = some (.ref C)) (ha : QA X (e :: es) r) (hs : (e :: es).all noStar = true) (hdb : (x == ("__debug__" : Str)) = false) :
    QE X (.Call (.Name x p) (e :: es) [] pos) (dFn (fun vs H Q E => vs.length ≤ 1000 ∧ mkX C oi j vs H Q E) r) := by
  intro Ex mt pins s σ H Q I h
  have h2 := List.all_cons ▸ hs
  rw [Bool.and_eq_true] at h2
  refine wpAny_Call_Name_kw (ld_glob I hg hm ?_ hdb)
  refine PySem.W.callWith_K (h₀ := X.base) I.ok.mod.kin kp (thn (ha Ex mt pos pins s σ H _ I h) fun us s1 ⟨vs, H1, I1, r, q⟩ => ⟨I1.kIn, ?_⟩) (noStar_ok h2.1 es X.env) (noStars_any h2.2 X.env pos)
  exact run_mkX c hi hj mt I1 r q.1 q.2
def mkC (C : Addr) : Option FI → Nat → List V → Hp → VK → EK → Prop
  | none, _ => fun vs H Q _ => vs = [] ∧ ∀ a dx, H a = none → H dx = none → dx ≠ a → Q (.ref a) (upd (upd H dx (.own a)) a (.ins C dx []))
  | some i, j => fun vs H Q E => ∀ a dx, H a = none → H dx = none → dx ≠ a →
      i.sp (.ref a :: (vs ++ i.dfs.drop j)) (upd (upd H dx (.own a)) a (.ins C dx [])) (fun v H2 => v = .non ∧ Q (.ref a) H2) (fun v _ H' => ∃ b, v = .ref b ∧ E b H')
theorem run_make0 {C : Addr} (h1 : PySem.W.makesIn X.K C = true) (h2 : PySem.W.findIn X.K (.ref C) "__init__" = some (some (.builtin "object.__init__"))) {pins : List (Addr × Obj)} {σ : St} {H : Hp} {s : Shared} {Q : VK}
    (I : Inv X pins σ H s) (h : ∀ a dx, H a = none → H dx = none → dx ≠ a → Q (.ref a) (upd (upd H dx (.own a)) a (.ins C dx []))) : wpAny (model X.prog X.w) X.A (call (.ref C) []) (EP X pins σ Q) X.xe s := by
  have hq := h (s.heap.objs.size + 1) s.heap.objs.size (I.hok.fresh (Nat.le_succ _)) (I.hok.fresh (Nat.le_refl _)) (Nat.ne_of_lt (Nat.lt_succ_self _))
  have I2 := Inv.made (C := C) I
  have e2 : ((s.heap.push PySem.W.emptyDict).push (PySem.W.instObj C s.heap.objs.size)).get? (s.heap.objs.size + 1) = some (PySem.W.instObj C s.heap.objs.size) := by
    have z := Heap.get?_push_size (s.heap.push PySem.W.emptyDict) (o := PySem.W.instObj C s.heap.objs.size) rfl
    rwa [Heap.size_push] at z
  refine wpAny_call (make_map0 I.kIn h1 h2 (fun self => .of_pure (PySem.W.oi_bind self)) ?_)
  have ty : PySem.W.Looks (model X.prog X.w) ((s.heap.push PySem.W.emptyDict).push (PySem.W.instObj C s.heap.objs.size)) (typeOf (.ref (s.heap.objs.size + 1))) (.ref C) := (PySem.W.Looks.ld e2).andThen .now
  have io : PySem.W.Looks (model X.prog X.w) ((s.heap.push PySem.W.emptyDict).push (PySem.W.instObj C s.heap.objs.size)) (isInstance (.ref (s.heap.objs.size + 1)) (.type "object")) true :=
    ty.andThen ((PySem.W.makes_of (M := model X.prog X.w) I.kIn h1).top.keeps fun b o e => Heap.get?_push_of_some _ (Heap.get?_push_of_some _ e))
  refine codeAny_call_builtin PySem.W.oi_plain PySem.W.entry_oi (PySem.W.check_slot (s := { s with heap := (s.heap.push PySem.W.emptyDict).push (PySem.W.instObj C s.heap.objs.size) }) (i := "object.__init__") (owner := "object") (self := .ref (s.heap.objs.size + 1)) PySem.W.oi_kind PySem.W.oi_split io (PySem.W.oi_args _) ?_)
  rw [PySem.W.oi_run]
  exact wpAny_pure ⟨rfl, ⟨.ref _, _, I2, rfl, hq⟩⟩
theorem run_mk1 {C f : Addr} {CX : CXT} {k : Nat} {fd : FuncData} {ps : List Str} {sp : Sp} {ds : List Value} {dvs : List V} {E : XK} {pins : List (Addr × Obj)} {σ : St} {H : Hp} {s : Shared} {Q : VK} {us : List Value} {vs : List V}
    (M : Mk X.K C f) (F : FnOk X.prog X.w X.K X.mg X.base CX k f fd ps sp) (hr : Room (k + 1) X.A) (hb : Binds X.K fd ps ds) (hd : Vals dvs ds) (hx : ∀ H1 s1 e s', Inv X pins σ H1 s1 → CX X.stack H1 s1 E e s' → X.xe e s') (I : Inv X pins σ H s) (r : Vals vs us)
    (h : ∀ x dx, H x = none → H dx = none → dx ≠ x → sp (.ref x :: (vs ++ dvs)) (upd (upd H dx (.own x)) x (.ins C dx [])) (fun v H2 => v = .non ∧ Q (.ref x) H2) E) :
    wpAny (model X.prog X.w) X.A (call (.ref C) us) (EP X pins σ Q) X.xe s := by
  have hq := h (s.heap.objs.size + 1) s.heap.objs.size (I.hok.fresh (Nat.le_succ _)) (I.hok.fresh (Nat.le_refl _)) (Nat.ne_of_lt (Nat.lt_succ_self _))
  have I2 := Inv.made (C := C) I
  have r2 : Vals (V.ref (s.heap.objs.size + 1) :: (vs ++ dvs)) (Value.ref (s.heap.objs.size + 1) :: (us ++ ds)) := .cons rfl (r.append hd)
  have hl : (Value.ref (s.heap.objs.size + 1) :: us ++ ds).length = ps.length := by
    have e := r2.length
    rw [F.len _ _ _ _ hq] at e
    exact e.symm
  refine wpAny_call (make_map (f := f) I.kIn M.makes M.init (beq_iff_eq.mp M.fn) (codeAny_mono (F.run _ X.stack _ _ ⟨Value.ref (s.heap.objs.size + 1) :: us, []⟩ (Value.ref (s.heap.objs.size + 1) :: (us ++ ds)) _ _ E (hr.make C us [])
    (I2.env0.make C us []) (hb _ (Value.ref (s.heap.objs.size + 1) :: us) I2.kIn hl) r2 hq) fun r s' hq' => ?_))
  cases r with
  | error e => exact hx _ _ e s' I2 hq'
  | ok fl =>
    cases fl with
    | ret u =>
      obtain ⟨v, H', I3, rv, ev, q3⟩ := I2.after hq'
      subst ev
      exact ⟨rv, ⟨V.ref (s.heap.objs.size + 1), H', I3, rfl, q3⟩⟩
    | next => exact False.elim hq'
    | brk => exact False.elim hq'
    | cont => exact False.elim hq'
theorem run_mkC {C : Addr} {oi : Option FI} {j : Nat} (hi : MkOk X C oi) (hj : ∀ i, oi = some i → j ≤ i.dfs.length) {Ex : St → EK} (mt : Meets X Ex) {pins : List (Addr × Obj)} {σ : St} {H : Hp} {s : Shared} {Q : VK} {us : List Value} {vs : List V}
    (I : Inv X pins σ H s) (rv : Vals vs us) (kp : PySem.W.keepIn X.K (.ref C) = true) (h : mkC C oi j vs H Q (Ex σ)) : wpAny (model X.prog X.w) X.A (call (.ref C) us) (EP X pins σ Q) X.xe s := by
  cases oi with
  | none =>
    obtain ⟨rfl, h⟩ := h
    cases rv
    exact run_make0 hi.1 hi.2 I h
  | some i =>
    obtain ⟨h0, h1, h2, F, hr⟩ := hi
    obtain ⟨CX, hx, FO⟩ := F.ok
    exact run_mk1 ⟨h0, h1, h2, kp⟩ FO hr (F.binds j (hj i rfl)) (F.vals.drop j) (fun H1 s1 e s' I1 q => hx X rfl rfl Ex mt pins σ H1 s1 e s' I1 q) I rv h
theorem qe_mkC0 {C : Addr} {oi : Option FI} {j : Nat} (hi : MkOk X C oi) (hj : ∀ i, oi = some i → j ≤ i.dfs.length) (kp : PySem.W.keepIn X.K (.ref C) = true) (hg : Gl X x) (hm : X.mg x = some (.ref C)) (hdb : (x == ("__debug__" : Str)) = false) :
    QE X (.Call (.Name x p) [] [] pos) (dFn (mkC C oi j) dNil) := by
  intro Ex mt pins s σ H Q I h
  refine wpAny_Call_Name_kw (ld_glob I hg hm ?_ hdb)
  exact PySem.W.callWith_K0 I.kIn kp (run_mkC (us := []) hi hj mt I .nil kp h)
theorem qe_mkC {C : Addr} {oi : Option FI} {j : Nat} {e : Expr} (hi : MkOk X C oi) (hj : ∀ i, oi = some i → j ≤ i.dfs.length) (kp : PySem.W.keepIn X.K (.ref C) = true) (hg : Gl X x) (hm : X.mg x = some (.ref C)) (ha : QA X (e :: es) r) (hs : (e :: es).all noStar = true) (hdb : (x == ("__debug__" : Str)) = false) :
    QE X (.Call (.Name x p) (e :: es) [] pos) (dFn (mkC C oi j) r) := by
  intro Ex mt pins s σ H Q I h
  have h2 := List.all_cons ▸ hs
  rw [Bool.and_eq_true] at h2
  refine wpAny_Call_Name_kw (ld_glob I hg hm ?_ hdb)
  refine PySem.W.callWith_K (h₀ := X.base) I.ok.mod.kin kp (thn (ha Ex mt pos pins s σ H _ I h) fun us s1 ⟨vs, H1, I1, r, q⟩ => ⟨I1.kIn, ?_⟩) (noStar_ok h2.1 es X.env) (noStars_any h2.2 X.env pos)
  exact run_mkC hi hj mt I1 r kp q
def dOwn (m : Str) (n : Nat) (l : List MI) (o : DE) (t : DA) : DE := fun σ H Q E => o σ H (fun x H1 => ∃ a dx fs mi, x = .ref a ∧ mi ∈ l ∧ H1 a = some (.ins mi.C dx fs) ∧ fs.lookup m = none ∧ (n + 1 ≤ mi.i.ps.length ∧ mi.i.ps.length ≤ n + 1 + mi.i.dfs.length) ∧
  t σ H1 (fun vs H2 => spE mi.i.sp (mi.i.dfs.drop (n + 1 + mi.i.dfs.length - mi.i.ps.length)) (.ref a :: vs) H2 Q E) E) E
theorem own_call {es : List Expr} {P : Value → Shared → Prop} {s : Shared} (h1 : noSuper o = true) (h2 : es.all noStar = true) (h3 : es.length < 30) (h4 : (apos.endLine == cpos.line) = true)
    (h : wpAny (model X.prog X.w) X.A (eval o X.env) (fun ov s1 => ∀ pl, wpAny (model X.prog X.w) X.A (getMethod ov m pl) (fun fx s2 => wpAny (model X.prog X.w) X.A (callWith cpos fx.1 fx.2 (backTo cpos (starEach es X.env)) (backToKw cpos (keywordEach [] X.env))) P X.xe s2) X.xe s1) X.xe s) :
    wpAny (model X.prog X.w) X.A (eval (.Call (.Attribute o m apos) es [] cpos) X.env) P X.xe s := by
  have few : methodCallForm (es.length + ([] : List Keyword).length) (backTo cpos (starEach es X.env)) (backToKw cpos (keywordEach [] X.env)) = true := by
    unfold methodCallForm
    rw [noStars_all h2]
    simpa [backToKw, keywordEach] using h3
  rw [arm_eval_Call, noSuper_ok h1]
  refine wpAny_bind (thn h fun ov s1 h1 => wpAny_bind (wpAny_standAt ?_))
  unfold methodCall calleeOf
  rw [few, if_pos rfl]
  refine wpAny_bind (wpAny_holding (thn (h1 _) fun fx s2 h2 => ?_))
  have hp : methodCallPos true o X.env apos cpos = pure cpos := by unfold methodCallPos; rw [h4]; rfl
  rw [hp]
  exact wpAny_bind (wpAny_pure h2)
theorem qe_own0 {l : List MI} (hl : ∀ mi ∈ l, Cls X.K mi.C ∧ Meth X.K mi.C m mi.i.f ∧ FIOk X mi.i) (ho : QE X o do') (h1 : noSuper o = true) (h4 : (apos.endLine == cpos.line) = true) :
    QE X (.Call (.Attribute o m apos) [] [] cpos) (dOwn m 0 l do' dNil) := by
  intro Ex mt pins s σ H Q I h
  refine own_call (es := []) h1 rfl (by decide) h4 (thn (ho Ex mt pins s σ H _ I h) fun u s1 ⟨x, H1, I1, rx, a, dx, fs, mi, ex, hm, ea, hf, hn, q⟩ pl => ?_)
  subst ex
  obtain rfl : u = Value.ref a := rx
  obtain ⟨c, k, F⟩ := hl mi hm
  refine getmeth_ok I1 ea c k hf ?_
  exact PySem.W.callWith_K0 (first := [.ref a]) I1.kIn k.kp (run_fnX (us := [.ref a]) (vs := [.ref a]) F (by omega) mt I1 (.cons rfl .nil) q)
theorem qe_own {l : List MI} {e : Expr} (hl : ∀ mi ∈ l, Cls X.K mi.C ∧ Meth X.K mi.C m mi.i.f ∧ FIOk X mi.i) (ho : QE X o do') (ha : QA X (e :: es) r) (h1 : noSuper o = true) (h2 : (e :: es).all noStar = true) (h3 : (e :: es).length < 30) (h4 : (apos.endLine == cpos.line) = true) :
    QE X (.Call (.Attribute o m apos) (e :: es) [] cpos) (dOwn m (es.length + 1) l do' r) := by
  intro Ex mt pins s σ H Q I h
  refine own_call h1 h2 h3 h4 (thn (ho Ex mt pins s σ H _ I h) fun u s1 ⟨x, H1, I1, rx, a, dx, fs, mi, ex, hm, ea, hf, hn, q⟩ pl => ?_)
  subst ex
  obtain rfl : u = Value.ref a := rx
  obtain ⟨c, k, F⟩ := hl mi hm
  refine getmeth_ok I1 ea c k hf ?_
  have hs := List.all_cons ▸ h2
  rw [Bool.and_eq_true] at hs
  refine PySem.W.callWith_K (first := [.ref a]) (h₀ := X.base) I.ok.mod.kin k.kp (thn (ha Ex mt cpos pins s1 σ H1 _ I1 q) fun us s2 ⟨vs, H2, I2, r2, q2⟩ => ⟨I2.kIn, ?_⟩) (noStar_ok hs.1 es X.env) (noStars_any hs.2 X.env cpos)
  exact run_fnX (us := .ref a :: us) (vs := .ref a :: vs) F (by omega) mt I2 (.cons rfl r2) q2
def dDNew : DE := fun _ H Q _ => ∀ p, H p = none → Q (.ref p) (upd H p (.dK [])) ∨ Q (.ref p) (upd H p (.dT []))
theorem qe_dnew : QE X (.Dict [] [] pos) dDNew := fun Ex mt pins s σ H Q I h => by
  have fr := I.hok.fresh (Nat.le_refl s.heap.objs.size)
  rcases h _ fr with q | q
  · exact wpAny_Dict_empty ⟨.ref _, _, I.laid (a := s.heap.objs.size) (o := .dK []) (t' := s.toks) (fun _ _ q => Heap.get?_push_of_some _ q) (Nat.le_refl _) (dk_empty s.heap I.big), rfl, q⟩
  · exact wpAny_Dict_empty ⟨.ref _, _, I.laid (a := s.heap.objs.size) (o := .dT []) (t' := s.toks) (fun _ _ q => Heap.get?_push_of_some _ q) (Nat.le_refl _) (dt_empty s.heap I.big), rfl, q⟩
def dPairs : List (DE × DE) → St → Hp → (List (V × V) → Hp → Prop) → EK → Prop
  | [], _, H, Q, _ => Q [] H
  | (k, v) :: r, σ, H, Q, E => k σ H (fun x H1 => v σ H1 (fun y H2 => dPairs r σ H2 (fun ps H3 => Q ((x, y) :: ps) H3) E) E) E
def dDisp (trs : List (DE × DE)) : DE := fun σ H Q E => ∀ p, H p = none → dPairs trs σ (upd H p (.dK [])) (fun ps H2 => H2 p = some (.dK []) ∧ ∃ kvs : List (Key × V), ps = kvs.map (fun kv => (kV kv.1, kv.2)) ∧ kvs.length ≤ 15 ∧ Q (.ref p) (upd H2 p (.dK (mergeK [] kvs)))) E
theorem pps_ok {w : Expr → DE} (h : ∀ e, QE X e (w e)) {Ex : St → EK} (mt : Meets X Ex) (pos : Pos) : ∀ (ks vs : List Expr), ks.length = vs.length → PPs X pos (ks.map some) vs ((ks.zip vs).map fun p => ((fun σ H Q => w p.1 σ H Q (Ex σ)), fun σ H Q => w p.2 σ H Q (Ex σ)))
  | [], [], _ => pps_nil
  | k :: ks, v :: vs, hl => pps_cons (h k Ex mt) (h v Ex mt) (pps_ok h mt pos ks vs (by simpa using hl))
  | [], _ :: _, hl => by simp at hl
  | _ :: _, [], hl => by simp at hl
theorem dPairs_t {Ex : St → EK} {w : Expr → DE} : ∀ (l : List (Expr × Expr)) (σ : St) (H : Hp) (Q : List (V × V) → Hp → Prop), dPairs (l.map fun p => (w p.1, w p.2)) σ H Q (Ex σ) = tPairs (l.map fun p => ((fun σ H Q => w p.1 σ H Q (Ex σ)), fun σ H Q => w p.2 σ H Q (Ex σ))) σ H Q
  | [], _, _, _ => rfl
  | (k, v) :: r, σ, H, Q => by
    show w k σ H _ _ = w k σ H _ _
    congr 1
    funext x H1
    congr 1
    funext y H2
    exact dPairs_t r σ H2 _
theorem qe_disp {w : Expr → DE} (h : ∀ e, QE X e (w e)) {ks vs : List Expr} (hl : ks.length = vs.length) (h0 : ks ≠ []) (h15 : ks.length ≤ 15) : QE X (.Dict (ks.map some) vs pos) (dDisp ((ks.zip vs).map fun p => (w p.1, w p.2))) := by
  intro Ex mt pins s σ H Q I q
  refine pe_disp (pps_ok h mt pos ks vs hl) (by simp) (by simpa using hl) (by simpa using h0) (by simpa using h15) pins s σ H Q I ?_
  intro p hp
  have q := q p hp
  rw [dPairs_t] at q
  exact q
theorem qe_lenSet {a : Expr} {da : DE} {p2 pos2 : Pos} (hc : X.calm = true) (hg : Gl X "len") (hm : X.mg "len" = none) (hg2 : Gl X "set") (hm2 : X.mg "set" = none) (ha : QE X a da) (hs : noStar a = true) :
    QE X (.Call (.Name "len" p) [.Call (.Name "set" p2) [a] [] pos2] [] pos) (dUn (rLenSet X.K) da) := by
  intro Ex mt pins s σ H Q I h
  refine wpAny_Call_Name_kw (ld_blt I hg hm PySem.boot_len (PyProof.Rows.callWith_builtin1 (Calls.spliced_cons ?_) rfl rfl) (by decide) (by decide))
  refine wpAny_Call_Name_kw (ld_blt I hg2 hm2 PyProof.Rows.boot_set (PyProof.Rows.callWith_type1 ?_ (noStar_ok hs [] X.env) rfl) (by decide) (by decide))
  rw [noStar_ok hs]
  show wpAny _ _ (spliced ((false, eval a X.env) :: backTo pos2 (starEach [] X.env))) _ _ s
  refine Calls.spliced_cons (thn (ha Ex mt pins s σ H _ I h) fun u s1 ⟨x, H1, I1, r1, q1⟩ => Calls.spliced_nil ?_)
  exact thn (len_set hc I1 r1 q1) fun v s2 q => Calls.spliced_nil q
def rListItems (K : PySem.W.Frag) : V → Hp → VK → Prop := fun x H Q => match x with
  | .ref p => ∃ kvs, Rd H p (.dK kvs) ∧ kvs.length < 1000 ∧ ∀ l Ts H', OnTop H H' → H l = none → H' l = some (.lst (Ts.map V.ref)) → Ts.length = kvs.length → Laid H H' kvs Ts → Q (.ref l) H'
  | _ => False
theorem qe_listItems {o : Expr} {do' : DE} {ap cp : Pos} (hc : X.calm = true) (hg : Gl X "list") (hm : X.mg "list" = none) (ho : QE X o do') (h1 : noSuper o = true) (h4 : (ap.endLine == cp.line) = true) :
    QE X (.Call (.Name "list" p) [.Call (.Attribute o "items" ap) [] [] cp] [] pos) (dUn (rListItems X.K) do') := by
  intro Ex mt pins s σ H Q I h
  refine wpAny_Call_Name_kw (ld_blt I hg hm PyProof.Rows.boot_list (PyProof.Rows.callWith_type1 (Calls.spliced_cons ?_) rfl rfl) (by decide) (by decide))
  refine wpAny_Call_method0_late (noSuper_ok h1 "items" X.env _) h4 (thn (ho Ex mt pins s σ H _ I h) fun v s1 ⟨x, H1, I1, r1, q1⟩ => ?_)
  cases x with
  | ref a =>
    cases r1
    obtain ⟨kvs, rd, few, q⟩ := q1
    obtain ⟨_, lo, vs, rel, dof⟩ := dk_rd I1.hok rd
    obtain ⟨ob, es, ep, e, c, _⟩ := id dof
    refine ⟨"dict", "dict.items", PySem.F.plainAttrs_dict, PySem.F.slot_dict_items, PySem.F.type_dict_items, dof.typeIs, fun a' e' => ?_, Calls.callWith_builtin rfl (PySem.evalArgs_none ?_)⟩
    · cases e'; exact ⟨ob, e, c.2.1⟩
    · exact thn (list_items hc I1 rd few fun l Ts H' s' I' top fr hl len laid => ⟨.ref l, H', I', rfl, q l Ts H' top fr hl len laid⟩) fun v s2 q => Calls.spliced_nil q
  | _ => exact (show False from q1).elim
end
end L2
set_option maxRecDepth 100000
set_option maxHeartbeats 4000000
namespace L2
open PySem PySem.Spec PyProof.Rows
def QI (X : Cx) (tg e : Expr) (t : DI) : Prop := ∀ Ex, Meets X Ex → PI X tg e (fun σ H R => t σ H R (Ex σ))
def iNo : DI := fun _ _ _ _ => False
def onD (p : Addr) (H : Hp) (R : Obj → List (Key × V) → Hp → Prop) : Prop := (∃ kvs, H p = some (.dK kvs) ∧ ∀ o, R o kvs (upd H p (.frz o (.dK kvs)))) ∨ ∃ o kvs, H p = some (.frz o (.dK kvs)) ∧ R o kvs H
theorem onD_go {X : Cx} {pins : List (Addr × Obj)} {σ : St} {H : Hp} {s : Shared} {p : Addr} {R : Obj → List (Key × V) → Hp → Prop} (I : Inv X pins σ H s) (h : onD p H R) : ∃ o kvs H', Inv X pins σ H' s ∧ H' p = some (.frz o (.dK kvs)) ∧ R o kvs H' := by
  rcases h with ⟨kvs, e, q⟩ | ⟨o, kvs, e, q⟩
  · obtain ⟨o, ep, _, _, I'⟩ := I.froze e
    exact ⟨o, kvs, _, I', upd_same, q o⟩
  · exact ⟨o, kvs, H, I, e, q⟩
def iVal (K : PySem.W.Frag) (a : DE) : DI := fun σ H R E => a σ H (fun x H1 => match x with
  | .str z => R (Its z) H1
  | .ref p => ((∃ xs, SqL K H1 p xs) ∧ R (Itl K p) H1) ∨ ((∃ xs, SqT K H1 p xs) ∧ R (Itt K p) H1) ∨ onD p H1 fun o kvs H2 => R (Itd p o kvs) H2
  | _ => False) E
def iRng (t : DA) : DI := fun σ H R E => t σ H (fun vs H1 => match vs with
  | [.int j] => (-(2 ^ 62) ≤ j ∧ j < 2 ^ 62) ∧ R (Itr 0 j.toNat) H1
  | [.int i, .int j] => (-(2 ^ 62) ≤ i ∧ i < 2 ^ 62 ∧ -(2 ^ 62) ≤ j ∧ j < 2 ^ 62) ∧ R (Itr i (j - i).toNat) H1
  | _ => False) E
def iEn (K : PySem.W.Frag) (t : DA) : DI := fun σ H R E => t σ H (fun vs H1 => match vs with
  | [.ref a] => ((∃ xs, SqL K H1 a xs) ∧ R (Ite K a) H1) ∨ onD a H1 fun o kvs H2 => R (Itde a o kvs) H2
  | _ => False) E
section
variable {X : Cx} {tg e a b : Expr} {da : DE} {r : DA} {p pos : Pos}
theorem qi_no : QI X tg e iNo := fun _ _ _ _ _ _ _ _ h => h.elim
theorem qi_val (ha : QE X e da) : QI X tg e (iVal X.K da) := by
  intro Ex mt pins s σ H R I h
  refine thn (ha Ex mt pins s σ H _ I h) fun v s1 ⟨x, H1, I1, r1, q1⟩ => ?_
  cases x with
  | str z =>
    obtain ⟨t, rfl⟩ := r1
    refine wpAny_pyIter_strU ?_
    refine ⟨s1.heap.objs.size, [s1.heap.objs.size], _, _, H1, rfl, I1.kept (t' := s1.toks) fun b o e => Heap.get?_push_of_some _ e, turn_str s1.heap.objs.size z t (strIterType z) (by unfold strIterType; split <;> simp), ⟨_, Heap.get?_push_size _ rfl, rfl, rfl⟩, fun b hb => ?_, q1⟩
    have e : b = s1.heap.objs.size := by simpa using hb
    subst e
    exact I1.fpOk (Nat.le_refl _) (I1.hok.fresh (Nat.le_refl _))
  | ref a =>
    cases r1
    rcases q1 with ⟨⟨xs, hq⟩, q⟩ | ⟨⟨xs, hq⟩, q⟩ | q
    · obtain ⟨its, rv, p, hz⟩ := I1.list hq
      refine wpAny_pyIter_list p.isList ?_
      refine ⟨s1.heap.objs.size, [s1.heap.objs.size], _, _, H1, rfl, I1.kept (t' := s1.toks) fun b o e => Heap.get?_push_of_some _ e, turn_list a _, ⟨_, Heap.get?_push_size _ rfl, rfl, rfl⟩, fun b hb => ?_, q⟩
      have e : b = s1.heap.objs.size := by simpa using hb
      subst e
      exact I1.fpOk (Nat.le_refl _) (I1.hok.fresh (Nat.le_refl _))
    · obtain ⟨its, rv, p, hz⟩ := I1.tuple hq
      refine wpAny_pyIter_tuple (show s1.heap.IsTuple a its.toArray from p) ?_
      refine ⟨s1.heap.objs.size, [s1.heap.objs.size], _, _, H1, rfl, I1.kept (t' := s1.toks) fun b o e => Heap.get?_push_of_some _ e, turn_tuple a _, ⟨_, Heap.get?_push_size _ rfl, rfl, rfl⟩, fun b hb => ?_, q⟩
      have e : b = s1.heap.objs.size := by simpa using hb
      subst e
      exact I1.fpOk (Nat.le_refl _) (I1.hok.fresh (Nat.le_refl _))
    · obtain ⟨o, kvs, H2, I2, e, q⟩ := onD_go I1 q
      exact dict_it I2 e q
  | _ => exact (show False from q1).elim
variable {es : List Expr}
theorem qi_range (hg : Gl X "range") (hm : X.mg "range" = none) (ha : QA X (a :: es) r) (hs : (a :: es).all noStar = true) : QI X tg (.Call (.Name "range" p) (a :: es) [] pos) (iRng r) := by
  intro Ex mt pins s σ H R I h
  have h2 := List.all_cons ▸ hs
  rw [Bool.and_eq_true] at h2
  refine Call_ (ld_blt I hg hm boot_range (PyProof.Rows.callWith_type1 (thn (ha Ex mt pos pins s σ H _ I h) fun us s1 ⟨vs, H1, I1, r1, q1⟩ => ?_) (noStar_ok h2.1 es X.env) (noStars_any h2.2 X.env pos)))
  dsimp only at q1
  split at q1
  · obtain ⟨⟨h1, h2⟩, q⟩ := q1
    obtain ⟨u, rfl, t, rfl⟩ := vals1 r1
    exact call_range_1 (range_it I1 (by omega) (by omega) h1 h2 (by simpa using q))
  · obtain ⟨⟨h1, h2, h3, h4⟩, q⟩ := q1
    obtain ⟨u, v, rfl, ⟨t, rfl⟩, ⟨t', rfl⟩⟩ := vals2 r1
    exact call_range_2 (range_it I1 h1 h2 h3 h4 q)
  · exact q1.elim
theorem qi_enum {elts : List Expr} {kt : Nat} {pt : Pos} (hg : Gl X "enumerate") (hm : X.mg "enumerate" = none) (ha : QA X (a :: es) r) (hs : (a :: es).all noStar = true) : QI X (.Tuple elts kt pt) (.Call (.Name "enumerate" p) (a :: es) [] pos) (iEn X.K r) := by
  intro Ex mt pins s σ H R I h
  have hh := List.all_cons ▸ hs
  rw [Bool.and_eq_true] at hh
  refine Call_ (ld_blt I hg hm boot_enumerate (PyProof.Rows.callWith_type1 (thn (ha Ex mt pos pins s σ H _ I h) fun us s1 ⟨vs, H1, I1, r1, q1⟩ => ?_) (noStar_ok hh.1 es X.env) (noStars_any hh.2 X.env pos)))
  dsimp only at q1
  split at q1
  · rename_i l
    obtain ⟨u, rfl, ru⟩ := vals1 r1
    cases ru
    rcases q1 with ⟨⟨xs, q1⟩, q⟩ | q
    case inr =>
      obtain ⟨o, kvs, H2, I2, e, q⟩ := onD_go I1 q
      exact enumD_it I2 e q
    obtain ⟨its1, t1, p1, z1⟩ := I1.list q1
    refine call_enumerate_list p1.isList fun h' he hit hsz hk => ?_
    refine wpAny_pyIter_enum he ?_
    refine ⟨_, _, _, _, H1, rfl, I1.kept (t' := s1.toks) hk, turn_enum (Nat.succ_ne_self _), ⟨⟨_, he⟩, hit⟩, fun b hb => ?_, q⟩
    have hb : b = s1.heap.objs.size + 1 ∨ b = s1.heap.objs.size := by simpa using hb
    have le : s1.heap.objs.size ≤ b := by
      rcases hb with e | e
      · rw [e]; exact Nat.le_add_right _ 1
      · rw [e]; exact Nat.le_refl _
    exact I1.fpOk le (I1.hok.fresh le)
  · exact q1.elim
def gNo : DG := fun _ _ _ _ => False
def gdS : List DG → List V → St → Hp → (St → Hp → Prop) → Prop
  | [], [], σ, H, Q => Q σ H
  | g :: gs, v :: vs, σ, H, Q => g v σ H fun σ' H' => gdS gs vs σ' H' Q
  | _, _, _, _, _ => False
def gdT (K : PySem.W.Frag) (n : Nat) (gs : List DG) : DG := fun v σ H Q => match v with
  | .ref a => ∃ xs, SqT K H a xs ∧ xs.length = n ∧ gdS gs xs σ H Q
  | _ => False
theorem pg_no : PG X tg gNo := fun _ _ _ _ _ _ _ _ _ h => h.elim
theorem pgs_N : PGs X [] (gdS []) := by
  intro pins s σ H vs us Q I r h
  cases vs with
  | nil => exact pgs_nil pins s σ H [] us Q I r ⟨rfl, h⟩
  | cons v vs => exact (show False from h).elim
theorem pgs_C {g : DG} {gs : List DG} {ts : List Expr} (h1 : PG X tg g) (h2 : PGs X ts (gdS gs)) (hs : (assignEach (tg :: ts) X.env).map (·.2) = assign tg X.env :: (assignEach ts X.env).map (·.2)) : PGs X (tg :: ts) (gdS (g :: gs)) := by
  intro pins s σ H vs us Q I r h
  cases vs with
  | nil => exact (show False from h).elim
  | cons v vs => exact pgs_cons h1 h2 hs pins s σ H (v :: vs) us Q I r ⟨v, vs, rfl, h⟩
theorem pg_T {ts : List Expr} {k n : Nat} {gs : List DG} (hc : X.calm = true) (h : PGs X ts (gdS gs)) (hn : (assignEach ts X.env).length = n) (hst : (assignEach ts X.env).findIdx? (·.1) = none) : PG X (.Tuple ts k pos) (gdT X.K n gs) := by
  intro pins s σ H v u Q I r hw
  cases v with
  | ref a => exact pg_tup hc h hn hst pins s σ H _ u Q I r (let ⟨xs, h1, h2, h3⟩ := hw; ⟨a, xs, rfl, h1, h2, h3⟩)
  | _ => exact (show False from hw).elim
end
end L2
set_option maxRecDepth 100000
set_option maxHeartbeats 4000000
namespace L2
open PySem PySem.Spec PyProof.Rows
def closL (cs : List (Str × Addr)) : List (Str × NameKind) → List (Str × Addr) → List (Str × Addr)
  | [], acc => acc
  | (n, k) :: r, acc => if k == .free then closL cs r ((n, (cs.lookup n).getD 0) :: acc) else closL cs r acc
theorem closureFor_eq {scope : Scope} {env : Env} (h : ∀ y ∈ scope.names, y.2 = .free → ∃ c, env.cells.lookup y.1 = some c) : closureFor scope env = pure (closL env.cells scope.names []) := by
  unfold closureFor
  generalize scope.names = names at h
  suffices ∀ acc, (forIn names acc fun (x : Str × NameKind) cs => do
      if (x.2 == .free) = true then do
        let c ← cellOf env x.1
        pure (ForInStep.yield ((x.1, c) :: cs))
      else pure (ForInStep.yield cs) : Sem (List (Str × Addr))) = pure (closL env.cells names acc) by
    have := this []
    simp only [bind_pure]
    exact this
  induction names with
  | nil => intro acc; rfl
  | cons y r ih =>
    intro acc
    obtain ⟨n, k⟩ := y
    rw [List.forIn_cons]
    unfold closL
    by_cases e : (k == NameKind.free) = true
    · obtain ⟨c, hc⟩ := h (n, k) (by simp) (eq_of_beq e)
      have ec : cellOf env n = pure c := by
        unfold cellOf
        rw [show env.cells.lookup n = some c from hc]
      simp only [e, if_true, ec, pure_bind]
      rw [ih (fun y hy => h y (List.mem_cons_of_mem _ hy))]
      rw [show env.cells.lookup n = some c from hc]
      rfl
    · have e' : (k == NameKind.free) = false := by simpa using e
      simp only [e', Bool.false_eq_true, if_false, pure_bind]
      rw [ih (fun y hy => h y (List.mem_cons_of_mem _ hy))]
theorem closL_mem {cs : List (Str × Addr)} : ∀ {names : List (Str × NameKind)} {acc : List (Str × Addr)} {p : Str × Addr}, p ∈ closL cs names acc → p ∈ acc ∨ ((p.1, NameKind.free) ∈ names ∧ p.2 = (cs.lookup p.1).getD 0)
  | [], _, _, h => .inl h
  | (n, k) :: r, acc, p, h => by
    unfold closL at h
    by_cases e : (k == NameKind.free) = true
    · rw [if_pos e] at h
      rcases closL_mem h with h | ⟨h1, h2⟩
      · rcases List.mem_cons.mp h with h | h
        · subst h
          exact .inr ⟨by rw [eq_of_beq e]; simp, rfl⟩
        · exact .inl h
      · exact .inr ⟨List.mem_cons_of_mem _ h1, h2⟩
    · rw [if_neg e] at h
      rcases closL_mem h with h | ⟨h1, h2⟩
      · exact .inl h
      · exact .inr ⟨List.mem_cons_of_mem _ h1, h2⟩
theorem closL_acc {cs : List (Str × Addr)} : ∀ {names : List (Str × NameKind)} {acc : List (Str × Addr)} {p : Str × Addr}, p ∈ acc → p ∈ closL cs names acc
  | [], _, _, h => h
  | (n, k) :: r, acc, p, h => by
    unfold closL
    split
    · exact closL_acc (List.mem_cons_of_mem _ h)
    · exact closL_acc h
theorem closL_has {cs : List (Str × Addr)} : ∀ {names : List (Str × NameKind)} {acc : List (Str × Addr)} {n : Str}, (n, NameKind.free) ∈ names → n ∈ (closL cs names acc).map (·.1)
  | [], _, _, h => by cases h
  | (m, k) :: r, acc, n, h => by
    unfold closL
    rcases List.mem_cons.mp h with e | h
    · cases e
      rw [if_pos (show (NameKind.free == NameKind.free) = true from rfl)]
      exact List.mem_map.mpr ⟨_, closL_acc (List.mem_cons_self), rfl⟩
    · split <;> exact closL_has h
def relN (sc : List (Str × NameKind)) (names : List (Str × NameKind)) : List (Str × NameKind) := names.map fun (n, k) => if (k == .free && sc.lookup n == some .cell) then (n, .cell) else (n, k)
def locN (names : List (Str × NameKind)) : List Str := (names.filter fun y => (y.2 == .local) && !(y.1 == (".0" : Str))).map (·.1)
def freN (names : List (Str × NameKind)) : List Str := (names.filter fun y => y.2 == .free).map (·.1)
def cfV (o : Option NameKind) : Bool := o == some .cell || o == some .free
def compG (G : Sg) (names : List (Str × NameKind)) : Sg := { G with N := locN names ++ freN names, sc := relN G.sc names, top := false }
def compSrc (G : Sg) (names : List (Str × NameKind)) : List (Option Nat) := (locN names).map (fun _ => none) ++ (freN names).map (fun x => slotF G.N x 0)
def compOk (G : Sg) (sc : Scope) : Bool :=
  (sc.names.all fun y => !(y.2 == .cell)) && (sc.names.all fun y => !(y.2 == .local) || (sc.names.lookup y.1 == some .local)) && (sc.kind == .function) &&
  decide (locN sc.names ++ freN sc.names).Nodup && ((freN sc.names).all fun x => (slotF G.N x 0).isSome && cfV (G.sc.lookup x) && cfV ((relN G.sc sc.names).lookup x)) &&
  ((locN sc.names).all fun x => (relN G.sc sc.names).lookup x == some .local)
section
variable {X : Cx} {G : Sg} {sc : Scope}
theorem cfV_iff {o : Option NameKind} (h : cfV o = true) : o = some .cell ∨ o = some .free := by
  unfold cfV at h
  rw [Bool.or_eq_true] at h
  exact h.elim (fun e => .inl (eq_of_beq e)) fun e => .inr (eq_of_beq e)
theorem relabel_eq (O : GOk X G) : (relabel sc X.env).names = relN G.sc sc.names := by
  unfold relabel relN
  apply List.map_congr_left
  rintro ⟨n, k⟩ _
  have e : X.env.kindOf n = G.sc.lookup n := O.sc n
  dsimp only
  rw [e, O.kind]
  simp
theorem comp_sc (O : GOk X G) (h : compOk G sc = true) : CompSc X (compG G sc.names).N (compSrc G sc.names) sc (closL X.env.cells sc.names []) := by
  unfold compOk at h
  simp only [Bool.and_eq_true, List.all_eq_true, Bool.not_eq_true', decide_eq_true_eq, Bool.or_eq_true] at h
  obtain ⟨⟨⟨⟨⟨h1, h2⟩, h3⟩, h4⟩, h5⟩, h6⟩ := h
  have fr : ∀ y ∈ sc.names, y.2 = .free → ∃ c, X.env.cells.lookup y.1 = some c := fun y hy hf => by
    refine O.cel y.1 ?_
    rw [O.sc]
    refine cfV_iff (h5 y.1 ?_).1.2
    exact List.mem_map.mpr ⟨y, List.mem_filter.mpr ⟨hy, by rw [hf]; rfl⟩, rfl⟩
  have nc : ∀ y ∈ sc.names, y.2 ≠ .cell := fun y hy e => by
    have := h1 y hy
    rw [e] at this
    cases this
  refine ⟨closureFor_eq fr, nc, eq_of_beq h3, fun y hy hl => ?_, fun x c hx => ?_, fun x hx => ?_, ?_, fun k j x e1 e2 => ?_⟩
  · rcases h2 y hy with z | z
    · rw [hl] at z; cases z
    · exact eq_of_beq z
  · have hm := PySem.mem_of_lookup hx
    rcases closL_mem hm with z | ⟨z1, z2⟩
    · cases z
    · obtain ⟨c', hc'⟩ := fr _ z1 rfl
      have z2' : c = (X.env.cells.lookup x).getD 0 := z2
      rw [show X.env.cells.lookup x = some c' from hc'] at z2' ⊢
      rw [z2']
      rfl
  · have hn : (relabel sc X.env).names = relN G.sc sc.names := relabel_eq O
    have key : ∀ kd, (relabel sc X.env).names.lookup x = some kd → cfV (some kd) = true → ∃ c, (closL X.env.cells sc.names []).lookup x = some c := fun kd hkd hc => by
      rw [hn] at hkd
      have hm := PySem.mem_of_lookup hkd
      unfold relN at hm
      obtain ⟨⟨n, k⟩, hy, e⟩ := List.mem_map.mp hm
      dsimp only at e
      have hfree : k = .free ∧ n = x := by
        have hkc := nc _ hy
        by_cases e1 : (k == NameKind.free && G.sc.lookup n == some .cell) = true
        · rw [if_pos e1] at e
          rw [Bool.and_eq_true] at e1
          exact ⟨eq_of_beq e1.1, congrArg Prod.fst e⟩
        · rw [if_neg e1] at e
          cases e
          rcases cfV_iff hc with z | z
          · exact absurd (Option.some.inj z) hkc
          · exact ⟨Option.some.inj z, rfl⟩
      obtain ⟨rfl, rfl⟩ := hfree
      exact mem_look (closL_has hy)
    rcases hx with hx | hx
    · exact key _ hx rfl
    · exact key _ hx rfl
  · unfold compSrc compG
    simp
  · have e1' : (locN sc.names ++ freN sc.names)[k]? = some x := e1
    have e2' : ((locN sc.names).map (fun _ => (none : Option Nat)) ++ (freN sc.names).map (fun x => slotF G.N x 0))[k]? = some (some j) := e2
    by_cases hlt : k < (locN sc.names).length
    · rw [List.getElem?_append_left (by simpa using hlt), List.getElem?_map] at e2'
      cases q : (locN sc.names)[k]? with
      | none => rw [q] at e2'; cases e2'
      | some z => rw [q] at e2'; cases e2'
    · rw [List.getElem?_append_right (by simpa using hlt)] at e1' 
      rw [List.getElem?_append_right (by simpa using hlt), List.length_map, List.getElem?_map, e1'] at e2'
      have hs : slotF G.N x 0 = some j := Option.some.inj e2'
      have hx : x ∈ freN sc.names := List.mem_of_getElem? e1'
      obtain ⟨⟨_, c1⟩, c2⟩ := h5 x hx
      refine ⟨by rw [O.N]; exact slot_get hs, ?_, ?_⟩
      · rw [O.sc]; exact cfV_iff c1
      · rw [relabel_eq O]; exact cfV_iff c2
theorem comp_ok (O : GOk X G) (h : compOk G sc = true) (fp : List Addr) (C : Addr) (s : Shared) (H : Hp) :
    GOk (X.comp (compG G sc.names).N sc (closL X.env.cells sc.names []) fp C s H) (compG G sc.names) := by
  have S := comp_sc O h
  unfold compOk at h
  simp only [Bool.and_eq_true, List.all_eq_true, Bool.not_eq_true', decide_eq_true_eq, Bool.or_eq_true] at h
  obtain ⟨⟨⟨⟨⟨h1, h2⟩, h3⟩, h4⟩, h5⟩, h6⟩ := h
  have hn : (relabel sc X.env).names = relN G.sc sc.names := relabel_eq O
  refine ⟨O.K, eq_of_beq h3, PassesOwn.never, rfl, h4, fun x => ?_, fun x hx => ?_, fun z => (by cases z), O.calm, O.hd, O.units, fun x hx => S.has x hx, fun x i e => ?_, O.val, O.bl, fun x C oi e => ?_, fun x C oi e => ?_, fun m l e mi hm => ?_, fun z => (by cases z)⟩
  · show (relabel sc X.env).names.lookup x = _
    rw [hn]
    rfl
  · show Vis (relabel sc X.env) x
    unfold Vis
    rw [hn]
    rcases List.mem_append.mp hx with q | q
    · exact .inl (eq_of_beq (h6 x q))
    · exact .inr (cfV_iff (h5 x q).2)
  · obtain ⟨m, F⟩ := O.fn x i e
    obtain ⟨CX, p, f⟩ := F.ok
    exact ⟨m, ⟨F.kp, ⟨CX, p, f⟩, F.room, F.binds, F.vals⟩⟩
  · obtain ⟨m, k, c, i0⟩ := O.exc x C oi e
    refine ⟨m, k, c, ?_⟩
    cases oi with
    | none => exact i0
    | some i => obtain ⟨a1, a2, F, r⟩ := i0; obtain ⟨CX, p, f⟩ := F.ok; exact ⟨a1, a2, ⟨F.kp, ⟨CX, p, f⟩, F.room, F.binds, F.vals⟩, r⟩
  · obtain ⟨m, k, i0⟩ := O.cls x C oi e
    refine ⟨m, k, ?_⟩
    cases oi with
    | none => exact i0
    | some i =>
      obtain ⟨a, b, c, F, r⟩ := i0
      obtain ⟨CX, p, f⟩ := F.ok
      exact ⟨a, b, c, ⟨F.kp, ⟨CX, p, f⟩, F.room, F.binds, F.vals⟩, r⟩
  · obtain ⟨a, b, F⟩ := O.met m l e mi hm
    obtain ⟨CX, p, f⟩ := F.ok
    exact ⟨a, b, ⟨F.kp, ⟨CX, p, f⟩, F.room, F.binds, F.vals⟩⟩
end
end L2
set_option maxRecDepth 100000
set_option maxHeartbeats 4000000
namespace L2
open PySem PySem.Spec PyProof.Rows
def dPartN : St → Hp → (Option Int → Hp → Prop) → EK → Prop := fun _ H Q _ => Q none H
def dPart (a : DE) : St → Hp → (Option Int → Hp → Prop) → EK → Prop := fun σ H Q E => a σ H (fun x H1 => match x with
  | .int i => Q (some i) H1
  | _ => False) E
abbrev DO := St → Hp → (Option Int → Hp → Prop) → EK → Prop
def rSlD (K : PySem.W.Frag) : V → Option Int → Option Int → Hp → VK → Prop := fun x lo hi H Q => match x with
  | .str z => z.length ≤ sizeLine ∧ Q (.str (Txt.slice z lo hi)) H
  | .ref a => (∃ xs, SqL K H a xs ∧ ∀ p, H p = none → Q (.ref p) (upd H p (.lst (cutV xs lo hi)))) ∨
      (∃ xs, SqT K H a xs ∧ ¬ (HT.sIx xs.length 0 lo = 0 ∧ HT.sIx xs.length xs.length hi = xs.length) ∧ ∀ p, H p = none → Q (.ref p) (upd H p (.tup (cutV xs lo hi))))
  | _ => False
def dSl (K : PySem.W.Frag) (a : DE) (l h : DO) : DE := fun σ H Q E => a σ H (fun x H1 => l σ H1 (fun lo H2 => h σ H2 (fun hi H3 => rSlD K x lo hi H3 Q) E) E) E
def QO (X : Cx) (e : Option Expr) (t : DO) : Prop := ∀ Ex, Meets X Ex → PO X e (fun σ H Q => t σ H Q (Ex σ))
section
variable {X : Cx} {G : Sg} {e : Expr} {de : DE} {lo hi : Option Expr} {dl dh : DO} {pos p2 : Pos}
theorem qo_none : QO X none dPartN := fun _ _ => po_none
theorem qo_some (h : QE X e de) : QO X (some e) (dPart de) := by
  intro Ex m pins s σ H Q I hw
  rw [evalPart_some]
  refine thn (h Ex m pins s σ H _ I hw) fun u s1 ⟨x, H1, I1, r1, q1⟩ => ?_
  cases x with
  | int i => obtain ⟨t, rfl⟩ := r1; exact ⟨some i, H1, I1, .int i t, q1⟩
  | _ => exact (show False from q1).elim
theorem noTemp (e : Expr) (z : Str) (t : Tok) (r : Value) : letTemporaryGo e (.str z t) r = pure () := by
  cases e <;> rfl
theorem qe_slice (he : QE X e de) (hl : QO X lo dl) (hh : QO X hi dh) : QE X (.Subscript e (.Slice lo hi none p2) pos) (dSl X.K de dl dh) := by
  intro Ex m pins s σ H Q I h
  refine Subscript_ (thn (he Ex m pins s σ H _ I h) fun v s1 ⟨x, H1, I1, r1, q1⟩ => ?_)
  refine wpAny_Slice (thn (hl Ex m pins s1 σ H1 _ I1 q1) fun vl s2 ⟨l, H2, I2, pl, q2⟩ => thn (hh Ex m pins s2 σ H2 _ I2 q2) fun vu s3 ⟨u, H3, I3, pu, q3⟩ => ?_)
  rw [evalPart_none]
  refine wpAny_pure ?_
  show wpAny (model X.prog X.w) X.A (subscriptTail e (.Slice lo hi none p2) v (.ref s3.heap.objs.size)) (EP X pins σ Q) X.xe { s3 with heap := s3.heap.push { cls := .type "slice", data := .fields #[vl, vu, .none] } }
  have I4 : Inv X pins σ H3 { s3 with heap := s3.heap.push { cls := .type "slice", data := .fields #[vl, vu, .none] } } := I3.kept (t' := s3.toks) fun b ob q => Heap.get?_push_of_some _ q
  have gen : ∀ r, SlR X r → r x l u H3 Q → wpAny (model X.prog X.w) X.A (subscriptTail e (.Slice lo hi none p2) v (.ref s3.heap.objs.size)) (EP X pins σ Q) X.xe { s3 with heap := s3.heap.push { cls := .type "slice", data := .fields #[vl, vu, .none] } } := fun r hr q => by
    obtain ⟨T, id, hT, ht, hg⟩ := hr pins _ σ H3 x v vl vu l u s3.heap.objs.size Q I4 r1 (Heap.IsSliceOf.new ..) pl pu q
    exact tail_any (ops := [.ref s3.heap.objs.size, v]) ht hT hg (by with_unfolding_all rfl)
  cases x with
  | str z =>
    obtain ⟨hz, q⟩ := q3
    obtain ⟨t, rfl⟩ := r1
    have hk : KeptH (fun h => Inv X pins σ H3 { s3 with heap := h }) := fun h ob J => J.kept (t' := s3.toks) fun b o eb => Heap.get?_push_of_some _ eb
    have fin : ∀ h' t' k, Inv X pins σ H3 { s3 with heap := h' } → EP X pins σ Q (.str (Txt.slice z l u) t') { s3 with heap := h', toks := k } := fun h' t' k J => ⟨.str _, H3, J.tok k, ⟨_, rfl⟩, q⟩
    cases pl with
    | none =>
      cases pu with
      | none => exact tail_of_ItemOn (SBH.sliceItem_nn hk I3 fin hz) (by with_unfolding_all rfl) (noTemp e z t)
      | int j uj => exact tail_of_ItemOn (SBH.sliceItem_ns hk I3 fin hz) (by with_unfolding_all rfl) (noTemp e z t)
    | int i ui =>
      cases pu with
      | none => exact tail_of_ItemOn (SBH.sliceItem_sn hk I3 fin hz) (by with_unfolding_all rfl) (noTemp e z t)
      | int j uj => exact tail_of_ItemOn (SBH.sliceItem_ss hk I3 fin hz) (by with_unfolding_all rfl) (noTemp e z t)
  | ref a =>
    rcases q3 with ⟨xs, h1, h2⟩ | ⟨xs, h1, h2, h3⟩
    · exact gen _ sl_list ⟨a, xs, rfl, h1, h2⟩
    · exact gen _ sl_tup ⟨a, xs, rfl, h1, h2, h3⟩
  | _ => exact (show False from q3).elim
def noSet : Expr → Bool
  | .Set _ _ _ => false
  | _ => true
theorem noSet_ok {e : Expr} (h : noSet e = true) (env : Env) (x : Value) : foldedSetIterable e env x = pure x := by
  cases e with
  | Set _ _ _ => cases h
  | _ => rfl
def QIfs (X : Cx) (ifs : List Expr) (t : DT) : Prop := PIfs X ifs (fun σ H Q => t σ H Q (fun _ _ => False))
theorem qifs_nil : QIfs X [] dYes := pifs_nil
theorem meets_no : Meets X (fun _ _ _ => False) := fun _ _ _ _ _ _ _ h => h.elim
theorem qifs_one {c : Expr} {t : DT} (h : QT X c t) : QIfs X [c] t := pifs_one (h _ meets_no)
variable {tg iter elt : Expr} {ifs : List Expr} {sc : Scope} {wi : DI} {g : DG} {tc : DT}
theorem qe_comp (O : GOk X G) (hc : X.calm = true) (hk : compOk G sc = true) (hs : noSet iter = true) (hi : QI X tg iter wi) (hg : ∀ X', GOk X' (compG G sc.names) → PG X' tg g) (ht : ∀ X', GOk X' (compG G sc.names) → QIfs X' ifs tc) (he : ∀ X', GOk X' (compG G sc.names) → QE X' elt de) :
    QE X (.ListComp elt [⟨tg, iter, ifs, 0⟩] sc pos) (dComp (compSrc G sc.names) wi g tc de) := by
  intro Ex m
  exact pe_comp hc (comp_sc O hk) (hi Ex m) (fun fp C s H => hg _ (comp_ok O hk fp C s H)) (fun fp C s H => ht _ (comp_ok O hk fp C s H)) (fun fp C s H => he _ (comp_ok O hk fp C s H) _ meets_no) (fun x => noSet_ok hs X.env x)
def okSt (G : Sg) (x : Str) : Bool := (G.sc.lookup x == some .local) || (G.top && (G.sc.lookup x == some .cell))
def wG : Nat → Sg → Expr → DG
  | 0, _, _ => gNo
  | n + 1, G, e => match e with
    | .Name x _ => match slotF G.N x 0 with
      | some i => if okSt G x = true then gdN i else gNo
      | none => gNo
    | .Tuple ts _ _ => if G.calm = true ∧ ts.all noStar = true then gdT G.K ts.length (ts.map (wG n G)) else gNo
    | _ => gNo
theorem okSt_ok (O : GOk X G) {x : Str} (h : okSt G x = true) : Loc X.env.scope x ∧ (X.fn x = true ∨ X.env.scope.names.lookup x = some .local) := by
  unfold okSt at h
  rw [Bool.or_eq_true, Bool.and_eq_true] at h
  rcases h with h | ⟨h1, h2⟩
  · have : X.env.scope.names.lookup x = some .local := by rw [O.sc]; exact eq_of_beq h
    exact ⟨.inl this, .inr this⟩
  · have : X.env.scope.names.lookup x = some .cell := by rw [O.sc]; exact eq_of_beq h2
    exact ⟨.inr this, .inl (O.top h1 x)⟩
theorem assignEach_cons {e : Expr} (h : noStar e = true) (es : List Expr) (env : Env) : assignEach (e :: es) env = (false, assign e env) :: assignEach es env := by
  cases e with
  | Starred _ _ => cases h
  | _ => rfl
theorem assignEach_len {es : List Expr} (h : es.all noStar = true) (env : Env) : (assignEach es env).length = es.length ∧ (assignEach es env).findIdx? (·.1) = none := by
  induction es with
  | nil => exact ⟨rfl, rfl⟩
  | cons e es ih =>
    rw [List.all_cons, Bool.and_eq_true] at h
    obtain ⟨h1, h2⟩ := ih h.2
    rw [assignEach_cons h.1]
    refine ⟨by rw [List.length_cons, List.length_cons, h1], ?_⟩
    rw [List.findIdx?_cons, h2]
    rfl
theorem wG_ok : ∀ (n : Nat) (X : Cx) (G : Sg), GOk X G → ∀ e, PG X e (wG n G e)
  | 0, _, _, _, _ => pg_no
  | n + 1, X, G, O, e => by
    cases e with
    | Name x p =>
      unfold wG
      dsimp only
      split
      · rename_i i e
        split
        · rename_i h
          obtain ⟨h1, h2⟩ := okSt_ok O h
          exact pg_name (by rw [O.N]; exact O.nd) (by rw [O.N]; exact slot_get e) h1 h2
        · exact pg_no
      · exact pg_no
    | Tuple ts k p =>
      unfold wG
      dsimp only
      split
      · rename_i h
        obtain ⟨h1, h2⟩ := h
        obtain ⟨h3, h4⟩ := assignEach_len h2 X.env
        rw [← O.K]
        refine pg_T (O.calm ▸ h1) ?_ h3 h4
        clear h3 h4
        induction ts with
        | nil => exact pgs_N
        | cons t ts ih =>
          rw [List.all_cons, Bool.and_eq_true] at h2
          refine pgs_C (wG_ok n X G O t) (ih h2.2) ?_
          rw [assignEach_cons h2.1]
          rfl
      · exact pg_no
    | _ => exact pg_no
end
end L2
set_option maxRecDepth 100000
set_option maxHeartbeats 4000000
namespace L2
open PySem PySem.Spec
structure LeftX (l : List Addr) (e C : Addr) (dx : Option Addr) (h h' : Heap) : Prop where
  exc : ∃ (vs' : Array Value) (T : Addr) (oT : Obj) (ts' : Array Value), h'.get? e = some (excObj C dx vs') ∧ vs'.size = 6 ∧ vs'[1]? = some (.ref T) ∧ h.objs.size ≤ T ∧ T ≠ e ∧ h'.get? T = some oT ∧ oT.data = .fields ts' ∧ ts'[3]? = some .none
  keep : ∀ b o, b ≠ e → b ∉ l → h.get? b = some o → h'.get? b = some o
  slot : ∀ b o, b ≠ e → h.get? b = some o → ∃ sl, h'.get? b = some { o with slots := sl }
abbrev tbO (fs : Array Value) : Obj := { cls := .type "traceback", dict := none, data := .fields fs }
abbrev linked (T : Addr) : Obj → Obj := Obj.mapFields (·.setIfInBounds 1 (.ref T))
abbrev calmed : Obj → Obj := Obj.mapFields (·.setIfInBounds 3 .none)
abbrev entryH1 (h : Heap) (e : Addr) (fs : Array Value) : Heap := (h.push (tbO fs)).update e (linked h.objs.size)
abbrev entryH (h : Heap) (e : Addr) (fs : Array Value) : Heap := (entryH1 h e fs).update h.objs.size calmed
section
variable {h : Heap} {e C : Addr} {dx : Option Addr} {vs fs : Array Value}
theorem apart (q : h.get? e = some (excObj C dx vs)) : h.objs.size ≠ e := Nat.ne_of_gt (Heap.lt_size q)
theorem linked_data (T : Addr) : (linked T (excObj C dx vs)).data = .fields (vs.setIfInBounds 1 (.ref T)) := rfl
theorem entry1_exc (q : h.get? e = some (excObj C dx vs)) : (entryH1 h e fs).get? e = some (excObj C dx (vs.setIfInBounds 1 (.ref h.objs.size))) :=
  Heap.get?_update_self (linked h.objs.size) (Heap.get?_push_of_some (tbO fs) q) (Obj.isFreed_of_fields (linked_data h.objs.size))
theorem entry1_new (q : h.get? e = some (excObj C dx vs)) : (entryH1 h e fs).get? h.objs.size = some (tbO fs) :=
  (Heap.get?_update_other (h.push (tbO fs)) (linked h.objs.size) (apart q).symm).trans (Heap.get?_push_size h rfl)
theorem entry_exc (q : h.get? e = some (excObj C dx vs)) : (entryH h e fs).get? e = some (excObj C dx (vs.setIfInBounds 1 (.ref h.objs.size))) :=
  (Heap.get?_update_other (entryH1 h e fs) calmed (apart q)).trans (entry1_exc q)
theorem entry_new (q : h.get? e = some (excObj C dx vs)) : (entryH h e fs).get? h.objs.size = some (tbO (fs.setIfInBounds 3 .none)) :=
  Heap.get?_update_self calmed (entry1_new q) (Obj.isFreed_of_fields (vs := fs.setIfInBounds 3 .none) rfl)
theorem entry_rest {b : Addr} {o : Obj} (ne : b ≠ e) (q : h.get? b = some o) : (entryH h e fs).get? b = some o :=
  ((Heap.get?_update_other (entryH1 h e fs) calmed (Nat.ne_of_gt (Heap.lt_size q))).trans (Heap.get?_update_other (h.push (tbO fs)) (linked h.objs.size) ne.symm)).trans (Heap.get?_push_of_some (tbO fs) q)
theorem left_entry {h0 : Heap} {l : List Addr} (hz : h.objs.size = h0.objs.size) (k1 : ∀ b, b ∉ l → h.get? b = h0.get? b) (k2 : ∀ b o, h0.get? b = some o → ∃ sl, h.get? b = some { o with slots := sl }) (q : h.get? e = some (excObj C dx vs)) (hs : vs.size = 6) (hf : 3 < fs.size) :
    LeftX l e C dx h0 (entryH h e fs) where
  exc := ⟨_, h.objs.size, _, _, entry_exc q, by rw [Array.size_setIfInBounds]; exact hs, Array.getElem?_setIfInBounds_self_of_lt (by omega), by omega, apart q, entry_new q, rfl, Array.getElem?_setIfInBounds_self_of_lt hf⟩
  keep := fun b o ne nl hb => entry_rest ne ((k1 b nl).trans hb)
  slot := fun b o ne hb => let ⟨sl, z⟩ := k2 b o hb; ⟨sl, entry_rest ne z⟩
theorem calm_same {T : Addr} {oT : Obj} {ts : Array Value} (hT : h.get? T = some oT) (hd : oT.data = .fields ts) (h3 : ts[3]? = some .none) (b : Addr) : (h.update T calmed).get? b = h.get? b := by
  by_cases hb : b = T
  · have z : ts.setIfInBounds 3 Value.none = ts := Array.ext_getElem? fun k => by
      by_cases hk : k = 3
      · rw [hk, Array.getElem?_setIfInBounds_self_of_lt (Array.getElem?_eq_some_iff.mp h3).1, h3]
      · exact Array.getElem?_setIfInBounds_ne (Ne.symm hk)
    obtain ⟨c0, d0, dt0, sl0⟩ := oT
    cases (show dt0 = .fields ts from hd)
    have y : calmed ⟨c0, d0, .fields ts, sl0⟩ = ⟨c0, d0, .fields ts, sl0⟩ := by
      show (⟨c0, d0, .fields (ts.setIfInBounds 3 Value.none), sl0⟩ : Obj) = _
      rw [z]
    rw [hb, Heap.get?_update_self calmed hT (Obj.isFreed_of_fields (vs := ts) (by rw [y])), y, hT]
  · exact Heap.get?_update_other h calmed (Ne.symm hb)
end
section
variable {M : Model} {A : Around} {E : Value → Shared → Prop} {s : Shared} {base : Heap} {env : Env} {outer : List Env} {L e C : Addr} {dx : Option Addr} {vs : Array Value} {Q : Unit → Shared → Prop}
theorem newEntryX {head : Value} {hadNext : Bool} (hfr : A.frames = some (env :: outer)) (hl : s.heap.FunFrames base (env :: outer)) (hf : env.frame = some L) (q : s.heap.get? e = some (excObj C dx vs)) (hs : vs.size = 6) (k : ∀ h', LeftX (frs (env :: outer)) e C dx s.heap h' → Q () { s with heap := h' }) :
    wpAny M A ((frameOf env >>= fun a => entryPlaceOf L hadNext >>= fun pl => EntryCells.newEntry head a .none (rawInt L) .none pl >>= fun b => setField (.ref e) 1 b)) (fun _ s1 => wpAny M A (setFlight (.ref e) none) Q E s1) E s := by
  have off : e ∉ frs (env :: outer) := fun z => by
    obtain ⟨_, o, z1, z2⟩ := hl.mem z
    rw [q] at z1
    cases z1
    exact z2 vs rfl
  refine wpAny_bind (wpAny_frameOf_fun hfr hl hf fun h1 ⟨a1, a2, a3⟩ => wpAny_bind (wpAny_entryPlaceOf fun pl hpl => ?_))
  unfold EntryCells.newEntry newFields
  refine wpAny_bind (wpAny_newObj_type ?_ (hpl.sizeOk5 _ _ _ _ _))
  have q1 : h1.get? e = some (excObj C dx vs) := (a2 e off).trans q
  have lt : 3 < ([head, .ref L, .none, rawInt L, .none] ++ (if pl.isEmpty then List.replicate 6 Value.none else pl)).toArray.size := by rw [List.size_toArray, List.length_append]; simp only [List.length_cons, List.length_nil]; omega
  generalize ([head, .ref L, .none, rawInt L, .none] ++ (if pl.isEmpty then List.replicate 6 Value.none else pl)).toArray = fs at lt ⊢
  refine wpAny_setField (Heap.get?_push_of_some (tbO fs) q1) rfl (show 1 < vs.size by omega) ?_
  show wpAny M A (setFlight (.ref e) none) Q E { s with heap := entryH1 h1 e fs }
  unfold setFlight
  refine wpAny_bind (wpAny_field (s := { s with heap := entryH1 h1 e fs }) (entry1_exc q1) rfl (x := .ref h1.objs.size) (Array.getElem?_setIfInBounds_self_of_lt (by omega)) ?_)
  rw [if_pos (by simp)]
  exact wpAny_setField (s := { s with heap := entryH1 h1 e fs }) (entry1_new q1) rfl lt (k _ (left_entry a1 a2 a3 q1 hs lt))
def Calm (h : Heap) (e : Addr) (vs : Array Value) : Prop := vs[1]? = some .none ∨ ∃ (T : Addr) (oT : Obj) (ts : Array Value), vs[1]? = some (.ref T) ∧ T ≠ e ∧ h.get? T = some oT ∧ oT.data = .fields ts ∧ ts[3]? = some .none
theorem leave_n (hfr : A.frames = some (env :: outer)) (hl : s.heap.FunFrames base (env :: outer)) (hf : env.frame = some L) (q : s.heap.get? e = some (excObj C dx vs)) (hs : vs.size = 6) (hc : Calm s.heap e vs) (k : ∀ h', LeftX (frs (env :: outer)) e C dx s.heap h' → Q () { s with heap := h' }) :
    wpAny M A (noteFrame (.ref e) env) (fun _ s1 => wpAny M A (setFlight (.ref e) none) Q E s1) E s := by
  unfold noteFrame
  simp only [hf]
  rcases hc with c | ⟨T, oT, ts, c, ne, hT, hd, h3⟩
  · refine wpAny_bind (wpAny_field q rfl c ?_)
    rw [if_neg (by decide)]
    exact newEntryX hfr hl hf q hs k
  · refine wpAny_bind (wpAny_field q rfl c ?_)
    rw [if_pos (by simp)]
    refine wpAny_bind (wpAny_field hT hd h3 ?_)
    rw [if_neg (by simp [rawInt])]
    refine wpAny_bind (wpAny_setField hT hd (Array.getElem?_eq_some_iff.mp h3).1 ?_)
    have same := calm_same hT hd h3
    refine newEntryX (s := { s with heap := s.heap.update T calmed }) hfr (hl.of_keeps fun b o z _ => ⟨o, (same b).trans z, rfl⟩) hf ((same e).trans q) hs fun h' X => k h' ⟨?_, fun b o n1 n2 z => X.keep b o n1 n2 ((same b).trans z), fun b o n1 z => X.slot b o n1 ((same b).trans z)⟩
    obtain ⟨vs', T', oT', ts', b1, b2, b3, b4, b5⟩ := X.exc
    exact ⟨vs', T', oT', ts', b1, b2, b3, by rw [← Heap.size_after_update s.heap T calmed]; exact b4, b5⟩
theorem leave_x (hfr : A.frames = some (env :: outer)) (hl : s.heap.FunFrames base (env :: outer)) (hf : env.frame = some L) (q : s.heap.get? e = some (excObj C dx vs)) (hs : vs.size = 6) (hc : Calm s.heap e vs) (k : ∀ h', LeftX (frs (env :: outer)) e C dx s.heap h' → Q () { s with heap := h' }) :
    wpAny M A (leaving env (.ref e)) Q E s := wpAny_bind (leave_n hfr hl hf q hs hc k)
end
end L2
set_option maxRecDepth 100000
set_option maxHeartbeats 4000000
namespace L2
open PySem PySem.Spec PyProof.Rows
open Sem (wp)
def Flown (n : Nat) (a : Addr) (H' : Hp) (s' : Shared) : Prop :=
  ∃ (C : Addr) (dx : Option Addr) (vs : Array Value) (T : Addr) (oT : Obj) (ts : Array Value), H' a = some (flO a C dx) ∧ s'.heap.get? a = some (excObj C dx vs) ∧ vs.size = 6 ∧ vs[1]? = some (.ref T) ∧ T ≠ a ∧ s'.heap.get? T = some oT ∧ oT.data = .fields ts ∧ ts[3]? = some .none ∧ n ≤ T ∧ H' T = none
def CXE (P : Program) (w : World) : CXT := fun outer H s E e s' =>
  ∃ (a : Addr) (H' : Hp), e = .ref a ∧ s'.os = s.os ∧ AllBare s'.gens ∧ Un (frs outer) [] H H' s.heap s'.heap ∧ HOk P w H' s'.heap ∧ Flown s.heap.objs.size a H' s' ∧ E e none H'
section
variable {X : Cx} {pins : List (Addr × Obj)} {σ : St} {H : Hp} {s : Shared} {a C : Addr} {dx : Option Addr} {h' : Heap}
theorem left_un (I : Inv X pins σ H s) (ea : H a = some (flO a C dx)) (L : LeftX (frs X.stack) a C dx s.heap h') : Un (frs X.stack) [] H H s.heap h' where
  keep := fun b o q n hb _ => L.keep b o (fun z => by rw [z, ea] at n; cases n) hb q
  slot := fun b o q n _ _ => L.slot b o (fun z => by rw [z, ea] at n; cases n) q
  free := fun b o _ n _ => n
  there := fun b o q _ => by
    by_cases hb : b = a
    · obtain ⟨vs', T, oT, ts', h1, _⟩ := L.exc
      exact ⟨_, by rw [hb]; exact h1⟩
    · obtain ⟨sl, h1⟩ := L.slot b o hb q
      exact ⟨_, h1⟩
  tups := fun _ _ e => e
  frzs := fun _ _ _ e => e
  tbls := fun b ps e => ⟨#[], by rw [e]; simp⟩
theorem left_ok (I : Inv X pins σ H s) (ea : H a = some (flO a C dx)) (L : LeftX (frs X.stack) a C dx s.heap h') : HOk X.prog X.w H h' := fun b o e => by
  by_cases hb : b = a
  · subst hb
    rw [ea] at e
    cases e
    obtain ⟨vs', T, oT, ts', h1, h2, _⟩ := L.exc
    exact flO_ok h1 h2
  · refine (I.hok b o e).stay (fun c u hc q => L.keep c u ?_ ?_ q) (fun _ q => q) fun _ _ q => q
    · rcases hc with rfl | hc
      · exact hb
      · rintro rfl
        rw [ea] at hc
        cases hc
    · intro hm
      have n := I.stkFree c hm
      rcases hc with rfl | hc
      · rw [n] at e; cases e
      · rw [n] at hc; cases hc
end
end L2
set_option maxRecDepth 100000
set_option maxHeartbeats 4000000
namespace L2
open PySem PySem.Spec PyProof.Rows
open Sem (wp)
section
variable {X : Cx} {pins : List (Addr × Obj)} {σ : St} {H : Hp} {s : Shared} {a : Addr} {E : Value → Shared → Prop} {Q : Unit → Shared → Prop}
theorem note_ok (I : Inv X pins σ H s) (hs : X.stack = X.env :: X.outer) (hf : X.env.frame = some X.env.locals) (F : FlyAt X pins H a s) (h : ∀ s', Inv X pins σ H s' → FlyAt X pins H a s' → Q () s') :
    wpAny (model X.prog X.w) X.A (noteFrame (.ref a) X.env) (fun _ s1 => wpAny (model X.prog X.w) X.A (setFlight (.ref a) none) Q E s1) E s := by
  obtain ⟨C, dx, vs, h1, h2, h3, h4⟩ := F
  have hc : Calm s.heap a vs := h4.imp id fun ⟨T, oT, ts, q1, q2, q3, q4, q5, _⟩ => ⟨T, oT, ts, q1, q2, q3, q4, q5⟩
  have fr : X.A.frames = some (X.env :: X.outer) := hs ▸ I.ok.frames
  have fn : s.heap.FunFrames X.base (X.env :: X.outer) := hs ▸ I.stack
  refine leave_n (L := X.env.locals) (base := X.base) fr fn hf h2 h3 hc fun h' L => ?_
  rw [← hs] at L
  have I' := I.call (h' := h') (g' := s.gens) (t' := s.toks) (d' := s.drawn) (ch := []) (left_un I h1 L) (left_ok I h1 L) I.bare (fun b z => absurd z (by simp))
  obtain ⟨vs', T, oT, ts', a1, a2, a3, a4, a5, a6, a7, a8⟩ := L.exc
  exact h _ I' ⟨C, dx, vs', h1, a1, a2, .inr ⟨T, oT, ts', a3, a5, a6, a7, a8, I.fpOk a4 (I.hok.fresh a4)⟩⟩
theorem flight_ok {A : Around} (I : Inv X pins σ H s) (F : FlyAt X pins H a s) (h : ∀ s', Inv X pins σ H s' → FlyAt X pins H a s' → Q () s') : wpAny (model X.prog X.w) A (setFlight (.ref a) none) Q E s := by
  obtain ⟨C, dx, vs, h1, h2, h3, h4⟩ := F
  unfold setFlight
  rcases h4 with h4 | ⟨T, oT, ts, q1, q2, q3, q4, q5, q6⟩
  · refine wpAny_bind (wpAny_field h2 rfl h4 ?_)
    rw [if_neg (by decide)]
    exact wpAny_pure (h s I ⟨C, dx, vs, h1, h2, h3, .inl h4⟩)
  · refine wpAny_bind (wpAny_field h2 rfl q1 ?_)
    rw [if_pos (by simp)]
    refine wpAny_setField q3 q4 (Array.getElem?_eq_some_iff.mp q5).1 ?_
    have same := calm_same q3 q4 q5
    exact h _ (I.kept (h' := s.heap.update T calmed) (t' := s.toks) fun b o z => (same b).trans z) ⟨C, dx, vs, h1, (same a).trans h2, h3, .inr ⟨T, oT, ts, q1, q2, (same T).trans q3, q4, q5, q6⟩⟩
end
section
variable {prog : Program} {w : World} {A : Around} {E : Value → Shared → Prop} {s : Shared} {K : PySem.W.Frag} {a C D : Addr} {dx : Option Addr} {vs : Array Value} {b : Bool} {Q : Bool → Shared → Prop}
open PySem.W in
theorem matches_ok (X : K.In s.heap) (c : ECls K C) (d : ECls K D) (ha : s.heap.get? a = some (excObj C dx vs)) (m : mroIn K C (.ref D) = some b) (h : Q b s) :
    wpAny (model prog w) A (excMatches (.ref a) (.ref D)) Q E s := by
  obtain ⟨nm, qn, N, bs, bm, hdct, sn, sub, ab, col, dd, k0, k1, k2, k3, k5, hl, ht, hd⟩ := c.obj
  obtain ⟨nm', qn', N', bs', bm', hdct', sn', sub', ab', col', dd', k0', k1', k2', k3', k5', hl', ht', hd'⟩ := d.obj
  have hC := X _ _ hl
  have hD := X _ _ hl'
  have hcB : (Value.ref D :: bm').contains (.type "BaseException") = true := by rw [List.contains_cons, excTail_has ht' (show valTail.contains (.type "BaseException") = true by decide +kernel), Bool.or_true]
  have hcD : (Value.ref C :: bm).contains (.ref D) = b := by
    unfold mroIn at m
    obtain ⟨cd, e, em⟩ : ∃ cd, clsIn K C = some cd ∧ cd.mro = .ref C :: bm := ⟨_, by unfold clsIn; rw [hl], rfl⟩
    rw [e, Option.bind_some, em] at m
    exact Option.some.inj m
  have f := tc_notTuple
  obtain ⟨hp, g, dr, tk, os⟩ := s
  unfold excMatches
  repeat (first | with_reducible refine wpAny_loadPart_at ha ?_ | with_reducible refine wpAny_loadPart_at hD ?_ | (with_reducible refine wpAny_isSubtype_exc hD ?_; rw [hcB]) | (with_reducible refine wpAny_isSubtype_exc hC ?_; rw [hcD]) | wp_step)
  cases b <;> (wp_walk; exact h)
end
end L2
set_option maxRecDepth 100000
set_option maxHeartbeats 4000000
namespace L2
open PySem PySem.Spec PyProof.Rows
def boolV (K : PySem.W.Frag) (op : BoolOp) : List DE → DE
  | [] => dNo
  | [a] => a
  | a :: r => match op with
    | .And => dAndV K a (boolV K op r)
    | .Or => dOrV K a (boolV K op r)
def boolT (op : BoolOp) : List DT → DT
  | [] => fun _ _ _ _ => False
  | [a] => a
  | a :: r => match op with
    | .And => dAnd a (boolT op r)
    | .Or => dOr a (boolT op r)
def argsD : List DE → DA
  | [] => dNil
  | a :: r => dCons a (argsD r)
def tNo : DT := fun _ _ _ _ => False
def wCmp (G : Sg) (ops : List CmpOp) (bs : List Expr) (a : DE) (ds : List DE) : DE := match ops, bs, ds with
  | [op], [b], [d] => if behindInMarks op b = false then dBin (rCmp G.K op) a d else dNo
  | [op, op'], [b, c], [d, d'] => if lastMarks [op, op'] [b, c] = false then dChain (rCmp G.K op) (rCmp G.K op') a d d' else dNo
  | _, _, _ => dNo
def wCall (G : Sg) (x : Str) (es : List Expr) (ds : List DE) : DE :=
  if isGl G x = true ∧ (slotF G.N x 0) = none ∧ es.all noStar = true then (match G.gb.lookup x with
    | some (.fn i) => if es.length ≤ i.ps.length ∧ i.ps.length ≤ es.length + i.dfs.length then dFn (spE i.sp (i.dfs.drop (es.length + i.dfs.length - i.ps.length))) (argsD ds) else dNo
    | some (.exc C oi) => (match oi with
      | none => if es.isEmpty = true then dFn (mkX C none 0) (argsD ds) else dFn (fun vs H Q E => vs.length ≤ 1000 ∧ mkX C none 0 vs H Q E) (argsD ds)
      | some i => if es.length + 1 ≤ i.ps.length ∧ i.ps.length ≤ es.length + 1 + i.dfs.length then (if es.isEmpty = true then dFn (mkX C (some i) (es.length + 1 + i.dfs.length - i.ps.length)) (argsD ds)
        else dFn (fun vs H Q E => vs.length ≤ 1000 ∧ mkX C (some i) (es.length + 1 + i.dfs.length - i.ps.length) vs H Q E) (argsD ds)) else dNo)
    | some (.cls C oi) => (match oi with
      | none => if es.isEmpty = true then dFn (mkC C none 0) (argsD ds) else dNo
      | some i => if es.length + 1 ≤ i.ps.length ∧ i.ps.length ≤ es.length + 1 + i.dfs.length then dFn (mkC C (some i) (es.length + 1 + i.dfs.length - i.ps.length)) (argsD ds) else dNo)
    | some _ => dNo
    | none => if G.bl.contains x = true then (match bltR G.K G.calm x with
      | some (_, r) => if es.isEmpty = true then dNo else dFn (fun vs H Q _ => r vs H Q) (argsD ds)
      | none => dNo) else dNo) else dNo
def wMeth (G : Sg) (o : Expr) (m : Str) (es : List Expr) (ap cp : Pos) (d : DE) (ds : List DE) : DE :=
  if noSuper o = true ∧ es.all noStar = true ∧ es.length < 30 ∧ (ap.endLine == cp.line) = true then (match findMet G.gb m with
    | none => dMt (rMt G.K (mtR G.K m)) d (argsD ds)
    | some l => dOwn m es.length l d (argsD ds)) else dNo
inductive Fz where
  | lenSet (a : Expr) | listItems (o : Expr)
def fzD (K : PySem.W.Frag) (w : Expr → DE) : Fz → DE
  | .lenSet a => dUn (rLenSet K) (w a)
  | .listItems o => dUn (rListItems K) (w o)
def isBl (G : Sg) (x : Str) : Bool := isGl G x && (G.gb.lookup x).isNone && G.bl.contains x
def fuseOf (G : Sg) (x : Str) (es : List Expr) : Option Fz := match es with
  | [.Call (.Name y _) [a] [] _] => if x = "len" ∧ y = "set" ∧ isBl G x = true ∧ isBl G y = true ∧ noStar a = true ∧ G.calm = true then some (.lenSet a) else none
  | [.Call (.Attribute o m ap) [] [] cp] => if x = "list" ∧ m = "items" ∧ isBl G x = true ∧ noSuper o = true ∧ (ap.endLine == cp.line) = true ∧ G.calm = true then some (.listItems o) else none
  | _ => none
mutual
def wE : Nat → Sg → Expr → DE
  | 0, _, _ => dNo
  | n + 1, G, e => match e with
    | .Constant c _ _ => wConst c
    | .Name x _ => wName G x
    | .BinOp a op b _ => dBin (rOp G.K op) (wE n G a) (wE n G b)
    | .UnaryOp .USub a _ => dUn rNegD (wE n G a)
    | .UnaryOp .Not a _ => dNotV G.K (wE n G a)
    | .UnaryOp .Invert a _ => dUn rInvD (wE n G a)
    | .BoolOp op es _ => boolV G.K op (es.map (wE n G))
    | .Compare a ops bs _ => wCmp G ops bs (wE n G a) (bs.map (wE n G))
    | .IfExp t a b _ => dIfE (wT n G t) (wE n G a) (wE n G b)
    | .List es _ => if es.all noStar = true then dLst (argsD (es.map (wE n G))) else dNo
    | .Tuple es _ _ => if es.all noStar = true then dTup (argsD (es.map (wE n G))) else dNo
    | .Subscript a (.Slice lo hi none _) _ => dSl G.K (wE n G a) (match lo with | none => dPartN | some l => dPart (wE n G l)) (match hi with | none => dPartN | some h => dPart (wE n G h))
    | .Subscript a b _ => if noSlice b = true then dBin (rIxD G.K) (wE n G a) (wE n G b) else dNo
    | .Attribute o f _ => if noSuper o = true then dUn (rGetD G.K f) (wE n G o) else dNo
    | .Call (.Name x _) es [] _ => match fuseOf G x es with
      | some z => fzD G.K (wE n G) z
      | none => wCall G x es (es.map (wE n G))
    | .Dict ks vs _ => if ks.isEmpty = true ∧ vs.isEmpty = true then dDNew else if (ks.all (·.isSome)) = true ∧ ks.length = vs.length ∧ ks.length ≤ 15 ∧ ks.isEmpty = false then dDisp (((ks.filterMap id).zip vs).map fun p => (wE n G p.1, wE n G p.2)) else dNo
    | .Call (.Attribute o m ap) es [] cp => wMeth G o m es ap cp (wE n G o) (es.map (wE n G))
    | .ListComp elt [⟨tg, iter, ifs, 0⟩] sc _ => if G.calm = true ∧ compOk G sc = true ∧ noSet iter = true then
        dComp (compSrc G sc.names) (wI n G tg iter) (wG n (compG G sc.names) tg) (match ifs with | [] => dYes | [c] => wT n (compG G sc.names) c | _ => tNo) (wE n (compG G sc.names) elt) else dNo
    | _ => dNo
def wT : Nat → Sg → Expr → DT
  | 0, _, _ => tNo
  | n + 1, G, e => match e with
    | .UnaryOp .Not a _ => dNot (wT n G a)
    | .BoolOp op es _ => boolT op (es.map (wT n G))
    | .Compare a ops bs _ => dTst (wCmp G ops bs (wE n G a) (bs.map (wE n G)))
    | .IfExp _ _ _ _ => tNo
    | e => dTru G.K (wE n G e)
def wI : Nat → Sg → Expr → Expr → DI
  | 0, _, _, _ => iNo
  | n + 1, G, tg, e => match e with
    | .Call (.Name x _) (a :: es) [] _ =>
      if x = "range" ∧ isGl G x = true ∧ G.gb.lookup x = none ∧ G.bl.contains x = true ∧ (a :: es).all noStar = true then iRng (argsD ((a :: es).map (wE n G)))
      else if x = "enumerate" ∧ isGl G x = true ∧ G.gb.lookup x = none ∧ G.bl.contains x = true ∧ (a :: es).all noStar = true then (match tg with
        | .Tuple _ _ _ => iEn G.K (argsD ((a :: es).map (wE n G)))
        | _ => iNo)
      else iVal G.K (wE n G e)
    | e => iVal G.K (wE n G e)
end
theorem qt_no {X : Cx} {e : Expr} : QT X e tNo := fun _ _ _ _ _ _ _ _ h => h.elim
theorem qa_args {X : Cx} {w : Expr → DE} (h : ∀ e, QE X e (w e)) : ∀ {es : List Expr}, es.all noStar = true → QA X es (argsD (es.map w))
  | [], _ => qa_nil
  | e :: es, hs => by
    rw [List.all_cons, Bool.and_eq_true] at hs
    exact qa_cons (h e) (qa_args h hs.2) hs.1
theorem qe_bool {X : Cx} {w : Expr → DE} {op : BoolOp} {pos : Pos} (h : ∀ e, QE X e (w e)) : ∀ {es : List Expr}, QE X (.BoolOp op es pos) (boolV X.K op (es.map w))
  | [] => qe_no
  | [e] => qe_one (h e)
  | e :: e' :: es => by
    cases op with
    | And => exact qe_and (h e) (qe_bool h)
    | Or => exact qe_or (h e) (qe_bool h)
theorem qw_bool {X : Cx} {w : Expr → DT} {op : BoolOp} {pos : Pos} (h : ∀ e, QT X e (w e)) : ∀ {es : List Expr}, QW X (.BoolOp op es pos) (boolT op (es.map w))
  | [] => fun _ _ _ _ _ _ _ _ _ h => h.elim
  | [e] => by
    cases op with
    | And => exact qw_and1 (h e)
    | Or => exact qw_or1 (h e)
  | e :: e' :: es => by
    cases op with
    | And => exact qw_and (h e) (qw_bool h)
    | Or => exact qw_or (h e) (qw_bool h)
section
variable {X : Cx} {G : Sg}
theorem qe_cmpW (O : GOk X G) {w : Expr → DE} (h : ∀ e, QE X e (w e)) (a : Expr) (ops : List CmpOp) (bs : List Expr) (pos : Pos) : QE X (.Compare a ops bs pos) (wCmp G ops bs (w a) (bs.map w)) := by
  unfold wCmp
  rw [← O.K]
  split
  · rename_i op b d e
    have : d = w b := by simpa using e.symm
    subst this
    split
    · exact qe_cmp O.units op (h a) (h b) ‹_›
    · exact qe_no
  · rename_i op op' b c d d' e
    have : w b = d ∧ w c = d' := by simpa using e
    obtain ⟨rfl, rfl⟩ := this
    split
    · exact qe_chain O.units op op' (h a) (h b) (h c) ‹_›
    · exact qe_no
  · exact qe_no
theorem qt_cmpW (O : GOk X G) {w : Expr → DE} (h : ∀ e, QE X e (w e)) (a : Expr) (ops : List CmpOp) (bs : List Expr) (pos : Pos) : QT X (.Compare a ops bs pos) (dTst (wCmp G ops bs (w a) (bs.map w))) := by
  unfold wCmp
  rw [← O.K]
  split
  · rename_i op b d e
    have : d = w b := by simpa using e.symm
    subst this
    split
    · exact qt_cmp O.units op (h a) (h b) ‹_›
    · exact fun _ _ _ _ _ _ _ _ h => h.elim
  · rename_i op op' b c d d' e
    have : w b = d ∧ w c = d' := by simpa using e
    obtain ⟨rfl, rfl⟩ := this
    split
    · exact qt_chain O.units op op' (h a) (h b) (h c) ‹_›
    · exact fun _ _ _ _ _ _ _ _ h => h.elim
  · exact fun _ _ _ _ _ _ _ _ h => h.elim
theorem qe_callW (O : GOk X G) {w : Expr → DE} (h : ∀ e, QE X e (w e)) (x : Str) (es : List Expr) (p pos : Pos) : QE X (.Call (.Name x p) es [] pos) (wCall G x es (es.map w)) := by
  unfold wCall
  split
  · rename_i hh
    obtain ⟨hg, _, hs⟩ := hh
    have dd := isGl_d hg
    split
    · rename_i i e
      obtain ⟨hm, F⟩ := O.fn x i e
      split
      · rename_i hl
        cases es with
        | nil => exact qe_call0 F (by have := hl.1; omega) (O.gl hg) hm dd.1
        | cons e es => exact qe_call F (by have := hl.1; omega) (O.gl hg) hm (qa_args h hs) hs dd.1
      · exact qe_no
    · rename_i C oi e
      obtain ⟨hm, kp, c, hi⟩ := O.exc x C oi e
      split
      · cases es with
        | nil => exact qe_mkX0 (j := 0) c hi (fun i z => nomatch z) kp (O.gl hg) hm dd.1
        | cons e es => exact qe_mkX (j := 0) c hi (fun i z => nomatch z) kp (O.gl hg) hm (qa_args h hs) hs dd.1
      · rename_i i
        split
        · rename_i hl
          cases es with
          | nil => exact qe_mkX0 (j := ([] : List Expr).length + 1 + i.dfs.length - i.ps.length) c hi (fun i z => by cases z; have := hl.1; omega) kp (O.gl hg) hm dd.1
          | cons e es => exact qe_mkX (j := (e :: es).length + 1 + i.dfs.length - i.ps.length) c hi (fun i z => by cases z; have := hl.1; omega) kp (O.gl hg) hm (qa_args h hs) hs dd.1
        · exact qe_no
    · rename_i C oi e
      obtain ⟨hm, kp, hi⟩ := O.cls x C oi e
      split
      · cases es with
        | nil => exact qe_mkC0 (j := 0) hi (fun i z => nomatch z) kp (O.gl hg) hm dd.1
        | cons e es => exact qe_no
      · rename_i i
        split
        · rename_i hl
          cases es with
          | nil => exact qe_mkC0 hi (fun i z => by cases z; have := hl.1; omega) kp (O.gl hg) hm dd.1
          | cons e es => exact qe_mkC hi (fun i z => by cases z; have := hl.1; omega) kp (O.gl hg) hm (qa_args h hs) hs dd.1
        · exact qe_no
    · exact qe_no
    · rename_i e
      split
      · rename_i hb
        split
        · rename_i f r er
          split
          · exact qe_no
          · rename_i hne
            cases es with
            | nil => exact absurd rfl hne
            | cons e es =>
              rw [← O.K] at er
              obtain ⟨b1, b2⟩ := bltR_ok er O.calm
              exact qe_blt b2 (O.gl hg) (O.bl x hb) b1 (qa_args h hs) hs dd.2.2 dd.1
        · exact qe_no
      · exact qe_no
  · exact qe_no
theorem qe_methW (O : GOk X G) {w : Expr → DE} (h : ∀ e, QE X e (w e)) (o : Expr) (m : Str) (es : List Expr) (ap cp : Pos) : QE X (.Call (.Attribute o m ap) es [] cp) (wMeth G o m es ap cp (w o) (es.map w)) := by
  unfold wMeth
  rw [← O.K]
  split
  · rename_i hh
    obtain ⟨h1, h2, h3, h4⟩ := hh
    split
    · cases es with
      | nil => exact qe_mt0 (fun b hb => mtR_ok O.units hb) (h o) h1 h4
      | cons e es => exact qe_mt (fun b hb => mtR_ok O.units hb) (h o) (qa_args h h2) h1 h2 h3 h4
    · rename_i l e
      cases es with
      | nil => exact qe_own0 (O.met m l e) (h o) h1 h4
      | cons e es => exact qe_own (O.met m l ‹_›) (h o) (qa_args h h2) h1 h2 h3 h4
  · exact qe_no
end
theorem isBl_ok {X : Cx} {G : Sg} (O : GOk X G) {x : Str} (h : isBl G x = true) : Gl X x ∧ X.mg x = none := by
  unfold isBl at h
  rw [Bool.and_eq_true, Bool.and_eq_true] at h
  exact ⟨O.gl h.1.1, O.bl _ h.2⟩
theorem qe_fuse {X : Cx} {G : Sg} (O : GOk X G) {w : Expr → DE} (h : ∀ e, QE X e (w e)) {x : Str} {es : List Expr} {p pos : Pos} {z : Fz} (e : fuseOf G x es = some z) :
    QE X (.Call (.Name x p) es [] pos) (fzD G.K w z) := by
  unfold fuseOf at e
  split at e
  · split at e
    · rename_i hh
      obtain ⟨rfl, rfl, h1, h2, h3, h4⟩ := hh
      cases e
      rw [← O.K]
      exact qe_lenSet (O.calm ▸ h4) (isBl_ok O h1).1 (isBl_ok O h1).2 (isBl_ok O h2).1 (isBl_ok O h2).2 (h _) h3
    · cases e
  · split at e
    · rename_i hh
      obtain ⟨rfl, rfl, h1, h2, h3, h4⟩ := hh
      cases e
      rw [← O.K]
      exact qe_listItems (O.calm ▸ h4) (isBl_ok O h1).1 (isBl_ok O h1).2 (h _) h2 h3
    · cases e
  · cases e
theorem all_some {α : Type} : ∀ {ks : List (Option α)}, ks.all (·.isSome) = true → (ks.filterMap id).map some = ks
  | [], _ => rfl
  | none :: _, h => by simp at h
  | some k :: ks, h => by
    rw [List.all_cons, Bool.and_eq_true] at h
    show some k :: (ks.filterMap id).map some = _
    rw [all_some h.2]
theorem w_ok : ∀ (n : Nat) (X : Cx) (G : Sg), GOk X G → (∀ e, QE X e (wE n G e)) ∧ (∀ e, QT X e (wT n G e)) ∧ (∀ tg e, QI X tg e (wI n G tg e)) := by
  intro n
  induction n with
  | zero =>
    intro X G O
    refine ⟨fun e => ?_, fun e => ?_, fun tg e => ?_⟩
    · unfold wE; exact qe_no
    · unfold wT; exact qt_no
    · unfold wI; exact qi_no
  | succ n ih =>
    intro X G O
    obtain ⟨hE, hT, hI⟩ := ih X G O
    have hv : ∀ tg e, QI X tg e (iVal G.K (wE n G e)) := fun tg e => by rw [← O.K]; exact qi_val (hE e)
    refine ⟨fun e => ?_, fun e => ?_, fun tg e => ?_⟩
    · unfold wE
      split
      · exact qe_const _ _ _
      · exact qe_name O _ _
      · rw [← O.K]; exact qe_bin _ (hE _) (hE _)
      · exact qe_neg (hE _)
      · rw [← O.K]; exact qe_not (hE _)
      · exact qe_inv (hE _)
      · rw [← O.K]; exact qe_bool hE
      · exact qe_cmpW O hE _ _ _ _
      · exact qe_if (hT _) (hE _) (hE _)
      · split
        · exact qe_lst (qa_args hE ‹_›)
        · exact qe_no
      · split
        · exact qe_tup (qa_args hE ‹_›)
        · exact qe_no
      · rw [← O.K]
        refine qe_slice (hE _) ?_ ?_
        · split
          · exact qo_none
          · exact qo_some (hE _)
        · split
          · exact qo_none
          · exact qo_some (hE _)
      · split
        · rw [← O.K]; exact qe_ix O.units (hE _) (hE _) ‹_›
        · exact qe_no
      · split
        · rw [← O.K]; exact qe_attr (hE _) (noSuper_ok ‹_› _ X.env _)
        · exact qe_no
      · split
        · exact qe_fuse O hE ‹_›
        · exact qe_callW O hE _ _ _ _
      · rename_i ks vs p0
        split
        · rename_i hh
          have e1 : ks = [] := by simpa using hh.1
          have e2 : vs = [] := by simpa using hh.2
          subst e1 e2
          exact qe_dnew
        · split
          · rename_i hh
            obtain ⟨h1, h2, h3, h4⟩ := hh
            have e := all_some h1
            have hl : (ks.filterMap id).length = ks.length := by rw [← List.length_map (f := some), e]
            have q := qe_disp (X := X) (pos := p0) hE (ks := ks.filterMap id) (vs := vs) (by rw [hl]; exact h2) (fun z => by rw [z] at e; rw [← e] at h4; simp at h4) (by rw [hl]; exact h3)
            rw [e] at q
            exact q
          · exact qe_no
      · exact qe_methW O hE _ _ _ _ _
      · split
        · rename_i hh
          obtain ⟨h1, h2, h3⟩ := hh
          refine qe_comp O (O.calm ▸ h1) h2 h3 (hI _ _) (fun X' O' => wG_ok n X' _ O' _) (fun X' O' => ?_) (fun X' O' => (ih X' _ O').1 _)
          split
          · exact qifs_nil
          · exact qifs_one ((ih X' _ O').2.1 _)
          · exact fun _ _ _ _ _ _ h => h.elim
        · exact qe_no
      · exact qe_no
    · unfold wT
      split
      · exact qt_not (hT _)
      · exact fun Ex m => PW.pt (qw_bool hT Ex m)
      · exact qt_cmpW O hE _ _ _ _
      · exact qt_no
      · rename_i h1 h2 h3 h4
        rw [← O.K]
        refine qt_tru (hE _) ?_
        cases e with
        | UnaryOp op a p => cases op <;> first | rfl | exact absurd rfl (h1 _ _)
        | BoolOp op es p => exact absurd rfl (h2 _ _ _)
        | Compare a b c p => exact absurd rfl (h3 _ _ _ _)
        | IfExp a b c p => exact absurd rfl (h4 _ _ _ _)
        | _ => rfl
    · unfold wI
      split
      · split
        · rename_i hh
          obtain ⟨rfl, h1, _, h2, h3⟩ := hh
          exact qi_range (O.gl h1) (O.bl _ h2) (qa_args hE h3) h3
        · split
          · rename_i hh
            obtain ⟨rfl, h1, _, h2, h3⟩ := hh
            split
            · rw [← O.K]; exact qi_enum (O.gl h1) (O.bl _ h2) (qa_args hE h3) h3
            · exact qi_no
          · exact hv _ _
      · exact hv _ _
end L2
set_option maxRecDepth 100000
set_option maxHeartbeats 4000000
namespace L2
open PySem PySem.Spec PyProof.Rows
def Cx.tr (X : Cx) (pn : List (Addr × Obj)) (xe : Value → Shared → Prop) : Cx := { X with pn := pn, xe := xe }
def Cx.hd (X : Cx) (a : Addr) : Cx := { X with A := X.A.mark (some (.ref a)), calm := false, xe := fun _ _ => False }
section
variable {X : Cx} {pins pins' : List (Addr × Obj)} {σ : St} {H : Hp} {s : Shared} {a C : Addr} {dx : Option Addr} {xe : Value → Shared → Prop}
theorem ok_tr {pn : List (Addr × Obj)} (o : X.Ok) : (X.tr pn xe).Ok := ⟨o.mod, o.kind, o.glob, o.blt, o.above, o.inj, o.has, o.cab, o.hd, o.frames, o.stk, o.exf, o.bs, o.bsz, o.noex, o.exfs, o.funs, o.frf⟩
theorem ok_untr {pn : List (Addr × Obj)} (o : (X.tr pn xe).Ok) : X.Ok := ⟨o.mod, o.kind, o.glob, o.blt, o.above, o.inj, o.has, o.cab, o.hd, o.frames, o.stk, o.exf, o.bs, o.bsz, o.noex, o.exfs, o.funs, o.frf⟩
theorem inv_tr (I : Inv X pins σ H s) : Inv (X.tr (X.pn ++ pins) xe) [] σ H s :=
  ⟨ok_tr I.ok, I.os, I.bare, I.base, I.loc, I.cell, I.free, I.freeC, fun p hp => I.pin p (by rw [List.append_nil] at hp; exact hp), I.hok, I.len⟩
theorem inv_untr (I : Inv (X.tr (X.pn ++ pins) xe) pins' σ H s) : Inv X pins σ H s :=
  ⟨ok_untr I.ok, I.os, I.bare, I.base, I.loc, I.cell, I.free, I.freeC, fun p hp => I.pin p (List.mem_append_left _ hp), I.hok, I.len⟩
theorem fly_untr (F : FlyAt (X.tr (X.pn ++ pins) xe) pins' H a s) : FlyAt X pins H a s := by
  obtain ⟨C, dx, vs, h1, h2, h3, h4⟩ := F
  refine ⟨C, dx, vs, h1, h2, h3, h4.imp id fun ⟨T, oT, ts, q1, q2, q3, q4, q5, q6⟩ => ⟨T, oT, ts, q1, q2, q3, q4, q5, ?_⟩⟩
  obtain ⟨r1, r2, r3, r4, r5, r6⟩ := q6
  exact ⟨r1, r2, r3, r4, r5, fun p hp => r6 p (List.mem_append_left _ hp)⟩
theorem sp_untr {D : Ends} {f : Flow} (h : SP (X.tr (X.pn ++ pins) xe) pins' D f s) : SP X pins D f s := by
  cases f with
  | next => obtain ⟨σ', H', I, q⟩ := h; exact ⟨σ', H', inv_untr I, q⟩
  | brk => obtain ⟨σ', H', I, q⟩ := h; exact ⟨σ', H', inv_untr I, q⟩
  | cont => obtain ⟨σ', H', I, q⟩ := h; exact ⟨σ', H', inv_untr I, q⟩
  | ret u => obtain ⟨v, σ', H', I, r, q⟩ := h; exact ⟨v, σ', H', inv_untr I, r, q⟩
theorem inv_hd (I : Inv X pins σ H s) : Inv (X.hd a) pins σ H s :=
  ⟨⟨I.ok.mod, I.ok.kind, I.ok.glob, I.ok.blt, I.ok.above, I.ok.inj, I.ok.has, I.ok.cab, (fun z => by cases z), I.ok.frames, I.ok.stk, I.ok.exf, I.ok.bs, I.ok.bsz, I.ok.noex, I.ok.exfs, I.ok.funs, I.ok.frf⟩, I.os, I.bare, I.base, I.loc, I.cell, I.free, I.freeC, I.pin, I.hok, I.len⟩
theorem inv_unhd (o : X.Ok) (I : Inv (X.hd a) pins σ H s) : Inv X pins σ H s := ⟨o, I.os, I.bare, I.base, I.loc, I.cell, I.free, I.freeC, I.pin, I.hok, I.len⟩
theorem sp_unhd {D : Ends} {f : Flow} (o : X.Ok) (h : SP (X.hd a) pins D f s) : SP X pins D f s := by
  cases f with
  | next => obtain ⟨σ', H', I, q⟩ := h; exact ⟨σ', H', inv_unhd o I, q⟩
  | brk => obtain ⟨σ', H', I, q⟩ := h; exact ⟨σ', H', inv_unhd o I, q⟩
  | cont => obtain ⟨σ', H', I, q⟩ := h; exact ⟨σ', H', inv_unhd o I, q⟩
  | ret u => obtain ⟨v, σ', H', I, r, q⟩ := h; exact ⟨v, σ', H', inv_unhd o I, r, q⟩
end
def catchD (K : PySem.W.Frag) (C : Addr) : List (Addr × DS) → Outs → St → Hp → Prop
  | [], _, _, _ => False
  | (T, u) :: r, D, σ, H => ∃ b, PySem.W.mroIn K C (.ref T) = some b ∧ (if b = true then u { D with ex := fun _ _ _ => False } σ H else catchD K C r D σ H)
def dTry (K : PySem.W.Frag) (tb : DS) (us : List (Addr × DS)) : DS := fun D σ H => tb { D with ex := fun σ' a H' => ∃ C dx, H' a = some (flO a C dx) ∧ ECls K C ∧ catchD K C us D σ' H' } σ H
inductive HsOk (X : Cx) : List ExceptHandler → List (Addr × DS) → Prop where
  | nil : HsOk X [] []
  | cons {x : Str} {p pos : Pos} {b : Stmt} {suite : List Stmt} {rest : List ExceptHandler} {T : Addr} {u : DS} {us : List (Addr × DS)} (hg : Gl X x) (hm : X.mg x = some (.ref T)) (hd : (x == ("__debug__" : Str)) = false) (ec : ECls X.K T) (hs : ∀ a, QSs (X.hd a) (b :: suite) u) (r : HsOk X rest us) :
      HsOk X (.ExceptHandler (some (.Name x p)) none (b :: suite) pos :: rest) ((T, u) :: us)
section
variable {X : Cx} {pins : List (Addr × Obj)}
theorem handle_ok {Ex : St → EK} {D : Ends} {hl : List ExceptHandler} {us : List (Addr × DS)} (K : HsOk X hl us) : ∀ {σ : St} {H : Hp} {s : Shared} {a C : Addr} {dx : Option Addr}, Inv X pins σ H s → FlyAt X pins H a s → H a = some (flO a C dx) → ECls X.K C → catchD X.K C us (outs Ex D) σ H →
    wpAny (model X.prog X.w) X.A (handleBy (.ref a) X.env hl) (SP X pins D) X.xe s := by
  induction K with
  | nil => intro σ H s a C dx I F e ec h; exact h.elim
  | @cons x p pos b suite rest T u us hg hm hd ecT hs r ih =>
    intro σ H s a C dx I F e ec h
    obtain ⟨m, hm2, h⟩ := h
    have hx : ∃ vs : Array Value, s.heap.get? a = some (excObj C dx vs) := by
      obtain ⟨vs, z, _⟩ := (I.hok a _ e).1
      exact ⟨vs, z⟩
    obtain ⟨vs, hx⟩ := hx
    refine wpAny_handleBy_cons (codeAny_handlers_test (ld_glob (X := X.hd a) (inv_hd I) hg hm ?_ hd)) (by intro q; cases q)
    refine matches_ok (A := (X.hd a).A) I.kIn ec ecT hx hm2 ?_
    cases m with
    | false => exact ih I F e ec h
    | true =>
      refine codeAny_handlers_suite (flight_ok (A := (X.hd a).A) I F fun s1 I1 F1 => ?_)
      exact wpAny_mono (hs a (fun _ _ _ => False) meets_no pins s1 σ H D (inv_hd I1) h) (fun f s2 q => sp_unhd I.ok q) fun _ _ z => z.elim
theorem qs_try {Y : Cx} {body : List Stmt} {h0 : ExceptHandler} {hs : List ExceptHandler} {pos : Pos} {tb : DS} {us : List (Addr × DS)} (hst : Y.stack = Y.env :: Y.outer) (hfr : Y.env.frame = some Y.env.locals)
    (hb : ∀ pn xe, PassesOwn (model Y.prog Y.w) Y.A Y.env xe → QSs (Y.tr pn xe) body tb) (hh : HsOk Y (h0 :: hs) us) : QS Y (.Try body (h0 :: hs) [] [] pos) (dTry Y.K tb us) := by
  intro Ex m pins s σ H D I hw
  refine wpAny_Try_except ?_
  refine wpAny_mono (hb (Y.pn ++ pins) (fun e s1 => wpAny (model Y.prog Y.w) Y.A (noteFrame e Y.env) (fun _ s2 => wpAny (model Y.prog Y.w) Y.A (setFlight e none) (fun _ s3 => wpAny (model Y.prog Y.w) Y.A (handleBy e Y.env (h0 :: hs)) (SP Y pins D) Y.xe s3) Y.xe s2) Y.xe s1) PassesOwn.looking
    (fun σ' a H' => ∃ C dx, H' a = some (flO a C dx) ∧ ECls Y.K C ∧ catchD Y.K C us (outs Ex D) σ' H') ?_ [] s σ H D (inv_tr I) hw) (fun f s1 q => ?_) fun _ _ z => z
  · intro pins' σ' H' s' a I' F' ⟨C, dx, e, ec, h⟩
    exact note_ok (inv_untr I') hst hfr (fly_untr F') fun s2 I2 F2 => handle_ok hh I2 F2 e ec h
  · have q := sp_untr q
    cases f with
    | next => exact wpAny_execs_nil q
    | _ => exact q
end
end L2
set_option maxRecDepth 100000
set_option maxHeartbeats 4000000
namespace L2
open PySem PySem.Spec PyProof.Rows
def noComp : Expr → Bool
  | .ListComp _ _ _ _ => false
  | .SetComp _ _ _ _ => false
  | .DictComp _ _ _ _ _ => false
  | _ => true
theorem noComp_ok {e : Expr} (h : noComp e = true) (t : Option Expr) (l : Nat) (env : Env) : swapsWith e t l env = pure false := by
  cases e with
  | ListComp _ _ _ _ => cases h
  | SetComp _ _ _ _ => cases h
  | DictComp _ _ _ _ _ => cases h
  | _ => rfl
section
variable {X : Cx} {G : Sg} {st : Stmt} {rest : List Stmt} {t u : DS} {e : Expr} {de : DE} {pos p' : Pos}
theorem qs_never : QS X st dNever := fun _ _ _ _ _ _ _ _ h => h.elim
theorem qss_nil : QSs X [] dNext := fun _ _ => pss_nil
theorem qss_cons (h1 : QS X st t) (h2 : QSs X rest u) : QSs X (st :: rest) (dSeq t u) := fun Ex m => pss_cons (h1 Ex m) (h2 Ex m)
theorem qs_pass : QS X (.Pass pos) dNext := fun _ _ => ps_pass
theorem qs_brk : QS X (.Break pos) dBrk := fun _ _ => ps_break
theorem qs_cnt : QS X (.Continue pos) dCnt := fun _ _ => ps_continue
theorem qs_ret (h : QE X e de) : QS X (.Return (some e) pos) (dRet de) := fun Ex m => ps_ret (h Ex m)
theorem qs_retN : QS X (.Return none pos) dRetN := fun _ _ => ps_retN
theorem qs_expr (h : QE X e de) (hn : noComp e = true) : QS X (.Expr e pos) (dDrop de) := fun Ex m => ps_expr (h Ex m) (noComp_ok hn _ _ _)
theorem qs_if {c : Expr} {a b : List Stmt} {tc : DT} (hc : QT X c tc) (ha : QSs X a t) (hb : QSs X b u) : QS X (.If c a b pos) (dIf tc t u) := fun Ex m => ps_if (hc Ex m) (ha Ex m) (hb Ex m)
theorem qs_set {i : Nat} {x : Str} (O : GOk X G) (hi : slotF G.N x 0 = some i) (hx : okSt G x = true) (h : QE X e de) (hn : swapsWith e (some (.Name x p')) pos.line X.env = pure false) : QS X (.Assign [.Name x p'] e pos) (dSet i de) := by
  obtain ⟨h1, h2⟩ := okSt_ok O hx
  exact fun Ex m => ps_set (by rw [O.N]; exact O.nd) (by rw [O.N]; exact slot_get hi) h1 (h Ex m) hn h2
variable {tg iter elt : Expr} {ifs : List Expr} {sc : Scope} {wi : DI} {g : DG} {tc : DT}
theorem qs_setComp {i : Nat} {x : Str} {cp : Pos} (O : GOk X G) (hi : slotF G.N x 0 = some i) (hx : okSt G x = true) (hc : X.calm = true) (hk : compOk G sc = true) (hs : noSet iter = true) (hq : QI X tg iter wi) (hg : ∀ X', GOk X' (compG G sc.names) → PG X' tg g)
    (ht : ∀ X', GOk X' (compG G sc.names) → QIfs X' ifs tc) (he : ∀ X', GOk X' (compG G sc.names) → QE X' elt de) :
    QS X (.Assign [.Name x p'] (.ListComp elt [⟨tg, iter, ifs, 0⟩] sc cp) pos) (dSet i (dComp (compSrc G sc.names) wi g tc de)) := by
  obtain ⟨h1, h2⟩ := okSt_ok O hx
  have sw : swapsWith (.ListComp elt [⟨tg, iter, ifs, 0⟩] sc cp) (some (.Name x p')) pos.line X.env = pure (X.env.blockKind == .function && X.env.kindOf x == some .local && p'.line == (Expr.ListComp elt [⟨tg, iter, ifs, 0⟩] sc cp).pos.line
      && !(sc.names.any fun (n, k) => n == x && (k == .local || k == .cell))) := rfl
  cases hb : (X.env.blockKind == .function && X.env.kindOf x == some .local && p'.line == (Expr.ListComp elt [⟨tg, iter, ifs, 0⟩] sc cp).pos.line
      && !(sc.names.any fun (n, k) => n == x && (k == .local || k == .cell))) with
  | false =>
    rw [hb] at sw
    exact qs_set O hi hx (qe_comp O hc hk hs hq hg ht he) sw
  | true =>
    rw [hb] at sw
    simp only [Bool.and_eq_true] at hb
    have hl : X.env.scope.names.lookup x = some .local := eq_of_beq hb.1.1.2
    intro Ex m
    exact ps_setComp hc (by rw [O.N]; exact O.nd) (by rw [O.N]; exact slot_get hi) hl (comp_sc O hk) (hq Ex m) (fun fp C s H => hg _ (comp_ok O hk fp C s H)) (fun fp C s H => ht _ (comp_ok O hk fp C s H)) (fun fp C s H => he _ (comp_ok O hk fp C s H) _ meets_no) sw (fun x => noSet_ok hs X.env x)
theorem qs_for {body : List Stmt} (O : GOk X G) (hc : X.calm = true) (hi : QI X tg iter wi) (hg : PG X tg g) (hb : QSs X body t) (hs : noSet iter = true) : QS X (.For tg iter body [] pos) (dFor wi g t) := by
  intro Ex m pins s σ H D I h
  refine wpAny_mono (ps_for O.own hc (hi Ex m) hg (hb Ex m) (fun x => noSet_ok hs X.env x) pins s σ H { D with nx := fun σ' H' => Thaw H H' (D.nx σ') } I h) (fun f s' q => ?_) fun _ _ z => z
  cases f with
  | next =>
    obtain ⟨σ', H', I', q⟩ := q
    obtain ⟨H2, I2, q2⟩ := Thaw.inv I I' q
    exact ⟨σ', H2, I2, q2⟩
  | _ => exact q
def dRaise (K : PySem.W.Frag) (e : DE) : DS := fun D σ H => e σ H (rRaise K (D.ex σ)) (D.ex σ)
theorem qs_raise (O : GOk X G) (hc : X.A.handled = none) (h : QE X e de) : QS X (.Raise (some e) none pos) (dRaise X.K de) := fun Ex m => ps_raise m hc (h Ex m)
def noTup : Expr → Bool
  | .Tuple _ _ _ => false
  | _ => true
theorem noTup_ok {e : Expr} (h : noTup e = true) (tg : Expr) (env : Env) : swappedStores [tg] e env = pure none := by
  cases e with
  | Tuple _ _ _ => cases h
  | _ => cases tg <;> rfl
theorem qs_asg {ts : List Expr} {kt : Nat} {pt : Pos} {g : DG} (h : QE X e de) (hg : PG X (.Tuple ts kt pt) g) (hn : noComp e = true) (ht : noTup e = true) : QS X (.Assign [.Tuple ts kt pt] e pos) (dAsg de g) :=
  fun Ex m => ps_asg (h Ex m) hg (show swapsWithSole [.Tuple ts kt pt] e pos.line X.env = pure false from noComp_ok hn (some (.Tuple ts kt pt)) pos.line X.env) (noTup_ok ht _ _)
def gdSub (K : PySem.W.Frag) (o i : DE) : DG := fun v σ H Q => o σ H (fun x H1 => i σ H1 (fun y H2 => rStoD x y v H2 (Q σ)) fun _ _ => False) fun _ _ => False
theorem qs_sub {o i : Expr} {do' di : DE} (hu : X.A.units + 64 < cLine) (ho : QE X o do') (hi : QE X i di) (h : QE X e de) (ht : noTup e = true) (hsl : noSlice i = true) : QS X (.Assign [.Subscript o i p'] e pos) (dAsg de (gdSub X.K do' di)) := by
  intro Ex m
  have hg : PG X (.Subscript o i p') (gdSub X.K do' di) := pg_sub (ho _ meets_no) (hi _ meets_no) (sub_D hu) (by
    intro v
    cases i with
    | Slice _ _ _ _ => cases hsl
    | _ => rfl)
  exact ps_asg (h Ex m) hg (show swapsWithSole [.Subscript o i p'] e pos.line X.env = pure false from by show swapsWith e (some (.Subscript o i p')) pos.line X.env = pure false; cases e <;> rfl) (noTup_ok ht _ _)
def dFld (K : PySem.W.Frag) (f : Str) (o e : DE) : DS := fun D σ H => e σ H (fun y H1 => o σ H1 (fun x H2 => rSetD K f x y H2 (D.nx σ)) (D.ex σ)) (D.ex σ)
theorem qs_fld {o : Expr} {f : Str} {do' : DE} (ho : QE X o do') (h : QE X e de) : QS X (.Assign [.Attribute o f p'] e pos) (dFld X.K f do' de) := by
  intro Ex m pins s σ H D I hw
  refine plainObj_wpAny_Assign_Attribute (thn (h Ex m pins s σ H _ I hw) fun u s1 ⟨y, H1, I1, ry, q⟩ => thn (ho Ex m pins s1 σ H1 _ I1 q) fun ov s2 ⟨x, H2, I2, rx, q2⟩ => ?_) (by cases e <;> rfl)
  exact set_D I2 rx ry q2 fun H' s' I' hN => ⟨σ, H', I', hN⟩
end
def valB : GB → GB
  | .val v u => .val v u
  | .exc C _ => .val (.ref C) (.ref C)
  | .cls C _ => .val (.ref C) (.ref C)
  | _ => .met "" []
def valsOf (gb : List (Str × GB)) : List (Str × GB) := gb.map fun p => (p.1, valB p.2)
theorem valsOf_at (x : Str) : ∀ gb : List (Str × GB), (valsOf gb).lookup x = (gb.lookup x).map valB
  | [] => rfl
  | (y, g) :: r => by
    show List.lookup x ((y, valB g) :: valsOf r) = _
    rw [List.lookup_cons, List.lookup_cons]
    cases x == y with
    | true => rfl
    | false => exact valsOf_at x r
theorem valsOf_met {m : Str} {l : List MI} : ∀ {gb : List (Str × GB)}, findMet (valsOf gb) m = some l → l = []
  | [], h => by cases h
  | (y, g) :: r, h => by
    have go : findMet (valsOf r) m = some l → l = [] := valsOf_met
    cases g with
    | val v u => exact go h
    | exc C i => exact go h
    | cls C i => exact go h
    | fn i =>
      have h : (if ("" : Str) = m then some [] else findMet (valsOf r) m) = some l := h
      split at h
      · cases h; rfl
      · exact go h
    | met m' l' =>
      have h : (if ("" : Str) = m then some [] else findMet (valsOf r) m) = some l := h
      split at h
      · cases h; rfl
      · exact go h
def hdG (G : Sg) : Sg := { G with gb := valsOf G.gb, calm := false }
def excAt (gb : List (Str × GB)) (x : Str) : Option Addr := match gb.lookup x with
  | some (.exc T _) => some T
  | _ => none
def okH (G : Sg) : ExceptHandler → Bool
  | .ExceptHandler (some (.Name x _)) none (_ :: _) _ => isGl G x && (excAt G.gb x).isSome
  | _ => false
def clsH (G : Sg) : ExceptHandler → Addr
  | .ExceptHandler (some (.Name x _)) _ _ _ => (excAt G.gb x).getD 0
  | _ => 0
def bodyH : ExceptHandler → List Stmt
  | .ExceptHandler _ _ b _ => b
theorem hd_gok {X : Cx} {G : Sg} (O : GOk X G) (a : Addr) : GOk (X.hd a) (hdG G) where
  K := O.K
  kind := O.kind
  own := PassesOwn.never
  N := O.N
  nd := O.nd
  sc := O.sc
  vis := O.vis
  top := O.top
  calm := rfl
  hd := fun z => by cases z
  units := O.units
  cel := O.cel
  fn := fun x i e => by
    have e : (valsOf G.gb).lookup x = some (.fn i) := e
    rw [valsOf_at] at e
    obtain ⟨g, _, z⟩ := Option.map_eq_some_iff.mp e
    cases g <;> cases z
  val := fun x v u e => by
    have e : (valsOf G.gb).lookup x = some (.val v u) := e
    rw [valsOf_at] at e
    obtain ⟨g, hg, z⟩ := Option.map_eq_some_iff.mp e
    cases g with
    | val v' u' => cases z; exact O.val x v u hg
    | exc C i => cases z; exact ⟨(O.exc x C i hg).1, rfl⟩
    | cls C i => cases z; exact ⟨(O.cls x C i hg).1, rfl⟩
    | fn i => cases z
    | met m l => cases z
  bl := O.bl
  exc := fun x C oi e => by
    have e : (valsOf G.gb).lookup x = some (.exc C oi) := e
    rw [valsOf_at] at e
    obtain ⟨g, _, z⟩ := Option.map_eq_some_iff.mp e
    cases g <;> cases z
  cls := fun x C oi e => by
    have e : (valsOf G.gb).lookup x = some (.cls C oi) := e
    rw [valsOf_at] at e
    obtain ⟨g, _, z⟩ := Option.map_eq_some_iff.mp e
    cases g <;> cases z
  met := fun m l e mi hm => by
    rw [valsOf_met (show findMet (valsOf G.gb) m = some l from e)] at hm
    cases hm
  frm := O.frm
theorem tr_fi {X : Cx} {pn : List (Addr × Obj)} {xe : Value → Shared → Prop} {i : FI} (F : FIOk X i) : FIOk (X.tr pn xe) i := ⟨F.kp, F.ok, F.room, F.binds, F.vals⟩
theorem tr_gok {X : Cx} {G : Sg} (O : GOk X G) {pn : List (Addr × Obj)} {xe : Value → Shared → Prop} (ho : PassesOwn (model X.prog X.w) X.A X.env xe) : GOk (X.tr pn xe) G where
  K := O.K
  kind := O.kind
  own := ho
  N := O.N
  nd := O.nd
  sc := O.sc
  vis := O.vis
  top := O.top
  calm := O.calm
  hd := O.hd
  units := O.units
  cel := O.cel
  fn := fun x i e => ⟨(O.fn x i e).1, tr_fi (O.fn x i e).2⟩
  val := O.val
  bl := O.bl
  exc := fun x C oi e => by
    obtain ⟨a, b, c, d⟩ := O.exc x C oi e
    refine ⟨a, b, c, ?_⟩
    cases oi with
    | none => exact d
    | some i => exact ⟨d.1, d.2.1, tr_fi d.2.2.1, d.2.2.2⟩
  cls := fun x C oi e => by
    obtain ⟨a, b, d⟩ := O.cls x C oi e
    refine ⟨a, b, ?_⟩
    cases oi with
    | none => exact d
    | some i => exact ⟨d.1, d.2.1, d.2.2.1, tr_fi d.2.2.2.1, d.2.2.2.2⟩
  met := fun m l e mi hm => ⟨(O.met m l e mi hm).1, (O.met m l e mi hm).2.1, tr_fi (O.met m l e mi hm).2.2⟩
  frm := O.frm
theorem okH_form {G : Sg} {h : ExceptHandler} (hh : okH G h = true) : ∃ x p b suite pos, h = .ExceptHandler (some (.Name x p)) none (b :: suite) pos ∧ isGl G x = true ∧ (excAt G.gb x).isSome = true := by
  unfold okH at hh
  split at hh
  · rw [Bool.and_eq_true] at hh
    exact ⟨_, _, _, _, _, rfl, hh.1, hh.2⟩
  · cases hh
theorem hs_ok {X : Cx} {G : Sg} (O : GOk X G) {w : List Stmt → DS} (h : ∀ a ss, QSs (X.hd a) ss (w ss)) : ∀ {hl : List ExceptHandler}, hl.all (okH G) = true → HsOk X hl (hl.map fun h => (clsH G h, w (bodyH h)))
  | [], _ => .nil
  | e0 :: r, hh => by
    rw [List.all_cons, Bool.and_eq_true] at hh
    obtain ⟨h1, h2⟩ := hh
    obtain ⟨x, p, b, suite, pos, rfl, hg, hs⟩ := okH_form h1
    obtain ⟨T, hT⟩ := Option.isSome_iff_exists.mp hs
    have hl : ∃ oi, G.gb.lookup x = some (.exc T oi) := by
      unfold excAt at hT
      split at hT
      · rename_i T' oi e; cases hT; exact ⟨oi, e⟩
      · cases hT
    obtain ⟨oi, hl⟩ := hl
    obtain ⟨m, kp, ec, _⟩ := O.exc x T oi hl
    have e : clsH G (.ExceptHandler (some (.Name x p)) none (b :: suite) pos) = T := by show (excAt G.gb x).getD 0 = T; rw [hT]; rfl
    rw [List.map_cons, e]
    exact .cons (O.gl hg) m (isGl_d hg).1 ec (fun a => h a _) (hs_ok O h h2)
mutual
def wS : Nat → Sg → Stmt → DS
  | 0, _, _ => dNever
  | n + 1, G, st => match st with
    | .Pass _ => dNext
    | .Break _ => dBrk
    | .Continue _ => dCnt
    | .Return (some e) _ => dRet (wE n G e)
    | .Return none _ => dRetN
    | .Expr e _ => if noComp e = true then dDrop (wE n G e) else dNever
    | .If c a b _ => dIf (wT n G c) (wSs n G a) (wSs n G b)
    | .Assign [.Name x _] (.ListComp elt [⟨tg, iter, ifs, 0⟩] sc _) _ => match slotF G.N x 0 with
      | some i => if okSt G x = true ∧ G.calm = true ∧ compOk G sc = true ∧ noSet iter = true then
          dSet i (dComp (compSrc G sc.names) (wI n G tg iter) (wG n (compG G sc.names) tg) (match ifs with | [] => dYes | [c] => wT n (compG G sc.names) c | _ => tNo) (wE n (compG G sc.names) elt)) else dNever
      | none => dNever
    | .Assign [.Name x _] e _ => match slotF G.N x 0 with
      | some i => if okSt G x = true ∧ noComp e = true then dSet i (wE n G e) else dNever
      | none => dNever
    | .Assign [.Tuple ts kt pt] e _ => if noComp e = true ∧ noTup e = true then dAsg (wE n G e) (wG n G (.Tuple ts kt pt)) else dNever
    | .Assign [.Attribute o f _] e _ => dFld G.K f (wE n G o) (wE n G e)
    | .Assign [.Subscript o i _] e _ => if noTup e = true ∧ noSlice i = true then dAsg (wE n G e) (gdSub G.K (wE n G o) (wE n G i)) else dNever
    | .Raise (some e) none _ => if G.calm = true then dRaise G.K (wE n G e) else dNever
    | .For tg iter body [] _ => if G.calm = true ∧ noSet iter = true then dFor (wI n G tg iter) (wG n G tg) (wSs n G body) else dNever
    | .Try body (h :: hs) [] [] _ => if G.top = true ∧ (h :: hs).all (okH G) = true then dTry G.K (wSs n G body) ((h :: hs).map fun h => (clsH G h, wSs n (hdG G) (bodyH h))) else dNever
    | _ => dNever
def wSs : Nat → Sg → List Stmt → DS
  | 0, _, _ => dNever
  | _ + 1, _, [] => dNext
  | n + 1, G, s :: r => dSeq (wS n G s) (wSs n G r)
end
theorem ws_ok : ∀ (n : Nat) (X : Cx) (G : Sg), GOk X G → (∀ s, QS X s (wS n G s)) ∧ (∀ ss, QSs X ss (wSs n G ss)) := by
  intro n
  induction n with
  | zero =>
    intro X G O
    refine ⟨fun s => ?_, fun s => ?_⟩
    · unfold wS; exact qs_never
    · unfold wSs; exact fun _ _ _ _ _ _ _ _ h => h.elim
  | succ n ih =>
    intro X G O
    obtain ⟨hS, hSs⟩ := ih X G O
    obtain ⟨hE, hT, hI⟩ := w_ok n X G O
    refine ⟨fun s => ?_, fun s => ?_⟩
    · unfold wS
      split
      · exact qs_pass
      · exact qs_brk
      · exact qs_cnt
      · exact qs_ret (hE _)
      · exact qs_retN
      · split
        · exact qs_expr (hE _) ‹_›
        · exact qs_never
      · exact qs_if (hT _) (hSs _) (hSs _)
      · split
        · rename_i i e
          split
          · rename_i hh
            obtain ⟨h1, h2, h3, h4⟩ := hh
            refine qs_setComp O e h1 (O.calm ▸ h2) h3 h4 (hI _ _) (fun X' O' => wG_ok n X' _ O' _) (fun X' O' => ?_) (fun X' O' => (w_ok n X' _ O').1 _)
            split
            · exact qifs_nil
            · exact qifs_one ((w_ok n X' _ O').2.1 _)
            · exact fun _ _ _ _ _ _ h => h.elim
          · exact qs_never
        · exact qs_never
      · split
        · rename_i i e
          split
          · rename_i hh
            exact qs_set O e hh.1 (hE _) (noComp_ok hh.2 _ _ _)
          · exact qs_never
        · exact qs_never
      · split
        · rename_i hh
          exact qs_asg (hE _) (wG_ok n X G O _) hh.1 hh.2
        · exact qs_never
      · rw [← O.K]; exact qs_fld (hE _) (hE _)
      · split
        · rename_i hh
          rw [← O.K]; exact qs_sub O.units (hE _) (hE _) (hE _) hh.1 hh.2
        · exact qs_never
      · split
        · rename_i hcm
          rw [← O.K]; exact qs_raise O (O.hd (O.calm ▸ hcm)) (hE _)
        · exact qs_never
      · split
        · rename_i hh
          exact qs_for O (O.calm ▸ hh.1) (hI _ _) (wG_ok n X G O _) (hSs _) hh.2
        · exact qs_never
      · split
        · rename_i hh
          rw [← O.K]
          exact qs_try (O.frm hh.1).1 (O.frm hh.1).2 (fun pn xe ho => (ih _ _ (tr_gok O ho)).2 _) (hs_ok O (fun a ss => (ih _ _ (hd_gok O a)).2 ss) hh.2)
        · exact qs_never
      · exact qs_never
    · cases s with
      | nil => unfold wSs; exact qss_nil
      | cons a r => unfold wSs; exact qss_cons (hS a) (hSs r)
end L2
set_option maxRecDepth 100000
set_option maxHeartbeats 4000000
namespace L2
open PySem PySem.Spec PyProof.Rows
section
variable {P : Program} {w : World} {K : PySem.W.Frag} {mg : Str → Option Value} {base : Heap}
structure FnIn (P : Program) (w : World) (K : PySem.W.Frag) (mg : Str → Option Value) (base : Heap) (k : Nat) (x : Str) (i : FI) : Prop where
  at_ : mg x = some (.ref i.f)
  kp : PySem.W.keepIn K (.ref i.f) = true
  ok : ∃ CX, (∀ X' : Cx, X'.prog = P → X'.w = w → PassX CX X') ∧ FnOk P w K mg base CX i.k i.f i.fd i.ps i.sp
  le : i.k ≤ k
  binds : ∀ j, j ≤ i.dfs.length → Binds K i.fd i.ps (i.ds.drop j)
  vals : Vals i.dfs i.ds
def InitIn (P : Program) (w : World) (K : PySem.W.Frag) (mg : Str → Option Value) (base : Heap) (k : Nat) (C : Addr) : Option FI → Prop
  | none => PySem.W.findIn K (.ref C) "__init__" = some (some (.builtin "ValueError.__init__"))
  | some i => PySem.W.findIn K (.ref C) "__init__" = some (some (.ref i.f)) ∧ PySem.W.isFn K (.ref i.f) = true ∧ PySem.W.keepIn K (.ref i.f) = true ∧ (∃ CX, (∀ X' : Cx, X'.prog = P → X'.w = w → PassX CX X') ∧ FnOk P w K mg base CX i.k i.f i.fd i.ps i.sp) ∧
      i.k + 1 ≤ k ∧ (∀ j, j ≤ i.dfs.length → Binds K i.fd i.ps (i.ds.drop j)) ∧ Vals i.dfs i.ds
structure ExcIn (P : Program) (w : World) (K : PySem.W.Frag) (mg : Str → Option Value) (base : Heap) (k : Nat) (x : Str) (C : Addr) (oi : Option FI) : Prop where
  at_ : mg x = some (.ref C)
  kp : PySem.W.keepIn K (.ref C) = true
  cls : ECls K C
  init : InitIn P w K mg base k C oi
structure FiIn (P : Program) (w : World) (K : PySem.W.Frag) (mg : Str → Option Value) (base : Heap) (k : Nat) (i : FI) : Prop where
  kp : PySem.W.keepIn K (.ref i.f) = true
  ok : ∃ CX, (∀ X' : Cx, X'.prog = P → X'.w = w → PassX CX X') ∧ FnOk P w K mg base CX i.k i.f i.fd i.ps i.sp
  le : i.k ≤ k
  binds : ∀ j, j ≤ i.dfs.length → Binds K i.fd i.ps (i.ds.drop j)
  vals : Vals i.dfs i.ds
theorem FiIn.mono {k k' : Nat} {i : FI} (F : FiIn P w K mg base k i) (h : k ≤ k') : FiIn P w K mg base k' i := ⟨F.kp, F.ok, Nat.le_trans F.le h, F.binds, F.vals⟩
def MkIn (P : Program) (w : World) (K : PySem.W.Frag) (mg : Str → Option Value) (base : Heap) (k : Nat) (C : Addr) : Option FI → Prop
  | none => PySem.W.makesIn K C = true ∧ PySem.W.findIn K (.ref C) "__init__" = some (some (.builtin "object.__init__"))
  | some i => PySem.W.makesIn K C = true ∧ PySem.W.findIn K (.ref C) "__init__" = some (some (.ref i.f)) ∧ PySem.W.isFn K (.ref i.f) = true ∧ FiIn P w K mg base k i ∧ i.k + 1 ≤ k
structure ClsIn (P : Program) (w : World) (K : PySem.W.Frag) (mg : Str → Option Value) (base : Heap) (k : Nat) (x : Str) (C : Addr) (oi : Option FI) : Prop where
  at_ : mg x = some (.ref C)
  kp : PySem.W.keepIn K (.ref C) = true
  made : MkIn P w K mg base k C oi
theorem ClsIn.mono {k k' : Nat} {x : Str} {C : Addr} {oi : Option FI} (F : ClsIn P w K mg base k x C oi) (h : k ≤ k') : ClsIn P w K mg base k' x C oi := by
  refine ⟨F.at_, F.kp, ?_⟩
  cases oi with
  | none => exact F.made
  | some i => obtain ⟨a, b, c, d, e⟩ := F.made; exact ⟨a, b, c, d.mono h, Nat.le_trans e h⟩
structure MetIn (P : Program) (w : World) (K : PySem.W.Frag) (mg : Str → Option Value) (base : Heap) (k : Nat) (m : Str) (mi : MI) : Prop where
  cls : Cls K mi.C
  at_ : Meth K mi.C m mi.i.f
  fi : FiIn P w K mg base k mi.i
theorem MetIn.mono {k k' : Nat} {m : Str} {mi : MI} (F : MetIn P w K mg base k m mi) (h : k ≤ k') : MetIn P w K mg base k' m mi := ⟨F.cls, F.at_, F.fi.mono h⟩
theorem ExcIn.mono {P : Program} {w : World} {K : PySem.W.Frag} {mg : Str → Option Value} {base : Heap} {k k' : Nat} {x : Str} {C : Addr} {oi : Option FI} (F : ExcIn P w K mg base k x C oi) (h : k ≤ k') : ExcIn P w K mg base k' x C oi := by
  refine ⟨F.at_, F.kp, F.cls, ?_⟩
  cases oi with
  | none => exact F.init
  | some i => obtain ⟨a, b, c, d, e, f⟩ := F.init; exact ⟨a, b, c, d, Nat.le_trans e h, f⟩
structure Tab (P : Program) (w : World) (K : PySem.W.Frag) (mg : Str → Option Value) (base : Heap) (k : Nat) (gb : List (Str × GB)) (bl : List Str) : Prop where
  fn : ∀ x i, (x, GB.fn i) ∈ gb → FnIn P w K mg base k x i
  val : ∀ x v u, (x, GB.val v u) ∈ gb → mg x = some u ∧ RelV v u
  bl : ∀ x ∈ bl, mg x = none
  exc : ∀ x C oi, (x, GB.exc C oi) ∈ gb → ExcIn P w K mg base k x C oi
  cls : ∀ x C oi, (x, GB.cls C oi) ∈ gb → ClsIn P w K mg base k x C oi
  met : ∀ x m l, (x, GB.met m l) ∈ gb → ∀ mi ∈ l, MetIn P w K mg base k m mi
theorem FnIn.mono {k k' : Nat} {x : Str} {i : FI} (F : FnIn P w K mg base k x i) (h : k ≤ k') : FnIn P w K mg base k' x i := ⟨F.at_, F.kp, F.ok, Nat.le_trans F.le h, F.binds, F.vals⟩
theorem Tab.nil {bl : List Str} (h : ∀ x ∈ bl, mg x = none) : Tab P w K mg base 0 [] bl := ⟨fun _ _ h => (by cases h), fun _ _ _ h => (by cases h), h, fun _ _ _ h => (by cases h), fun _ _ _ h => (by cases h), fun _ _ _ h => (by cases h)⟩
theorem Tab.mono {k k' : Nat} {gb : List (Str × GB)} {bl : List Str} (T : Tab P w K mg base k gb bl) (h : k ≤ k') : Tab P w K mg base k' gb bl := ⟨fun x i hx => (T.fn x i hx).mono h, T.val, T.bl, fun x C oi hx => (T.exc x C oi hx).mono h, fun x C oi hx => (T.cls x C oi hx).mono h, fun x m l hx mi hm => (T.met x m l hx mi hm).mono h⟩
theorem Tab.cons {k : Nat} {gb : List (Str × GB)} {bl : List Str} {x : Str} {i : FI} (T : Tab P w K mg base k gb bl) (F : FnIn P w K mg base k x i) : Tab P w K mg base k ((x, .fn i) :: gb) bl :=
  ⟨fun y j hy => by
    rcases List.mem_cons.mp hy with e | e
    · cases e; exact F
    · exact T.fn y j e, fun y v' u' hy => by
    rcases List.mem_cons.mp hy with e | e
    · cases e
    · exact T.val y v' u' e, T.bl, fun y C' oi' hy => by
    rcases List.mem_cons.mp hy with e | e
    · cases e
    · exact T.exc y C' oi' e, fun y C' oi' hy => by
    rcases List.mem_cons.mp hy with e | e
    · cases e
    · exact T.cls y C' oi' e, fun y m' l' hy => by
    rcases List.mem_cons.mp hy with e | e
    · cases e
    · exact T.met y m' l' e⟩
theorem Tab.consX {k : Nat} {gb : List (Str × GB)} {bl : List Str} {x : Str} {C : Addr} {oi : Option FI} (T : Tab P w K mg base k gb bl) (F : ExcIn P w K mg base k x C oi) : Tab P w K mg base k ((x, .exc C oi) :: gb) bl :=
  ⟨fun y j hy => by
    rcases List.mem_cons.mp hy with e | e
    · cases e
    · exact T.fn y j e, fun y v' u' hy => by
    rcases List.mem_cons.mp hy with e | e
    · cases e
    · exact T.val y v' u' e, T.bl, fun y C' oi' hy => by
    rcases List.mem_cons.mp hy with e | e
    · cases e; exact F
    · exact T.exc y C' oi' e, fun y C' oi' hy => by
    rcases List.mem_cons.mp hy with e | e
    · cases e
    · exact T.cls y C' oi' e, fun y m' l' hy => by
    rcases List.mem_cons.mp hy with e | e
    · cases e
    · exact T.met y m' l' e⟩
theorem Tab.consV {k : Nat} {gb : List (Str × GB)} {bl : List Str} {x : Str} {v : V} {u : Value} (T : Tab P w K mg base k gb bl) (F : mg x = some u) (r : RelV v u) : Tab P w K mg base k ((x, .val v u) :: gb) bl :=
  ⟨fun y j hy => by
    rcases List.mem_cons.mp hy with e | e
    · cases e
    · exact T.fn y j e, fun y v' u' hy => by
    rcases List.mem_cons.mp hy with e | e
    · cases e; exact ⟨F, r⟩
    · exact T.val y v' u' e, T.bl, fun y C' oi' hy => by
    rcases List.mem_cons.mp hy with e | e
    · cases e
    · exact T.exc y C' oi' e, fun y C' oi' hy => by
    rcases List.mem_cons.mp hy with e | e
    · cases e
    · exact T.cls y C' oi' e, fun y m' l' hy => by
    rcases List.mem_cons.mp hy with e | e
    · cases e
    · exact T.met y m' l' e⟩
theorem Tab.consC {k : Nat} {gb : List (Str × GB)} {bl : List Str} {x : Str} {C : Addr} {oi : Option FI} (T : Tab P w K mg base k gb bl) (F : ClsIn P w K mg base k x C oi) : Tab P w K mg base k ((x, .cls C oi) :: gb) bl :=
  ⟨fun y j hy => by
    rcases List.mem_cons.mp hy with e | e
    · cases e
    · exact T.fn y j e, fun y v' u' hy => by
    rcases List.mem_cons.mp hy with e | e
    · cases e
    · exact T.val y v' u' e, T.bl, fun y C' oi' hy => by
    rcases List.mem_cons.mp hy with e | e
    · cases e
    · exact T.exc y C' oi' e, fun y C' oi' hy => by
    rcases List.mem_cons.mp hy with e | e
    · cases e; exact F
    · exact T.cls y C' oi' e, fun y m' l' hy => by
    rcases List.mem_cons.mp hy with e | e
    · cases e
    · exact T.met y m' l' e⟩
theorem Tab.consM {k : Nat} {gb : List (Str × GB)} {bl : List Str} {x : Str} {m : Str} {l : List MI} (T : Tab P w K mg base k gb bl) (F : ∀ mi ∈ l, MetIn P w K mg base k m mi) : Tab P w K mg base k ((x, .met m l) :: gb) bl :=
  ⟨fun y j hy => by
    rcases List.mem_cons.mp hy with e | e
    · cases e
    · exact T.fn y j e, fun y v' u' hy => by
    rcases List.mem_cons.mp hy with e | e
    · cases e
    · exact T.val y v' u' e, T.bl, fun y C' oi' hy => by
    rcases List.mem_cons.mp hy with e | e
    · cases e
    · exact T.exc y C' oi' e, fun y C' oi' hy => by
    rcases List.mem_cons.mp hy with e | e
    · cases e
    · exact T.cls y C' oi' e, fun y m' l' hy => by
    rcases List.mem_cons.mp hy with e | e
    · cases e; exact F
    · exact T.met y m' l' e⟩
theorem pass_CX0 (X : Cx) : PassX CX0 X := fun _ _ _ _ _ _ _ _ _ h => h.elim
def defG (K : PySem.W.Frag) (N : List Str) (sc : Scope) (gb : List (Str × GB)) (bl : List Str) : Sg := ⟨K, N, sc.names, gb, bl, true, true⟩
def visOk (N : List Str) (sc : Scope) : Bool := N.all fun x => (sc.names.lookup x == some .local) || (sc.names.lookup x == some .cell)
def endsOf (Q : VK) (E : EK) : Outs := ⟨fun _ H' => Q .non H', Q, fun _ _ => False, fun _ _ => False, fun _ => E⟩
structure FunD (K : PySem.W.Frag) (x qual : Str) (st : Stmt) (f : Addr) (fd : FuncData) (dV : Value) : Prop where
  ex : ∃ (oc : Value) (od : Option Addr) (kV doc pm : Value) (an : Option Addr) (cdv ct : Value) (osl : Array (Option Value)),
    fd = PySem.W.fnOf x qual (defArgs st) (defBody st) (defScope st) dV kV doc pm an cdv ct ∧ K.lookup f = some ⟨oc, od, .func fd, osl⟩ ∧ PySem.W.codeIn K cdv qual = true
  kp : PySem.W.keepIn K (.ref f) = true
theorem Fun.toD {x qual : Str} {st : Stmt} {f : Addr} {fd : FuncData} (F : Fun K x qual st f fd) : FunD K x qual st f fd .none := ⟨F.ex, F.kp⟩
theorem funD_mk {x qual : Str} {st : Stmt} {f : Addr} {oc : Value} {od an : Option Addr} {osl : Array (Option Value)} {dV kV doc pm cdv ct : Value} (l : K.lookup f = some ⟨oc, od, .func (PySem.W.fnOf x qual (defArgs st) (defBody st) (defScope st) dV kV doc pm an cdv ct), osl⟩)
    (c : PySem.W.codeIn K cdv qual = true) (k : PySem.W.keepIn K (.ref f) = true) : FunD K x qual st f (PySem.W.fnOf x qual (defArgs st) (defBody st) (defScope st) dV kV doc pm an cdv ct) dV := ⟨⟨oc, od, kV, doc, pm, an, cdv, ct, osl, rfl, l, c⟩, k⟩
theorem FunD.ok {x qual : Str} {st : Stmt} {f : Addr} {fd : FuncData} {dV : Value} {N ps : List Str} {k : Nat} {sp : Sp} (F : FunD K x qual st f fd dV) (S : FnScope N ps (defScope st)) (len : ∀ vs H Q E, sp vs H Q E → vs.length = ps.length)
    (hbody : ∀ (cdv : Value) (A : Around) (outer : List Env) (s : Shared) (H : Hp) (vs : List V) (Q : VK) (E : XK), Room k (A.deeper (envOfC qual (defScope st) s.heap.objs.size f cdv)) → sp vs H Q E →
      ∃ t, PSs (cxOf CX0 P w K mg base N qual (defScope st) f cdv A outer s H E).nox (defBody st) t ∧ t { nx := fun _ H' => Q .non H', rt := Q } (start N vs) H) : FnOk P w K mg base CX0 (k + 1) f fd ps sp := by
  obtain ⟨oc, od, kV, doc, pm, an, cdv, ct, osl, rfl, lk, hcd⟩ := F.ex
  refine fn_of lk hcd S len fun A outer s H vs Q E hr hsp => ?_
  obtain ⟨t, h, q⟩ := hbody cdv A outer s H vs Q E hr hsp
  exact ⟨t, h.nox, q⟩
theorem binds_dflt {fd : FuncData} {ps : List Str} {T : Addr} {o : Obj} {items : Array Value} {n : Nat} {ds : List Value} (hd : fd.defaults = .ref T) (ho : K.lookup T = some o) (hs : o.data = .seq items n)
    (h : ∀ us : List Value, (us ++ ds).length = ps.length → ∃ k : Option (Array Value) → Sem (List (Str × Value)), bindArgs fd ⟨us, []⟩ = seqItems? fd.defaults >>= k ∧ k (some items) = pure (ps.zip (us ++ ds))) : Binds K fd ps ds := fun s us X hl => by
  obtain ⟨k, h1, h2⟩ := h us hl
  exact PySem.W.binds_K X hd ho hs h1 h2
theorem FunD.okW0 {x qual : Str} {st : Stmt} {f : Addr} {fd : FuncData} {N ps : List Str} {k n : Nat} {sp : Sp} {gb : List (Str × GB)} {bl : List Str} {t : DS} {dV : Value} (F : FunD K x qual st f fd dV) (S : FnScope N ps (defScope st)) (hv : visOk N (defScope st) = true)
    (T : Tab P w K mg base k gb bl) (rd : wSs n (defG K N (defScope st) gb bl) (defBody st) = t) (len : ∀ vs H Q E, sp vs H Q E → vs.length = ps.length)
    (hbody : ∀ (vs : List V) (H : Hp) (Q : VK) (E : XK), sp vs H Q E → t (endsOf Q fun _ _ => False) (start N vs) H) : FnOk P w K mg base CX0 (k + 1) f fd ps sp := by
  refine F.ok S len fun cdv A outer s H vs Q E hr h => ?_
  have O : GOk (cxOf CX0 P w K mg base N qual (defScope st) f cdv A outer s H E).nox (defG K N (defScope st) gb bl) := by
    refine ⟨rfl, S.kind, PassesOwn.never, rfl, S.nd, fun x => rfl, fun x hx => ?_, fun _ _ => rfl, rfl, (fun _ => hr.hd), hr.units, fun x hx => ?_, fun x i e => ?_, fun x v u e => ?_, fun x hx => ?_, fun x C oi e => ?_, fun x C oi e => ?_, fun m l e mi hm => ?_, fun _ => ⟨rfl, rfl⟩⟩
    · have := List.all_eq_true.mp hv x hx
      rw [Bool.or_eq_true] at this
      exact this.elim (fun z => .inl (eq_of_beq z)) fun z => .inr (.inl (eq_of_beq z))
    · rcases hx with hx | hx
      · exact cell_has hx
      · exact absurd rfl (S.nofree _ (PySem.mem_of_lookup hx))
    · have FI := T.fn x i (PySem.mem_of_lookup e)
      exact ⟨FI.at_, FI.kp, FI.ok, hr.mono FI.le, FI.binds, FI.vals⟩
    · exact T.val x v u (PySem.mem_of_lookup e)
    · exact T.bl x (by have hx' : bl.contains x = true := hx; simpa using hx')
    · have EI := T.exc x C oi (PySem.mem_of_lookup e)
      refine ⟨EI.at_, EI.kp, EI.cls, ?_⟩
      cases oi with
      | none => exact EI.init
      | some i => obtain ⟨a, b, c, d, e, f, g⟩ := EI.init; exact ⟨a, b, ⟨c, d, hr.mono (by omega), f, g⟩, hr.mono e⟩
    · have CI := T.cls x C oi (PySem.mem_of_lookup e)
      refine ⟨CI.at_, CI.kp, ?_⟩
      cases oi with
      | none => exact CI.made
      | some i => obtain ⟨a, b, c, d, e⟩ := CI.made; exact ⟨a, b, c, ⟨d.kp, d.ok, hr.mono d.le, d.binds, d.vals⟩, hr.mono e⟩
    · obtain ⟨x, hx⟩ := findMet_mem e
      have MI := T.met x m l hx mi hm
      exact ⟨MI.cls, MI.at_, ⟨MI.fi.kp, MI.fi.ok, hr.mono MI.fi.le, MI.fi.binds, MI.fi.vals⟩⟩
  refine ⟨_, (ws_ok n _ _ O).2 (defBody st) (fun _ _ _ => False) (fun _ _ _ _ _ _ _ h => h.elim), ?_⟩
  rw [rd]
  exact hbody vs H Q E h
end
end L2
set_option maxRecDepth 100000
set_option maxHeartbeats 4000000
namespace L2
open PySem PySem.Spec PyProof.Rows
theorem Same.upd {H : Hp} {a : Addr} {o : HO} (h : H a = none) : Same H (upd H a o) := fun b u e => by rw [upd_ne (ne_of_none e h)]; exact e
theorem Same.set {H H' : Hp} {a : Addr} {o : HO} (s : Same H H') (h : H a = none) : Same H (L2.upd H' a o) := fun b u e => by rw [upd_ne (ne_of_none e h)]; exact s b u e
theorem Same.seqT {K : PySem.W.Frag} {H H' : Hp} {a : Addr} {xs : List V} (e : Same H H') (h : SqT K H a xs) : SqT K H' a xs := by
  rcases h with (h | ⟨o, h⟩) | h
  · exact .inl (.inl (e _ _ h))
  · exact .inl (.inr ⟨o, e _ _ h⟩)
  · exact .inr h
structure Yields (J : It) (its : List V) (ok : Hp → Prop) : Prop where
  go : ∀ i H, ok H → i < its.length → J.go i H
  stop : ∀ H, ok H → J.stop its.length H
  yld : ∀ i H x H', ok H → i < its.length → J.yld i H x H' → H' = H ∧ its[i]? = some x
structure Yields2 (J : It) (its : List (V × V)) (ok : Hp → Prop) : Prop where
  go : ∀ i H, ok H → i < its.length → J.go i H
  stop : ∀ H, ok H → J.stop its.length H
  yld : ∀ i H v H', ok H → i < its.length → J.yld i H v H' → ∃ T x y, H T = none ∧ v = .ref T ∧ its[i]? = some (x, y) ∧ H' = upd H T (.tup [x, y])
def signsV (z : Str) : List V := z.cps.toList.map fun c => V.str ⟨#[c]⟩
theorem yl_str (z : Str) : Yields (Its z) (signsV z) (fun _ => True) := by
  have e : (signsV z).length = z.cps.size := by unfold signsV; simp
  refine ⟨fun i H _ h => ?_, fun H _ => ?_, fun i H x H' _ _ h => ?_⟩
  · show i < z.cps.size; omega
  · show (signsV z).length = z.cps.size; exact e
  · obtain ⟨h1, c, h2, h3⟩ := h
    refine ⟨h1, ?_⟩
    unfold signsV
    rw [List.getElem?_map, Array.getElem?_toList, h2, h3]
    rfl
theorem yl_list {K : PySem.W.Frag} {a : Addr} (xs : List V) : Yields (Itl K a) xs (fun H => SqL K H a xs) := by
  refine ⟨fun i H q h => ⟨xs, xs[i], q, by simp [h]⟩, fun H q => ⟨xs, q, Nat.le_refl _⟩, fun i H x H' q _ h => ?_⟩
  obtain ⟨h1, h2⟩ := h
  exact ⟨h1, h2 xs q⟩
theorem yl_tup {K : PySem.W.Frag} {a : Addr} (xs : List V) : Yields (Itt K a) xs (fun H => SqT K H a xs) := by
  refine ⟨fun i H q h => ⟨xs, xs[i], q, by simp [h]⟩, fun H q => ⟨xs, q, Nat.le_refl _⟩, fun i H x H' q _ h => ?_⟩
  obtain ⟨h1, h2⟩ := h
  exact ⟨h1, h2 xs q⟩
def rngV (lo : Int) (n : Nat) : List V := (List.range n).map fun (i : Nat) => V.int (lo + (i : Int))
theorem rngV_len (lo : Int) (n : Nat) : (rngV lo n).length = n := by unfold rngV; simp
theorem rngV_get {lo : Int} {n i : Nat} (h : i < n) : (rngV lo n)[i]? = some (.int (lo + (i : Int))) := by unfold rngV; simp [h]
theorem yl_range (lo : Int) (n : Nat) : Yields (Itr lo n) (rngV lo n) (fun _ => True) := by
  refine ⟨fun i H _ h => ?_, fun H _ => ?_, fun i H x H' _ hi h => ?_⟩
  · rw [rngV_len] at h; exact h
  · show n ≤ (rngV lo n).length; rw [rngV_len]; exact Nat.le_refl _
  · obtain ⟨h1, h2⟩ := h
    rw [rngV_len] at hi
    exact ⟨h1, by rw [rngV_get hi, h2]⟩
def enumV : Nat → List V → List (V × V)
  | _, [] => []
  | k, x :: r => (.int k, x) :: enumV (k + 1) r
theorem enumV_len : ∀ (k : Nat) (xs : List V), (enumV k xs).length = xs.length
  | _, [] => rfl
  | k, _ :: r => by rw [enumV, List.length_cons, List.length_cons, enumV_len (k + 1) r]
theorem enumV_get : ∀ {k i : Nat} {xs : List V} {x : V}, xs[i]? = some x → (enumV k xs)[i]? = some (.int ((k + i : Nat) : Int), x)
  | _, _, [], _, h => by simp at h
  | k, 0, y :: r, x, h => by
    simp only [List.getElem?_cons_zero, Option.some.injEq] at h
    subst h
    rfl
  | k, i + 1, y :: r, x, h => by
    rw [List.getElem?_cons_succ] at h
    rw [enumV, List.getElem?_cons_succ, enumV_get h]
    congr 4
    omega
theorem yl_enum {K : PySem.W.Frag} {a : Addr} (xs : List V) : Yields2 (Ite K a) (enumV 0 xs) (fun H => SqL K H a xs) := by
  have e := enumV_len 0 xs
  refine ⟨fun i H q h => ⟨xs, xs[i]'(by omega), q, by simp⟩, fun H q => ⟨xs, q, by omega⟩, fun i H v H' q _ h => ?_⟩
  obtain ⟨T, x, hT, h1, h2, h4⟩ := h
  refine ⟨T, .int i, x, hT, h1, ?_, h4⟩
  have := enumV_get (k := 0) (h2 xs q)
  rw [Nat.zero_add] at this
  exact this
section
variable {J : It} {its : List V} {ok : Hp → Prop} {g : DG} {tb : DS} {D : Outs} {σ : St} {H : Hp}
theorem for_by (Y : Yields J its ok) (Pv : Nat → St → Hp → Prop) (h0 : Pv 0 σ H) (hok : ∀ i σ H, i ≤ its.length → Pv i σ H → ok H)
    (hs : ∀ i x σ H, its[i]? = some x → Pv i σ H → g x σ H fun σ2 H2 => tb { D with nx := Pv (i + 1), ct := Pv (i + 1), bk := D.nx } σ2 H2) (hd : ∀ σ H, Pv its.length σ H → D.nx σ H) : ForW J g tb D σ H := by
  refine ⟨fun i m σ H => m = its.length - i ∧ i ≤ its.length ∧ Pv i σ H, ⟨its.length, by simp, Nat.zero_le _, h0⟩, ?_⟩
  rintro i m σ H ⟨rfl, hi, p⟩
  by_cases hlt : i < its.length
  · refine .inr ⟨Y.go i H (hok i σ H hi p) hlt, Pv (i + 1), fun σ' H' p' => ⟨its.length - (i + 1), by omega, rfl, hlt, p'⟩, fun x H' y => ?_⟩
    obtain ⟨e, y2⟩ := Y.yld i H x H' (hok i σ H hi p) hlt y
    subst e
    exact hs i x σ _ y2 p
  · have e : i = its.length := by omega
    subst e
    exact .inl ⟨Y.stop H (hok _ σ H hi p), hd σ H p⟩
theorem for_by2 {its : List (V × V)} (Y : Yields2 J its ok) (Pv : Nat → St → Hp → Prop) (h0 : Pv 0 σ H) (hok : ∀ i σ H, i ≤ its.length → Pv i σ H → ok H)
    (hs : ∀ i x y T σ H, its[i]? = some (x, y) → H T = none → Pv i σ H → g (.ref T) σ (upd H T (.tup [x, y])) fun σ2 H2 => tb { D with nx := Pv (i + 1), ct := Pv (i + 1), bk := D.nx } σ2 H2) (hd : ∀ σ H, Pv its.length σ H → D.nx σ H) : ForW J g tb D σ H := by
  refine ⟨fun i m σ H => m = its.length - i ∧ i ≤ its.length ∧ Pv i σ H, ⟨its.length, by simp, Nat.zero_le _, h0⟩, ?_⟩
  rintro i m σ H ⟨rfl, hi, p⟩
  by_cases hlt : i < its.length
  · refine .inr ⟨Y.go i H (hok i σ H hi p) hlt, Pv (i + 1), fun σ' H' p' => ⟨its.length - (i + 1), by omega, rfl, hlt, p'⟩, fun x H' y => ?_⟩
    obtain ⟨T, u, v, hT, e1, e2, e3⟩ := Y.yld i H x H' (hok i σ H hi p) hlt y
    subst e1 e3
    exact hs i u v T σ _ e2 hT p
  · have e : i = its.length := by omega
    subst e
    exact .inl ⟨Y.stop H (hok _ σ H hi p), hd σ H p⟩
variable {tc : DT} {te : DE} {L : Addr} {R : Hp → Prop}
theorem cmp_by (Y : Yields J its ok) (Pv : Nat → St → Hp → Prop) (h0 : Pv 0 σ H) (hok : ∀ i σ H, i ≤ its.length → Pv i σ H → ok H)
    (hs : ∀ i x σ H, its[i]? = some x → Pv i σ H → g x σ H fun σ3 H3 => tc σ3 H3 (fun b H4 => if b = true then te σ3 H4 (fun v H5 => ∃ ys, H5 L = some (.lst ys) ∧ ys.length < sizeLine ∧ Pv (i + 1) σ3 (upd H5 L (.lst (ys ++ [v])))) (fun _ _ => False) else Pv (i + 1) σ3 H4) (fun _ _ => False))
    (hd : ∀ σ H, Pv its.length σ H → R H) : CmpW J g tc te L R σ H := by
  refine ⟨fun i m σ H => m = its.length - i ∧ i ≤ its.length ∧ Pv i σ H, ⟨its.length, by simp, Nat.zero_le _, h0⟩, ?_⟩
  rintro i m σ H ⟨rfl, hi, p⟩
  by_cases hlt : i < its.length
  · refine .inr ⟨Y.go i H (hok i σ H hi p) hlt, Pv (i + 1), fun σ' H' p' => ⟨its.length - (i + 1), by omega, rfl, hlt, p'⟩, fun x H' y => ?_⟩
    obtain ⟨e, y2⟩ := Y.yld i H x H' (hok i σ H hi p) hlt y
    subst e
    exact hs i x σ _ y2 p
  · have e : i = its.length := by omega
    subst e
    exact .inl ⟨Y.stop H (hok _ σ H hi p), hd σ H p⟩
theorem cmp_by2 {its : List (V × V)} (Y : Yields2 J its ok) (Pv : Nat → St → Hp → Prop) (h0 : Pv 0 σ H) (hok : ∀ i σ H, i ≤ its.length → Pv i σ H → ok H)
    (hs : ∀ i x y T σ H, its[i]? = some (x, y) → H T = none → Pv i σ H → g (.ref T) σ (upd H T (.tup [x, y])) fun σ3 H3 => tc σ3 H3 (fun b H4 => if b = true then te σ3 H4 (fun v H5 => ∃ ys, H5 L = some (.lst ys) ∧ ys.length < sizeLine ∧ Pv (i + 1) σ3 (upd H5 L (.lst (ys ++ [v])))) (fun _ _ => False) else Pv (i + 1) σ3 H4) (fun _ _ => False))
    (hd : ∀ σ H, Pv its.length σ H → R H) : CmpW J g tc te L R σ H := by
  refine ⟨fun i m σ H => m = its.length - i ∧ i ≤ its.length ∧ Pv i σ H, ⟨its.length, by simp, Nat.zero_le _, h0⟩, ?_⟩
  rintro i m σ H ⟨rfl, hi, p⟩
  by_cases hlt : i < its.length
  · refine .inr ⟨Y.go i H (hok i σ H hi p) hlt, Pv (i + 1), fun σ' H' p' => ⟨its.length - (i + 1), by omega, rfl, hlt, p'⟩, fun x H' y => ?_⟩
    obtain ⟨T, u, v, hT, e1, e2, e3⟩ := Y.yld i H x H' (hok i σ H hi p) hlt y
    subst e1 e3
    exact hs i u v T σ _ e2 hT p
  · have e : i = its.length := by omega
    subst e
    exact .inl ⟨Y.stop H (hok _ σ H hi p), hd σ H p⟩
theorem take_filter_map {α β : Type} {its : List α} {i : Nat} {x : α} (h : its[i]? = some x) (p : α → Bool) (f : α → β) : ((its.take (i + 1)).filter p).map f = ((its.take i).filter p).map f ++ (if p x = true then [f x] else []) := by
  rw [List.take_add_one, h]
  simp only [Option.toList_some, List.filter_append, List.map_append]
  congr 1
  cases e : p x <;> simp [e]
theorem cmp_map (Y : Yields J its ok) (Sg : St → Prop) (p : V → Bool) (f : V → V) (h0 : H L = none) (hok : ∀ H1, Same H H1 → ok H1) (hn : its.length < sizeLine) (hσ : Sg σ)
    (hs : ∀ x σ H1, x ∈ its → Sg σ → Same H H1 → ∀ (Fin : V → St → Hp → Prop) (Skip : St → Hp → Prop), (∀ v σ3 H5, Sg σ3 → Same H1 H5 → p x = true → v = f x → Fin v σ3 H5) → (∀ σ3 H4, Sg σ3 → Same H1 H4 → p x = false → Skip σ3 H4) →
      g x σ H1 fun σ3 H3 => tc σ3 H3 (fun b H4 => if b = true then te σ3 H4 (fun v H5 => Fin v σ3 H5) (fun _ _ => False) else Skip σ3 H4) (fun _ _ => False))
    (hd : ∀ H', Same H H' → H' L = some (.lst ((its.filter p).map f)) → R H') : CmpW J g tc te L R σ (upd H L (.lst [])) := by
  refine cmp_by Y (fun i σ' H' => Sg σ' ∧ Same H H' ∧ H' L = some (.lst (((its.take i).filter p).map f))) ⟨hσ, Same.upd h0, upd_same⟩ (fun i σ' H' _ q => hok H' q.2.1) ?_ ?_
  · rintro i x σ' H' hx ⟨q1, q2, q3⟩
    have hi : i < its.length := (List.getElem?_eq_some_iff.mp hx).1
    refine hs x σ' H' (List.mem_of_getElem? hx) q1 q2 (fun v σ3 H5 => ∃ ys, H5 L = some (.lst ys) ∧ ys.length < sizeLine ∧ Sg σ3 ∧ Same H (upd H5 L (.lst (ys ++ [v]))) ∧ upd H5 L (.lst (ys ++ [v])) L = some (.lst (((its.take (i + 1)).filter p).map f)))
      (fun σ3 H4 => Sg σ3 ∧ Same H H4 ∧ H4 L = some (.lst (((its.take (i + 1)).filter p).map f))) (fun v σ3 H5 s1 s2 hp hv => ?_) (fun σ3 H4 s1 s2 hp => ?_)
    · refine ⟨_, s2 _ _ q3, ?_, s1, (q2.trans s2).set h0, ?_⟩
      · rw [List.length_map]
        have h1 := List.length_filter_le p (its.take i)
        have h2 : (its.take i).length ≤ i := by rw [List.length_take]; omega
        omega
      · rw [upd_same, take_filter_map hx, if_pos hp, hv]
    · refine ⟨s1, q2.trans s2, ?_⟩
      rw [s2 _ _ q3, take_filter_map hx, if_neg (by rw [hp]; exact Bool.false_ne_true), List.append_nil]
  · rintro σ' H' ⟨_, q2, q3⟩
    rw [List.take_length] at q3
    exact hd H' q2 q3
end
end L2
set_option maxRecDepth 100000
set_option maxHeartbeats 4000000
namespace L2
open PySem PySem.Spec PyProof.Rows
section
variable {K : PySem.W.Frag} {H H' : Hp}
theorem Same.seqL {a : Addr} {xs : List V} (e : Same H H') (h : SqL K H a xs) : SqL K H' a xs := by
  rcases h with (h | ⟨o, h⟩) | h
  · exact .inl (.inl (e _ _ h))
  · exact .inl (.inr ⟨o, e _ _ h⟩)
  · exact .inr h
theorem atL_nil : AtL K H [] [] := by unfold AtL; rfl
theorem atL_cons {d : Dt} {ds : List Dt} {x : V} {xs : List V} (h : At K H d x) (t : AtL K H ds xs) : AtL K H (d :: ds) (x :: xs) := by unfold AtL; exact ⟨x, xs, rfl, h, t⟩
def strD (z : Str) : Dt := .at_ (.str z)
theorem at_strD {z : Str} : At K H (strD z) (.str z) := by unfold strD At; exact ⟨rfl, rfl⟩
theorem atL_strs : ∀ {r : List Str}, AtL K H (r.map strD) (r.map V.str)
  | [] => atL_nil
  | _ :: _ => atL_cons at_strD atL_strs
theorem at_tupS {a : Addr} {r : List Str} (h : SqT K H a (r.map V.str)) : At K H (.tup (r.map strD)) (.ref a) := by unfold At; exact ⟨a, _, rfl, h, atL_strs⟩
theorem at_tup {a : Addr} {ds : List Dt} {xs : List V} (h : SqT K H a xs) (g : AtL K H ds xs) : At K H (.tup ds) (.ref a) := by unfold At; exact ⟨a, xs, rfl, h, g⟩
theorem at_lst {a : Addr} {ds : List Dt} {xs : List V} (h : SqL K H a xs) (g : AtL K H ds xs) : At K H (.lst ds) (.ref a) := by unfold At; exact ⟨a, xs, rfl, h, g⟩
end
theorem deq_strD (a b : Str) : deq (strD a) (strD b) = decide (a = b) := by
  unfold strD deq
  show (a == b) = _
  rw [Bool.beq_eq_decide_eq]
theorem deqs_map {α : Type} [DecidableEq α] {f : α → Dt} (h : ∀ a b, deq (f a) (f b) = decide (a = b)) : ∀ (l l' : List α), deqs (l.map f) (l'.map f) = decide (l = l')
  | [], [] => by unfold List.map deqs; rfl
  | [], _ :: _ => by unfold List.map deqs; rfl
  | _ :: _, [] => by unfold List.map deqs; rfl
  | a :: l, b :: l' => by
    rw [List.map_cons, List.map_cons]
    unfold deqs
    rw [h, deqs_map h l l', Bool.eq_iff_iff, Bool.and_eq_true, decide_eq_true_iff, decide_eq_true_iff, decide_eq_true_iff, List.cons.injEq]
theorem deps_map {α : Type} {f : α → Dt} {n : Nat} (h : ∀ a, dep (f a) ≤ n) : ∀ (l : List α), deps (l.map f) ≤ n
  | [] => by unfold List.map deps; exact Nat.zero_le _
  | a :: l => by
    rw [List.map_cons]
    unfold deps
    exact Nat.max_le.mpr ⟨h a, deps_map h l⟩
theorem dep_strD (z : Str) : dep (strD z) ≤ 0 := by unfold strD dep; exact Nat.le_refl _
section
variable {K : PySem.W.Frag} {H H' : Hp}
theorem all_true {J : It} {its : List V} {ok : Hp → Prop} {te : DE} {σ : St} {D : Addr} {R : Hp → Prop} (Y : Yields J its ok) (Sg : St → Prop) (hD : H D = none) (hok : ∀ H1, Same H H1 → ok H1) (hn : its.length < sizeLine) (hσ : Sg σ) (hS : ∀ σ x, Sg σ → Sg (σ.set 0 (some x)))
    (he : ∀ x σ H1 Q1, x ∈ its → Sg σ → Same H H1 → (∀ H2, Same H1 H2 → Q1 (.bl true) H2) → te (σ.set 0 (some x)) H1 Q1 (fun _ _ => False)) (k : ∀ H', Same H H' → SqL K H' D ((its.map fun _ => true).map V.bl) → R H') :
    CmpW J (gdN 0) dYes te D R σ (upd H D (.lst [])) := by
  refine cmp_map Y Sg (fun _ => true) (fun _ => .bl true) hD hok hn hσ ?_ ?_
  · intro x σ H1 hx hs S Fin Skip hF hK
    exact he x σ H1 _ hx hs S fun H2 S2 => hF _ _ _ (hS _ _ hs) S2 rfl rfl
  · intro H' S hD'
    exact k H' S (SqL.of (hD'.trans (by rw [List.filter_eq_self.mpr (fun _ _ => rfl), List.map_map]; rfl)))
theorem all_yes (its : List V) : ((its.map fun _ => true).all fun b => b) = true := by rw [List.all_map, List.all_eq_true]; exact fun _ _ => rfl
end
end L2
set_option maxRecDepth 100000
set_option maxHeartbeats 4000000
namespace L2
open PySem PySem.Spec PySem.W
structure XC (K : PySem.W.Frag) (C : Addr) (bm : List Value) : Prop where
  lk : ∃ nm q N bs sn sub ab col dd k0 k1 k2 k3 k5, K.lookup C = some (excClassObj nm q C N bs bm true sn sub ab col dd k0 k1 k2 k3 k5 "ValueError.__new__")
  ty : typeIn K (.ref C) = some (.type "type")
  sa : findIn K (.ref C) "__setattr__" = some (some (.builtin "object.__setattr__"))
  ga : findIn K (.ref C) "__getattribute__" = some (some (.builtin "BaseException.__getattribute__"))
  gt : findIn K (.ref C) "__getattr__" = some none
  ca : findIn K (.ref C) "__class__" = some (some (.builtin "object.__class__"))
  hn : specialIn K (.builtin "object.__class__") "__get__" = some (some (.builtin "getset_descriptor.__get__"))
  htk : takesIn K (.builtin "object.__class__") = some true
theorem xc_mk {K : PySem.W.Frag} {C N : Addr} {bm bs : List Value} {nm q : Str} {sn : List Str} {sub : List Value} {ab : Bool} {col : Option Bool} {dd : Option Addr} {k0 k1 k2 k3 k5 : Option Value}
    (lk : K.lookup C = some (excClassObj nm q C N bs bm true sn sub ab col dd k0 k1 k2 k3 k5 "ValueError.__new__")) (ty : typeIn K (.ref C) = some (.type "type")) (sa : findIn K (.ref C) "__setattr__" = some (some (.builtin "object.__setattr__")))
    (ga : findIn K (.ref C) "__getattribute__" = some (some (.builtin "BaseException.__getattribute__"))) (gt : findIn K (.ref C) "__getattr__" = some none) (ca : findIn K (.ref C) "__class__" = some (some (.builtin "object.__class__")))
    (hn : specialIn K (.builtin "object.__class__") "__get__" = some (some (.builtin "getset_descriptor.__get__"))) (htk : takesIn K (.builtin "object.__class__") = some true) : XC K C bm := ⟨⟨_, _, _, _, _, _, _, _, _, _, _, _, _, _, lk⟩, ty, sa, ga, gt, ca, hn, htk⟩
theorem XC.ecls {K : PySem.W.Frag} {C : Addr} {bm : List Value} (x : XC K C bm) (h : excTail bm = true) : ECls K C := by
  obtain ⟨nm, q, N, bs, sn, sub, ab, col, dd, k0, k1, k2, k3, k5, lk⟩ := x.lk
  exact ⟨⟨_, _, _, _, bm, true, _, _, _, _, _, _, _, _, _, _, lk, h, rfl⟩, x.sa, x.ga, x.gt, x.ca, x.hn, x.htk⟩
theorem binds_dfltN {K : PySem.W.Frag} {fd : FuncData} {ps : List Str} {T : Addr} {o : Obj} {items : Array Value} {n : Nat} {ds : List Value} (m : Nat) (hd : fd.defaults = .ref T) (ho : K.lookup T = some o) (hs : o.data = .seq items n) (hm : m + ds.length = ps.length)
    (h : ∀ us : List Value, us.length = m → ∃ k : Option (Array Value) → Sem (List (Str × Value)), bindArgs fd ⟨us, []⟩ = seqItems? fd.defaults >>= k ∧ k (some items) = pure (ps.zip (us ++ ds))) : Binds K fd ps ds :=
  binds_dflt hd ho hs fun us hl => h us (by rw [List.length_append] at hl; omega)
end L2
set_option maxRecDepth 100000
set_option maxHeartbeats 4000000
namespace L2
open PySem PySem.Spec PyProof.Rows
open Sem (wp)
section
variable {X : Cx} {pins : List (Addr × Obj)} {σ : St} {H : Hp} {s : Shared} {a C : Addr} {dx : Option Addr} {h' : Heap}
theorem pass_CXE (X : Cx) : PassX (CXE X.prog X.w) X := by
  intro Ex m pins σ H s e s' I h
  obtain ⟨a, H', rfl, os, bare, u, hok, F, a', e', hE⟩ := h
  cases e'
  have I' := I.call' os u hok bare (fun b z => absurd z (by simp))
  obtain ⟨C, dx, vs, T, oT, ts, h1, h2, h3, h4, h5, h6, h7, h8, h9, h10⟩ := F
  exact m pins σ H' s' a I' ⟨C, dx, vs, h1, h2, h3, .inr ⟨T, oT, ts, h4, h5, h6, h7, h8, I.fpOk h9 h10⟩⟩ hE
end
section
variable {P : Program} {w : World} {K : PySem.W.Frag} {mg : Str → Option Value} {base : Heap}
theorem meets_CXE {N : List Str} {qual : Str} {scope : Scope} {f : Addr} {cdv : Value} {A : Around} {outer : List Env} {s : Shared} {H : Hp} {E : XK} :
    Meets (cxOf (CXE P w) P w K mg base N qual scope f cdv A outer s H E) (fun _ a H' => E (.ref a) none H') := by
  intro pins σ H1 s1 a I F hE
  obtain ⟨C, dx, vs, h1, h2, h3, h4⟩ := F
  have hc : Calm s1.heap a vs := by
    rcases h4 with h4 | ⟨T, oT, ts, q1, q2, q3, q4, q5, _⟩
    · exact .inl h4
    · exact .inr ⟨T, oT, ts, q1, q2, q3, q4, q5⟩
  refine leave_x (L := s.heap.objs.size) (base := base) I.ok.frames I.stack rfl h2 h3 hc fun h' L => ?_
  have u := left_un (X := cxOf (CXE P w) P w K mg base N qual scope f cdv A outer s H E) I h1 L
  have k := left_ok (X := cxOf (CXE P w) P w K mg base N qual scope f cdv A outer s H E) I h1 L
  have I' := I.call (h' := h') (g' := s1.gens) (t' := s1.toks) (d' := s1.drawn) (ch := []) u k I.bare (fun b z => absurd z (by simp))
  obtain ⟨vs', T, oT, ts', a1, a2, a3, a4, a5, a6, a7, a8⟩ := L.exc
  exact ⟨a, H1, rfl, I.os, I.bare, I'.base, k, ⟨C, dx, vs', T, oT, ts', h1, a1, a2, a3, a5, a6, a7, a8, Nat.le_trans I.sz a4, I.hok.fresh a4⟩, hE⟩
def endsX (Q : VK) (E : XK) : Outs := ⟨fun _ H' => Q .non H', Q, fun _ _ => False, fun _ _ => False, fun _ a H' => E (.ref a) none H'⟩
theorem FunD.okWX {x qual : Str} {st : Stmt} {f : Addr} {fd : FuncData} {N ps : List Str} {k n : Nat} {sp : Sp} {gb : List (Str × GB)} {bl : List Str} {t : DS} {dV : Value} (F : FunD K x qual st f fd dV) (S : FnScope N ps (defScope st)) (hv : visOk N (defScope st) = true)
    (T : Tab P w K mg base k gb bl) (rd : wSs n (defG K N (defScope st) gb bl) (defBody st) = t) (len : ∀ vs H Q E, sp vs H Q E → vs.length = ps.length)
    (hbody : ∀ (vs : List V) (H : Hp) (Q : VK) (E : XK), sp vs H Q E → t (endsX Q E) (start N vs) H) : FnOk P w K mg base (CXE P w) (k + 1) f fd ps sp := by
  obtain ⟨oc, od, kV, doc, pm, an, cdv, ct, osl, rfl, lk, hcd⟩ := F.ex
  refine fn_of lk hcd S len fun A outer s H vs Q E hr h => ?_
  have O : GOk (cxOf (CXE P w) P w K mg base N qual (defScope st) f cdv A outer s H E) (defG K N (defScope st) gb bl) := by
    refine ⟨rfl, S.kind, PassesOwn.leaving, rfl, S.nd, fun x => rfl, fun x hx => ?_, fun _ _ => rfl, rfl, (fun _ => hr.hd), hr.units, fun x hx => ?_, fun x i e => ?_, fun x v u e => ?_, fun x hx => ?_, fun x C oi e => ?_, fun x C oi e => ?_, fun m l e mi hm => ?_, fun _ => ⟨rfl, rfl⟩⟩
    · have := List.all_eq_true.mp hv x hx
      rw [Bool.or_eq_true] at this
      exact this.elim (fun z => .inl (eq_of_beq z)) fun z => .inr (.inl (eq_of_beq z))
    · rcases hx with hx | hx
      · exact cell_has hx
      · exact absurd rfl (S.nofree _ (PySem.mem_of_lookup hx))
    · have FI := T.fn x i (PySem.mem_of_lookup e)
      exact ⟨FI.at_, FI.kp, FI.ok, hr.mono FI.le, FI.binds, FI.vals⟩
    · exact T.val x v u (PySem.mem_of_lookup e)
    · exact T.bl x (by have hx' : bl.contains x = true := hx; simpa using hx')
    · have EI := T.exc x C oi (PySem.mem_of_lookup e)
      refine ⟨EI.at_, EI.kp, EI.cls, ?_⟩
      cases oi with
      | none => exact EI.init
      | some i => obtain ⟨a, b, c, d, e, f, g⟩ := EI.init; exact ⟨a, b, ⟨c, d, hr.mono (by omega), f, g⟩, hr.mono e⟩
    · have CI := T.cls x C oi (PySem.mem_of_lookup e)
      refine ⟨CI.at_, CI.kp, ?_⟩
      cases oi with
      | none => exact CI.made
      | some i => obtain ⟨a, b, c, d, e⟩ := CI.made; exact ⟨a, b, c, ⟨d.kp, d.ok, hr.mono d.le, d.binds, d.vals⟩, hr.mono e⟩
    · obtain ⟨x, hx⟩ := findMet_mem e
      have MI := T.met x m l hx mi hm
      exact ⟨MI.cls, MI.at_, ⟨MI.fi.kp, MI.fi.ok, hr.mono MI.fi.le, MI.fi.binds, MI.fi.vals⟩⟩
  refine ⟨_, (ws_ok n _ _ O).2 (defBody st) (fun _ a H' => E (.ref a) none H') meets_CXE, ?_⟩
  rw [rd]
  exact hbody vs H Q E h
end
end L2
set_option maxRecDepth 100000
set_option maxHeartbeats 4000000
namespace Pn
open PySem L2
abbrev Sw := List (Str × List Str)
def letterC (c : Nat) : Bool := decide (97 ≤ c) && decide (c ≤ 122)
def okW (z : Str) : Prop := 1 ≤ z.length ∧ z.length ≤ 8 ∧ z.cps.toList.all letterC = true
def okL (l : List Str) : Prop := (∀ z ∈ l, okW z) ∧ l.Nodup ∧ l.length ≤ 8
def okSet (l : List Str) : Prop := okL l ∧ 2 ≤ l.length ∧ l.length ≤ 4
def prodS (sw : Sw) : Nat := sw.foldl (fun n x => n * x.2.length) 1
def okSw (sw : Sw) : Prop := 1 ≤ sw.length ∧ sw.length ≤ 5 ∧ (sw.map (·.1)).Nodup ∧ (∀ x ∈ sw, okW x.1 ∧ okSet x.2) ∧ prodS sw ≤ 256
def stepR (acc : List (List Str)) (x : Str × List Str) : List (List Str) := acc.flatMap fun a => x.2.map fun z => a ++ [z]
def rowsS (sw : Sw) : List (List Str) := sw.foldl stepR [[]]
def setM (ns : List Nat) : Int := ns.foldl (fun (c : Int) n => Builtin.bitOr c (2 ^ n)) 0
def unionM (ms : List Int) : Int := ms.foldl (fun c m => Builtin.bitOr c m) 0
def havM (p : Nat) (z : Str) : Nat → List (List Str) → List Nat
  | _, [] => []
  | k, r :: rs => if r[p]? = some z then k :: havM p z (k + 1) rs else havM p z (k + 1) rs
def maskM (rows : List (List Str)) (p : Nat) (z : Str) : Int := setM (havM p z 0 rows)
def placeM (sw : Sw) (w : Str) : Nat := sw.findIdx fun x => decide (x.1 = w)
def termM (sw : Sw) (e : Str × List Str) : Int := unionM (e.2.map (maskM (rowsS sw) (placeM sw e.1)))
def allM (sw : Sw) : Int := 2 ^ (rowsS sw).length - 1
def boxM (sw : Sw) (rule : Sw) : Int := rule.foldl (fun c e => Builtin.bitAnd c (termM sw e)) (allM sw)
def barsM (sw : Sw) (rules : List Sw) : List Int := rules.map (boxM sw)
def freeM (sw : Sw) (rules : List Sw) : Int := Builtin.bitAnd (allM sw) (Builtin.bitNot (unionM (barsM sw rules)))
def okTerm (sw : Sw) (e : Str × List Str) : Prop := e.2 ≠ [] ∧ okL e.2 ∧ ∃ x ∈ sw, x.1 = e.1 ∧ ∀ z ∈ e.2, z ∈ x.2
def okRule (sw : Sw) (rule : Sw) : Prop := rule ≠ [] ∧ rule.length ≤ 100 ∧ (rule.map (·.1)).Nodup ∧ ∀ e ∈ rule, okTerm sw e
theorem stepR_len (acc : List (List Str)) (x : Str × List Str) : (stepR acc x).length = acc.length * x.2.length := by
  unfold stepR
  induction acc with
  | nil => simp
  | cons a acc ih => rw [List.flatMap_cons, List.length_append, ih, List.length_map, List.length_cons, Nat.add_mul, Nat.one_mul, Nat.add_comm]
theorem rows_len_acc : ∀ (sw : Sw) (acc : List (List Str)), (sw.foldl stepR acc).length = sw.foldl (fun n x => n * x.2.length) acc.length
  | [], _ => rfl
  | x :: sw, acc => by rw [List.foldl_cons, List.foldl_cons, rows_len_acc sw, stepR_len]
theorem rows_len (sw : Sw) : (rowsS sw).length = prodS sw := rows_len_acc sw [[]]
def okRows (k : Nat) (rs : List (List Str)) : Prop := rs.Nodup ∧ (∀ r ∈ rs, r.length = k) ∧ ∀ r ∈ rs, ∀ z ∈ r, okW z
theorem stepR_ok {k : Nat} {acc : List (List Str)} {x : Str × List Str} (h : okRows k acc) (hx : okSet x.2) : okRows (k + 1) (stepR acc x) := by
  obtain ⟨h1, h2, h3⟩ := h
  refine ⟨?_, ?_, ?_⟩
  · unfold stepR
    clear h3
    induction acc with
    | nil => exact List.nodup_nil
    | cons a acc ih =>
      rw [List.flatMap_cons, List.nodup_append]
      rw [List.nodup_cons] at h1
      refine ⟨?_, ih h1.2 (fun r hr => h2 r (List.mem_cons_of_mem _ hr)), ?_⟩
      · refine List.Pairwise.map _ ?_ hx.1.2.1
        intro y z ne e
        exact ne (by simpa using e)
      · intro r hr q hq e
        subst e
        obtain ⟨y, hy, rfl⟩ := List.mem_map.mp hr
        obtain ⟨b, hb, hq⟩ := List.mem_flatMap.mp hq
        obtain ⟨z, hz, e⟩ := List.mem_map.mp hq
        have : b = a ∧ z = y := by simpa using e
        rw [this.1] at hb
        exact h1.1 hb
  · intro r hr
    obtain ⟨b, hb, hq⟩ := List.mem_flatMap.mp hr
    obtain ⟨z, hz, rfl⟩ := List.mem_map.mp hq
    rw [List.length_append, h2 b hb]
    rfl
  · intro r hr y hy
    obtain ⟨b, hb, hq⟩ := List.mem_flatMap.mp hr
    obtain ⟨z, hz, rfl⟩ := List.mem_map.mp hq
    rcases List.mem_append.mp hy with hy | hy
    · exact h3 b hb y hy
    · have : y = z := by simpa using hy
      subst this
      exact hx.1.1 _ hz
theorem rows_ok_acc : ∀ {sw : Sw} {k : Nat} {acc : List (List Str)}, okRows k acc → (∀ x ∈ sw, okSet x.2) → okRows (k + sw.length) (sw.foldl stepR acc)
  | [], _, _, h, _ => h
  | x :: sw, k, acc, h, hs => by
    have := rows_ok_acc (stepR_ok h (hs x (List.mem_cons_self))) (fun y hy => hs y (List.mem_cons_of_mem _ hy))
    rw [List.foldl_cons, List.length_cons, show k + (sw.length + 1) = k + 1 + sw.length by omega]
    exact this
theorem rows_ok {sw : Sw} (h : ∀ x ∈ sw, okSet x.2) : okRows sw.length (rowsS sw) := by
  have := rows_ok_acc (sw := sw) (k := 0) (acc := [[]]) ⟨by simp, by simp, by simp⟩ h
  rwa [Nat.zero_add] at this
theorem prodS_pos_acc : ∀ {sw : Sw} {n : Nat}, 1 ≤ n → (∀ x ∈ sw, okSet x.2) → n ≤ sw.foldl (fun n x => n * x.2.length) n
  | [], n, _, _ => Nat.le_refl _
  | x :: sw, n, h, hs => by
    rw [List.foldl_cons]
    have h2 : 2 ≤ x.2.length := (hs x List.mem_cons_self).2.1
    have : n ≤ n * x.2.length := Nat.le_mul_of_pos_right _ (by omega)
    exact Nat.le_trans this (prodS_pos_acc (by omega) (fun y hy => hs y (List.mem_cons_of_mem _ hy)))
theorem okSw.sets {sw : Sw} (h : okSw sw) : ∀ x ∈ sw, okSet x.2 := fun x hx => (h.2.2.2.1 x hx).2
theorem okSw.len {sw : Sw} (h : okSw sw) : (rowsS sw).length ≤ 256 := by rw [rows_len]; exact h.2.2.2.2
theorem okSw.pos {sw : Sw} (h : okSw sw) : 1 ≤ (rowsS sw).length := by rw [rows_len]; exact prodS_pos_acc (Nat.le_refl 1) h.sets
theorem prod_take {sw : Sw} (h : okSw sw) (i : Nat) : prodS (sw.take i) ≤ prodS sw := by
  conv => rhs; rw [← List.take_append_drop i sw]
  unfold prodS
  rw [List.foldl_append]
  exact prodS_pos_acc (prodS_pos_acc (Nat.le_refl 1) fun x hx => h.sets x (List.mem_of_mem_take hx)) fun x hx => h.sets x (List.mem_of_mem_drop hx)
theorem foldl_take {α β : Type} {l : List α} {i : Nat} {x : α} (h : l[i]? = some x) (f : β → α → β) (b : β) : (l.take (i + 1)).foldl f b = f ((l.take i).foldl f b) x := by
  rw [List.take_add_one, h, Option.toList_some, List.foldl_append]
  rfl
theorem map_take_get {α β : Type} {l : List α} {i : Nat} {x : α} (h : l[i]? = some x) (f : α → β) : (l.take (i + 1)).map f = (l.take i).map f ++ [f x] := by
  rw [List.take_add_one, h, Option.toList_some, List.map_append]
  rfl
abbrev Own (ok : Addr → Prop) (H : Hp) (a : Addr) (o : HO) : Prop := ok a ∧ H a = some o
abbrev Kp (ok : Addr → Prop) (H : Hp) (ok' : Addr → Prop) (H' : Hp) : Prop := ∀ a o, Own ok H a o → Own ok' H' a o
abbrev fresh (H : Hp) : Addr → Prop := fun a => H a = none
abbrev any : Addr → Prop := fun _ => True
theorem Kp.same {ok : Addr → Prop} {H H' : Hp} (S : Same H H') : Kp ok H ok H' := fun a o h => ⟨h.1, S _ _ h.2⟩
theorem Kp.any {ok : Addr → Prop} {H : Hp} : Kp ok H Pn.any H := fun a o h => ⟨trivial, h.2⟩
theorem Kp.weak {ok ok' : Addr → Prop} {H : Hp} (h : ∀ a, ok a → ok' a) : Kp ok H ok' H := fun a o q => ⟨h a q.1, q.2⟩
theorem Kp.trans {ok1 ok2 ok3 : Addr → Prop} {H1 H2 H3 : Hp} (h : Kp ok1 H1 ok2 H2) (g : Kp ok2 H2 ok3 H3) : Kp ok1 H1 ok3 H3 := fun a o q => g a o (h a o q)
theorem same_none {H H' : Hp} (S : Same H H') {a : Addr} (h : H' a = none) : H a = none := by
  cases e : H a with
  | none => rfl
  | some o => rw [S _ _ e] at h; cases h
theorem Kp.fresh {H1 H2 H : Hp} (S : Same H1 H2) : Kp (fresh H2) H (Pn.fresh H1) H := Kp.weak fun a h => same_none S h
theorem Kp.off {ok : Addr → Prop} {H : Hp} {p : Addr} {o : HO} (h : ¬ ok p) : Kp ok H ok (upd H p o) := fun a u q => ⟨q.1, by
  have n : a ≠ p := fun e => h (by rw [← e]; exact q.1)
  rw [upd_ne n]; exact q.2⟩
abbrev kR (x : (Str × List Str) × Addr) : Key × V := (.inr x.1.1, .ref x.2)
abbrev tupO (r : List Str) : HO := .tup (r.map V.str)
abbrev lstO (r : List Str) : HO := .lst (r.map V.str)
def SwAt (ok : Addr → Prop) (H : Hp) (d : Addr) (sw : Sw) : Prop := ∃ ds : List ((Str × List Str) × Addr), ds.map (·.1) = sw ∧ Own ok H d (.dK (ds.map kR)) ∧ ∀ x ∈ ds, Own ok H x.2 (tupO x.1.2)
def RuleAt (ok : Addr → Prop) (H : Hp) (d : Addr) (sw : Sw) : Prop := ∃ ds : List ((Str × List Str) × Addr), ds.map (·.1) = sw ∧ Own ok H d (.dK (ds.map kR)) ∧ ∀ x ∈ ds, Own ok H x.2 (lstO x.1.2)
def TupsAt (ok : Addr → Prop) (H : Hp) (l : Addr) (rows : List (List Str)) : Prop := ∃ ds : List (List Str × Addr), ds.map (·.1) = rows ∧ Own ok H l (.lst (ds.map fun x => .ref x.2)) ∧ ∀ x ∈ ds, Own ok H x.2 (tupO x.1)
def RowsAt (ok : Addr → Prop) (H : Hp) (l : Addr) (rows : List (List Str)) : Prop := ∃ ds : List (List Str × Addr), ds.map (·.1) = rows ∧ Own ok H l (.lst (ds.map fun x => .ref x.2)) ∧ ∀ x ∈ ds, Own ok H x.2 (lstO x.1)
def SwIn (ok : Addr → Prop) (H : Hp) (l : Addr) (sw : Sw) : Prop := ∃ ds : List (((Str × List Str) × Addr) × Addr), ds.map (·.1.1) = sw ∧ Own ok H l (.lst (ds.map fun x => .ref x.2)) ∧ ∀ x ∈ ds, Own ok H x.2 (.tup [.str x.1.1.1, .ref x.1.2]) ∧ Own ok H x.1.2 (lstO x.1.1.2)
def numK (k : Nat) : List (List Str) → List (List Key × V)
  | [] => []
  | r :: rs => (r.map .inr, .int (k : Int)) :: numK (k + 1) rs
def NumAt (ok : Addr → Prop) (H : Hp) (n : Addr) (rows : List (List Str)) : Prop := Own ok H n (.dT (numK 0 rows))
def setO (rows : List (List Str)) (i : Nat) (l : List Str) : HO := .dK (l.map fun z => (.inr z, .int (maskM rows i z)))
def SetsAt (ok : Addr → Prop) (H : Hp) (d : Addr) (sw : Sw) : Prop := ∃ ds : List ((Str × List Str) × Addr), ds.map (·.1) = sw ∧ Own ok H d (.dK (ds.map kR)) ∧ ∀ i x, ds[i]? = some x → Own ok H x.2 (setO (rowsS sw) i x.1.2)
def RulesAt (ok : Addr → Prop) (H : Hp) (k : Addr) (rules : List Sw) : Prop := ∃ ds : List (Sw × Addr), ds.map (·.1) = rules ∧ Own ok H k (.lst (ds.map fun x => .ref x.2)) ∧ ∀ x ∈ ds, RuleAt ok H x.2 x.1
section
variable {ok ok' : Addr → Prop} {H H' : Hp} {d : Addr} {sw : Sw} {rows : List (List Str)} {rules : List Sw}
theorem SwAt.mono (h : SwAt ok H d sw) (k : Kp ok H ok' H') : SwAt ok' H' d sw := by
  obtain ⟨ds, e, o, q⟩ := h; exact ⟨ds, e, k _ _ o, fun x hx => k _ _ (q x hx)⟩
theorem RuleAt.mono (h : RuleAt ok H d sw) (k : Kp ok H ok' H') : RuleAt ok' H' d sw := by
  obtain ⟨ds, e, o, q⟩ := h; exact ⟨ds, e, k _ _ o, fun x hx => k _ _ (q x hx)⟩
theorem TupsAt.mono (h : TupsAt ok H d rows) (k : Kp ok H ok' H') : TupsAt ok' H' d rows := by
  obtain ⟨ds, e, o, q⟩ := h; exact ⟨ds, e, k _ _ o, fun x hx => k _ _ (q x hx)⟩
theorem RowsAt.mono (h : RowsAt ok H d rows) (k : Kp ok H ok' H') : RowsAt ok' H' d rows := by
  obtain ⟨ds, e, o, q⟩ := h; exact ⟨ds, e, k _ _ o, fun x hx => k _ _ (q x hx)⟩
theorem SwIn.mono (h : SwIn ok H d sw) (k : Kp ok H ok' H') : SwIn ok' H' d sw := by
  obtain ⟨ds, e, o, q⟩ := h; exact ⟨ds, e, k _ _ o, fun x hx => ⟨k _ _ (q x hx).1, k _ _ (q x hx).2⟩⟩
theorem SetsAt.mono (h : SetsAt ok H d sw) (k : Kp ok H ok' H') : SetsAt ok' H' d sw := by
  obtain ⟨ds, e, o, q⟩ := h; exact ⟨ds, e, k _ _ o, fun i x hx => k _ _ (q i x hx)⟩
theorem RulesAt.mono (h : RulesAt ok H d rules) (k : Kp ok H ok' H') : RulesAt ok' H' d rules := by
  obtain ⟨ds, e, o, q⟩ := h; exact ⟨ds, e, k _ _ o, fun x hx => (q x hx).mono k⟩
theorem NumAt.mono (h : NumAt ok H d rows) (k : Kp ok H ok' H') : NumAt ok' H' d rows := k _ _ h
end
def flds (d l n s k b : Addr) (f : Int) : List (Str × V) := [("settings", .ref d), ("tuples", .ref l), ("numbers", .ref n), ("sets", .ref s), ("kept_rules", .ref k), ("bars", .ref b), ("free", .int f)]
structure PanAt (C : Addr) (ok : Addr → Prop) (H : Hp) (p : Addr) (sw : Sw) (rules : List Sw) (dx d l n s k b : Addr) : Prop where
  ins : Own ok H p (.ins C dx (flds d l n s k b (freeM sw rules)))
  sws : SwAt ok H d sw
  tps : TupsAt ok H l (rowsS sw)
  nms : NumAt ok H n (rowsS sw)
  sts : SetsAt ok H s sw
  rls : RulesAt ok H k rules
  brs : Own ok H b (.lst ((barsM sw rules).map V.int))
def PanelAt (C : Addr) (ok : Addr → Prop) (H : Hp) (p : Addr) (sw : Sw) (rules : List Sw) : Prop := ∃ dx d l n s k b, PanAt C ok H p sw rules dx d l n s k b
theorem PanelAt.mono {C p : Addr} {ok ok' : Addr → Prop} {H H' : Hp} {sw : Sw} {rules : List Sw} (h : PanelAt C ok H p sw rules) (k : Kp ok H ok' H') : PanelAt C ok' H' p sw rules := by
  obtain ⟨dx, d, l, n, s, kk, b, h⟩ := h
  exact ⟨dx, d, l, n, s, kk, b, ⟨k _ _ h.ins, h.sws.mono k, h.tps.mono k, h.nms.mono k, h.sts.mono k, h.rls.mono k, k _ _ h.brs⟩⟩
def SelfAt (C : Addr) (ok : Addr → Prop) (H : Hp) (p l s : Addr) : Prop := ∃ dx fs, Own ok H p (.ins C dx fs) ∧ fs.lookup ("tuples" : Str) = some (.ref l) ∧ fs.lookup ("sets" : Str) = some (.ref s) ∧ ∀ m ∈ (["all_choices", "box", "many", "term", "read_rule", "read_rules"] : List Str), fs.lookup m = none
theorem SelfAt.mono {C p l s : Addr} {ok ok' : Addr → Prop} {H H' : Hp} (h : SelfAt C ok H p l s) (k : Kp ok H ok' H') : SelfAt C ok' H' p l s := by
  obtain ⟨dx, fs, o, q⟩ := h; exact ⟨dx, fs, k _ _ o, q⟩
structure PFacts (K : PySem.W.Frag) (C X : Addr) : Prop where
  cl : Cls K C
  na : ∀ f ∈ (["settings", "tuples", "numbers", "sets", "kept_rules", "bars", "free"] : List Str), NoAttr K C f
  en : ECls K X
  mn : PySem.W.mroIn K X (.ref X) = some true
theorem yl_dict {p : Addr} {o : Obj} (kvs : List (Key × V)) : Yields (Itd p o kvs) (kvs.map fun kv => kV kv.1) (fun H => H p = some (.frz o (.dK kvs))) := by
  refine ⟨fun i H q h => ⟨q, by simpa using h⟩, fun H q => ⟨q, by simp⟩, fun i H x H' q hi h => ?_⟩
  obtain ⟨h1, k, v, h2, h3⟩ := h
  refine ⟨h1, ?_⟩
  rw [List.getElem?_map, h2, h3]
  rfl
theorem yl_dictE {p : Addr} {o : Obj} (kvs : List (Key × V)) : Yields2 (Itde p o kvs) (enumV 0 (kvs.map fun kv => kV kv.1)) (fun H => H p = some (.frz o (.dK kvs))) := by
  have e : (enumV 0 (kvs.map fun kv => kV kv.1)).length = kvs.length := by rw [enumV_len]; simp
  refine ⟨fun i H q h => ⟨q, by omega⟩, fun H q => ⟨q, by omega⟩, fun i H x H' q hi h => ?_⟩
  obtain ⟨T, k, v, hT, h1, h2, h3⟩ := h
  refine ⟨T, .int i, kV k, hT, h1, ?_, h3⟩
  have := enumV_get (k := 0) (xs := kvs.map fun kv => kV kv.1) (i := i) (x := kV k) (by rw [List.getElem?_map, h2]; rfl)
  rw [Nat.zero_add] at this
  exact this
theorem Same.thaw {H H' : Hp} {p : Addr} {o : Obj} {kvs : List (Key × V)} (h : H p = some (.dK kvs)) (S : Same (upd H p (.frz o (.dK kvs))) H') : Same H (upd H' p (.dK kvs)) := by
  intro b u e
  by_cases hb : b = p
  · subst hb; rw [upd_same, ← h, e]
  · rw [upd_ne hb]; exact S _ _ (by rw [upd_ne hb]; exact e)
end Pn
set_option maxRecDepth 100000
set_option maxHeartbeats 4000000
namespace Pn
open PySem L2
theorem not_fresh {H : Hp} {d : Addr} {u : HO} (h : H d = some u) : ¬ Pn.fresh H d := fun e => by
  have e : H d = none := e
  rw [h] at e
  cases e
theorem iteFe {b : Bool} {A B : Prop} (e : b = false) (h : B) : if b = true then A else B := by subst e; exact iteF h
theorem iteTe {b : Bool} {A B : Prop} (e : b = true) (h : A) : if b = true then A else B := by subst e; exact iteT h
theorem get_map {α β : Type} {l : List α} {f : α → β} {i : Nat} {x : β} (h : (l.map f)[i]? = some x) : ∃ m, l[i]? = some m ∧ x = f m := by
  rw [List.getElem?_map] at h
  cases e : l[i]? with
  | none => rw [e] at h; cases h
  | some m => rw [e] at h; exact ⟨m, rfl, by simpa using h.symm⟩
theorem lt_of_get {α : Type} {l : List α} {i : Nat} {x : α} (h : l[i]? = some x) : i < l.length := (List.getElem?_eq_some_iff.mp h).1
theorem rng_at {n i : Nat} {x : V} (h : (rngV 0 n)[i]? = some x) : i < n ∧ x = .int (i : Int) := by
  have hi := lt_of_get h
  rw [rngV_len] at hi
  rw [rngV_get hi] at h
  refine ⟨hi, ?_⟩
  have : V.int (0 + (i : Int)) = x := by simpa using h
  rw [← this, Int.zero_add]
theorem one_lt (a c : Nat) : decide ([c] < [a]) = decide (c < a) := by
  rw [Bool.eq_iff_iff, decide_eq_true_iff, decide_eq_true_iff, List.cons_lt_cons_iff]
  simp
theorem leL {s : Str} {a c : Nat} (h : s.cps.toList = [a]) : (!decide ((⟨#[c]⟩ : Str).cps.toList < s.cps.toList)) = decide (a ≤ c) := by
  rw [h]
  show (!decide ([c] < [a])) = _
  rw [one_lt, ← decide_not]
  exact decide_eq_decide.mpr Nat.not_lt
theorem leR {s : Str} {a c : Nat} (h : s.cps.toList = [a]) : (!decide (s.cps.toList < (⟨#[c]⟩ : Str).cps.toList)) = decide (c ≤ a) := by
  rw [h]
  show (!decide ([a] < [c])) = _
  rw [one_lt, ← decide_not]
  exact decide_eq_decide.mpr Nat.not_lt
theorem chain_str {s1 s2 : Str} {a b c : Nat} {Q : VK} {H : Hp} (h1 : s1.cps.toList = [a]) (h2 : s2.cps.toList = [b]) (k : Q (.bl (decide (a ≤ c) && decide (c ≤ b))) H) :
    if (!decide ((⟨#[c]⟩ : Str).cps.toList < s1.cps.toList)) = true then Q (.bl (!decide (s2.cps.toList < (⟨#[c]⟩ : Str).cps.toList))) H else Q (.bl false) H := by
  rw [leL h1, leR h2]
  cases e : decide (a ≤ c) with
  | true => rw [e, Bool.true_and] at k; exact iteT k
  | false => rw [e, Bool.false_and] at k; exact iteF k
theorem chain_int {a b c : Int} {Q : VK} {H : Hp} (k : Q (.bl (decide (a ≤ c) && decide (c ≤ b))) H) : if decide (a ≤ c) = true then Q (.bl (decide (c ≤ b))) H else Q (.bl false) H := by
  cases e : decide (a ≤ c) with
  | true => rw [e, Bool.true_and] at k; exact iteT k
  | false => rw [e, Bool.false_and] at k; exact iteF k
theorem dch_str {s1 s2 : Str} {a b c i : Nat} {Q : VK} {E : EK} {H : Hp} {σ : St} (h1 : s1.cps.toList = [a]) (h2 : s2.cps.toList = [b]) (hv : σ[i]? = some (some (.str ⟨#[c]⟩))) (k : Q (.bl (decide (a ≤ c) && decide (c ≤ b))) H) :
    dChain rLeD rLeD (dC (.str s1)) (dVar i) (dC (.str s2)) σ H Q E := by
  unfold dChain dC dVar
  rw [hv]
  exact chain_str h1 h2 k
theorem all_signs {K : PySem.W.Frag} {z : Str} {te : DE} {p : Nat → Bool} {H : Hp} {Q : VK} (hz : z.length ≤ 1000) (he : ∀ (c : Nat) (σ : St) (H1 : Hp) (Q1 : VK), σ.length = 1 → Q1 (.bl (p c)) H1 → te (σ.set 0 (some (.str ⟨#[c]⟩))) H1 Q1 (fun _ _ => False)) (k : ∀ H', Same H H' → Q (.bl (z.cps.toList.all p)) H') :
    ∀ D, H D = none → CmpW (Its z) (gdN 0) dYes te D (fun H' => rAll K [.ref D] H' Q) (capt [none] [some (.str z)]) (upd H D (.lst [])) := by
  intro D hD
  refine cmp_map (yl_str z) (fun σ => σ.length = 1) (fun _ => true) (fun v => match v with | .str y => .bl (p (y.cps.getD 0 0)) | _ => .non) hD (fun _ _ => True.intro) ?_ rfl ?_ ?_
  · unfold signsV
    rw [List.length_map]
    exact Nat.lt_of_le_of_lt (show z.cps.toList.length ≤ 1000 from by have : z.cps.size ≤ 1000 := hz; simpa using this) (by decide)
  · intro x σ H1 hx hσ S Fin Skip hF hS
    obtain ⟨c, hc, rfl⟩ := List.mem_map.mp hx
    refine he c σ H1 _ hσ ?_
    exact hF _ _ _ (by rw [List.length_set]; exact hσ) (Same.refl _) rfl rfl
  · intro H' S hD'
    have e : ((signsV z).filter fun _ => true).map (fun v => match v with | .str y => V.bl (p (y.cps.getD 0 0)) | _ => .non) = (z.cps.toList.map p).map V.bl := by
      unfold signsV
      rw [List.filter_eq_self.mpr (fun _ _ => rfl), List.map_map, List.map_map]
      rfl
    refine ⟨z.cps.toList.map p, SqL.of (hD'.trans (by rw [e])), ?_⟩
    have e2 : (z.cps.toList.map p).all (fun b => b) = z.cps.toList.all p := by rw [List.all_map]; rfl
    rw [e2]
    exact k H' S
theorem all_list {K : PySem.W.Frag} {J : It} {its : List V} {ok : Hp → Prop} {te : DE} {σ : St} {H : Hp} {R : Hp → Addr → Prop} (Y : Yields J its ok) (Sg : St → Prop) (hok : ∀ H1, Same H H1 → ok H1) (hn : its.length < sizeLine) (hσ : Sg σ) (hS : ∀ σ x, Sg σ → Sg (σ.set 0 (some x)))
    (he : ∀ x σ H1 Q1, x ∈ its → Sg σ → Same H H1 → (∀ H2, Same H1 H2 → Q1 (.bl true) H2) → te (σ.set 0 (some x)) H1 Q1 (fun _ _ => False)) (k : ∀ D H', Same H H' → SqL K H' D ((its.map fun _ => true).map V.bl) → R H' D) :
    ∀ D, H D = none → CmpW J (gdN 0) dYes te D (fun H' => R H' D) σ (upd H D (.lst [])) := fun D hD => all_true (K := K) Y Sg hD hok hn hσ hS he (k D)
theorem metK_acc : ∀ (xs acc : List Str), (acc ++ xs).Nodup → xs.foldl (fun σ k => if σ.any (fun j => decide (j = k)) then σ else σ ++ [k]) acc = acc ++ xs
  | [], acc, _ => by rw [List.foldl_nil, List.append_nil]
  | x :: xs, acc, h => by
    have hx : (acc.any fun j => decide (j = x)) = false := by
      rw [List.any_eq_false]
      intro j hj e
      have e : j = x := by simpa using e
      subst e
      exact (List.nodup_append.mp h).2.2 j hj j List.mem_cons_self rfl
    rw [List.foldl_cons, hx]
    have h2 : (acc ++ [x] ++ xs).Nodup := by simpa using h
    show List.foldl _ (acc ++ [x]) xs = _
    rw [metK_acc xs (acc ++ [x]) h2]
    simp
theorem metK_nd {xs : List Str} (h : xs.Nodup) : metK xs = xs := metK_acc xs [] (by simpa using h)
theorem valV_mem {κ : Type} [DecidableEq κ] : ∀ {kvs : List (κ × V)} {i : Nat} {k : κ} {v : V}, (kvs.map (·.1)).Nodup → kvs[i]? = some (k, v) → valV kvs k = some v
  | [], _, _, _, _, e => by simp at e
  | p :: r, 0, k, v, _, e => by
    rw [List.getElem?_cons_zero] at e
    cases e
    exact valV_pos rfl
  | p :: r, i + 1, k, v, h, e => by
    rw [List.getElem?_cons_succ] at e
    rw [List.map_cons, List.nodup_cons] at h
    have ne : ¬ p.1 = k := fun z => h.1 (List.mem_map.mpr ⟨(k, v), List.mem_of_getElem? e, z.symm⟩)
    rw [valV_neg ne]
    exact valV_mem h.2 e
theorem valV_none {κ : Type} [DecidableEq κ] : ∀ {kvs : List (κ × V)} {k : κ}, ¬ k ∈ kvs.map (·.1) → valV kvs k = none
  | [], _, _ => rfl
  | p :: r, k, h => by
    rw [List.map_cons, List.mem_cons, not_or] at h
    rw [valV_neg (fun e => h.1 e.symm)]
    exact valV_none h.2
theorem nodup_inr {l : List Str} (h : l.Nodup) : (l.map (Sum.inr : Str → Key)).Nodup := List.Pairwise.map _ (fun a b ne e => ne (by injection e)) h
theorem keys_kR (ds : List ((Str × List Str) × Addr)) : (ds.map kR).map (·.1) = ((ds.map (·.1)).map (·.1)).map (Sum.inr : Str → Key) := by simp [List.map_map]
theorem keys_nd {ds : List ((Str × List Str) × Addr)} {sw : Sw} (e : ds.map (·.1) = sw) (h : (sw.map (·.1)).Nodup) : ((ds.map kR).map (·.1)).Nodup := by
  rw [keys_kR, e]
  exact nodup_inr h
end Pn
section
open PySem PySem.W PyProof.Rows
set_option maxRecDepth 100000
set_option maxHeartbeats 0
def PySem.W.Fast.tw2927976326639342848 : Unit := ()
def PySem.W.Fast.tw7104720038451926115 : Unit := ()
def PySem.W.Fast.tw3097026882403647875 : Unit := ()
def PySem.W.Fast.tw1091933474784022821 : Unit := ()
def PySem.W.Fast.tw3020129011092076010 : Unit := ()
def PySem.W.Fast.tw14149585347299241134 : Unit := ()
def PySem.W.Fast.tw546644012341257584 : Unit := ()
def PySem.W.Fast.tw11614883554895952305 : Unit := ()
def PySem.W.Fast.tw18252524088659819730 : Unit := ()
def PySem.W.Fast.tw1351617900705732307 : Unit := ()
def PySem.W.Fast.tw12746430624720956665 : Unit := ()
def PySem.W.Fast.tw14505991889874224314 : Unit := ()
def PySem.W.Fast.tw1159680370183243261 : Unit := ()
open_top head_k03 for PySem.Challenge.rw_manyleaf_k03_choices_numbered
end
set_option maxRecDepth 100000
set_option maxHeartbeats 4000000
namespace K03
open PySem L2
structure Adr where
  f_zah : Addr
  d_zah : FuncData
  f_zt : Addr
  d_zt : FuncData
  f_zc : Addr
  d_zc : FuncData
  f_zw : Addr
  d_zw : FuncData
  f_zz : Addr
  d_zz : FuncData
  f_zai : Addr
  d_zai : FuncData
  f_zf : Addr
  d_zf : FuncData
  f_zu : Addr
  d_zu : FuncData
  f_zy : Addr
  d_zy : FuncData
  f_zp : Addr
  d_zp : FuncData
  f_zi : Addr
  d_zi : FuncData
  f_ze : Addr
  d_ze : FuncData
  f_zaa : Addr
  d_zaa : FuncData
  f_zl : Addr
  d_zl : FuncData
  f_zb : Addr
  d_zb : FuncData
  f_za : Addr
  d_za : FuncData
  f_zam : Addr
  d_zam : FuncData
  f_zg : Addr
  d_zg : FuncData
  f_zs : Addr
  d_zs : FuncData
  f_zj : Addr
  d_zj : FuncData
  f_zo : Addr
  d_zo : FuncData
  f_zh : Addr
  d_zh : FuncData
  f_zae : Addr
  d_zae : FuncData
  f_zd : Addr
  d_zd : FuncData
  f_zv : Addr
  d_zv : FuncData
  f_zk : Addr
  d_zk : FuncData
  f_zal : Addr
  d_zal : FuncData
  f_zm : Addr
  d_zm : FuncData
  f_zq : Addr
  d_zq : FuncData
  f_zak : Addr
  d_zak : FuncData
  f_zad : Addr
  d_zad : FuncData
  f_zn : Addr
  d_zn : FuncData
  f_zaf : Addr
  d_zaf : FuncData
  f_zab : Addr
  d_zab : FuncData
  f_zag : Addr
  d_zag : FuncData
  f_zaj : Addr
  d_zaj : FuncData
  f_zx : Addr
  d_zx : FuncData
  f_zr : Addr
  d_zr : FuncData
  f_zac : Addr
  d_zac : FuncData
  f_zan : Addr
  d_zan : FuncData
  dv_zs : Value
  du_zs : List Value
  c_zat : Addr
  c_zau : Addr
  c_zav : Addr
  c_zaw : Addr
  c_zax : Addr
  u_zaq : Value
  u_zao : Value
  u_zap : Value
  u_zar : Value
  u_zas : Value
end K03
set_option maxRecDepth 100000
set_option maxHeartbeats 4000000
namespace K03
open PySem L2 Pn
structure Facts (K : PySem.W.Frag) (t : Adr) : Prop where
  pf : PFacts K t.c_zax t.c_zav
abbrev Bad (t : Adr) (H : Hp) (E : XK) : Prop := ∀ H' e, Same H H' → H' e = some (flO e t.c_zav none) → E (.ref e) none H'
def badNum (n : Nat) : V → Prop
  | .int i => ¬ (0 ≤ i ∧ i < (n : Int))
  | .bl _ => True
  | .non => True
  | .str _ => True
  | _ => False
def wholeV : V → Bool
  | .int _ => true
  | _ => false
def mixF (c k : Int) : Int :=
  if c % 2 = 0 ∧ c / 2 ^ (27 * k + 1).toNat ≠ 0 ∧ c / 2 ^ (27 * k + 1).toNat ≠ -1 then Builtin.bitAnd (c / 2 ^ (27 * k + 1).toNat) 134217727
  else
    let n := (c % 1000000007 + 7919 * k) * 48271 % 2147483647
    let m := n * n % 2147483629
    m * (m + 3) % 2147483587
section
def sp_zal (K : PySem.W.Frag) (t : Adr) : Sp := fun vs H Q _ => ∃ c n : Int, vs = [.int c, .int n] ∧ 0 ≤ n ∧ Q (.bl (decide (Builtin.bitAnd (c / 2 ^ n.toNat) 1 = 1))) H
def sp_zam (K : PySem.W.Frag) (t : Adr) : Sp := fun vs H Q _ => ∃ (a : Addr) (ns : List Nat), vs = [.ref a] ∧ SqL K H a (ns.map fun n : Nat => V.int (n : Int)) ∧ (∀ n ∈ ns, n ≤ 1000) ∧ Q (.int (setM ns)) H
def sp_zah (K : PySem.W.Frag) (t : Adr) : Sp := fun vs H Q _ => ∃ (a : Addr) (ms : List Int), vs = [.ref a] ∧ SqL K H a (ms.map V.int) ∧ Q (.int (unionM ms)) H
def sp_zae (K : PySem.W.Frag) (t : Adr) : Sp := fun vs H Q _ => ∃ v, vs = [v] ∧ flatV v = true ∧ Q (.bl (wholeV v)) H
def sp_zw (K : PySem.W.Frag) (t : Adr) : Sp := fun vs H Q _ => ∃ (z : Str) (lo hi : Int), vs = [.str z, .int lo, .int hi] ∧ z.length ≤ 1000 ∧ Q (.bl (decide (lo ≤ (z.length : Int)) && decide ((z.length : Int) ≤ hi))) H
def sp_zz (K : PySem.W.Frag) (t : Adr) : Sp := fun vs H Q _ => ∃ c, vs = [.str ⟨#[c]⟩] ∧ Q (.bl (letterC c)) H
def sp_zai (K : PySem.W.Frag) (t : Adr) : Sp := fun vs H Q _ => ∃ z, vs = [.str z] ∧ okW z ∧ ∀ H', Same H H' → Q (.bl true) H'
def sp_zf (K : PySem.W.Frag) (t : Adr) : Sp := fun vs H Q _ => ∃ (a : Addr) (l : List Str), vs = [.ref a] ∧ SqL K H a (l.map V.str) ∧ okL l ∧ ∀ H', Same H H' → Q (.bl true) H'
def sp_zaa (K : PySem.W.Frag) (t : Adr) : Sp := fun vs H Q _ => ∃ (a b : Addr) (w : Str) (l : List Str), vs = [.ref a] ∧ H a = some (.tup [.str w, .ref b]) ∧ H b = some (lstO l) ∧ okW w ∧ okSet l ∧ ∀ H', Same H H' → Q (.bl true) H'
def sp_zl (K : PySem.W.Frag) (t : Adr) : Sp := fun vs H Q _ => ∃ (a : Addr) (sw : Sw), vs = [.ref a] ∧ SwIn any H a sw ∧ okSw sw ∧ ∀ H' d, Same H H' → SwAt (fresh H) H' d sw → Q (.ref d) H'
def sp_zb (K : PySem.W.Frag) (t : Adr) : Sp := fun vs H Q _ => ∃ (d : Addr) (sw : Sw), vs = [.ref d] ∧ SwAt any H d sw ∧ okSw sw ∧ ∀ H' l, Same H H' → TupsAt (fresh H) H' l (rowsS sw) → Q (.ref l) H'
def sp_za (K : PySem.W.Frag) (t : Adr) : Sp := fun vs H Q _ => ∃ (l : Addr) (rows : List (List Str)), vs = [.ref l] ∧ TupsAt any H l rows ∧ rows.Nodup ∧ rows.length ≤ 256 ∧ ∀ H' n, Same H H' → NumAt (fresh H) H' n rows → Q (.ref n) H'
def sp_zg (K : PySem.W.Frag) (t : Adr) : Sp := fun vs H Q _ => ∃ (d l : Addr) (sw : Sw), vs = [.ref d, .ref l] ∧ SwAt any H d sw ∧ TupsAt any H l (rowsS sw) ∧ okSw sw ∧ ∀ H' s, Same H H' → SetsAt (fresh H) H' s sw → Q (.ref s) H'
def sp_zp (K : PySem.W.Frag) (t : Adr) : Sp := fun vs H Q _ => ∃ (r : Addr) (rule : Sw), vs = [.ref r] ∧ RuleAt any H r rule ∧ (rule.map (·.1)).Nodup ∧ rule.length ≤ 100 ∧ ∀ H' c, Same H H' → RuleAt (fresh H) H' c rule → Q (.ref c) H'
def sp_zt (K : PySem.W.Frag) (t : Adr) : Sp := fun vs H Q _ => ∃ (p l s : Addr) (sw : Sw), vs = [.ref p] ∧ SelfAt t.c_zax any H p l s ∧ TupsAt any H l (rowsS sw) ∧ Q (.int (rowsS sw).length) H
def sp_zc (K : PySem.W.Frag) (t : Adr) : Sp := fun vs H Q _ => ∃ (p l s : Addr) (sw : Sw), vs = [.ref p] ∧ SelfAt t.c_zax any H p l s ∧ TupsAt any H l (rowsS sw) ∧ (rowsS sw).length ≤ 256 ∧ Q (.int (allM sw)) H
def sp_zu (K : PySem.W.Frag) (t : Adr) : Sp := fun vs H Q _ => ∃ (p a l s : Addr) (w : Str) (ss : List Str) (sw : Sw), vs = [.ref p, .str w, .ref a] ∧ SelfAt t.c_zax any H p l s ∧ SetsAt any H s sw ∧ okSw sw ∧ H a = some (lstO ss) ∧ okTerm sw (w, ss) ∧ ∀ H', Same H H' → Q (.int (termM sw (w, ss))) H'
def sp_zy (K : PySem.W.Frag) (t : Adr) : Sp := fun vs H Q _ => ∃ (p r l s : Addr) (sw rule : Sw), vs = [.ref p, .ref r] ∧ SelfAt t.c_zax (· ≠ r) H p l s ∧ TupsAt (· ≠ r) H l (rowsS sw) ∧ SetsAt (· ≠ r) H s sw ∧ okSw sw ∧ RuleAt any H r rule ∧ okRule sw rule ∧ ∀ H', Same H H' → Q (.int (boxM sw rule)) H'
def sp_zi (K : PySem.W.Frag) (t : Adr) : Sp := fun vs H Q _ => ∃ (p r l s : Addr) (sw rule : Sw), vs = [.ref p, .ref r] ∧ SelfAt t.c_zax (· ≠ r) H p l s ∧ TupsAt (· ≠ r) H l (rowsS sw) ∧ SetsAt (· ≠ r) H s sw ∧ okSw sw ∧ RuleAt any H r rule ∧ okRule sw rule ∧ ∀ H' c, Same H H' → RuleAt (fresh H) H' c rule → Q (.ref c) H'
def RulesIn (ok : Addr → Prop) (H : Hp) (v : V) (rules : List Sw) : Prop := (v = .non ∧ rules = []) ∨ ∃ k, v = .ref k ∧ RulesAt ok H k rules
def sp_ze (K : PySem.W.Frag) (t : Adr) : Sp := fun vs H Q _ => ∃ (p l s : Addr) (ok : Addr → Prop) (v : V) (sw : Sw) (rules : List Sw), vs = [.ref p, v] ∧ SelfAt t.c_zax ok H p l s ∧ TupsAt ok H l (rowsS sw) ∧ SetsAt ok H s sw ∧ okSw sw ∧
  RulesIn (fun a => ¬ ok a) H v rules ∧ (∀ r ∈ rules, okRule sw r) ∧ rules.length ≤ 8 ∧ ∀ H' k, Same H H' → RulesAt (fresh H) H' k rules → Q (.ref k) H'
def sp_zs (K : PySem.W.Frag) (t : Adr) : Sp := fun vs H Q _ => ∃ (p a dx : Addr) (v : V) (sw : Sw) (rules : List Sw), vs = [.ref p, .ref a, v] ∧ H p = some (.ins t.c_zax dx []) ∧ SwIn (· ≠ p) H a sw ∧ okSw sw ∧ RulesIn (· ≠ p) H v rules ∧ (∀ r ∈ rules, okRule sw r) ∧ rules.length ≤ 8 ∧ freeM sw rules ≠ 0 ∧
  ∀ H', (∀ b o, b ≠ p → H b = some o → H' b = some o) → PanelAt t.c_zax (fun b => b = p ∨ H b = none) H' p sw rules → Q .non H'
def sp_zk (K : PySem.W.Frag) (t : Adr) : Sp := fun vs H Q _ => ∃ (p : Addr) (sw : Sw) (rules : List Sw), vs = [.ref p] ∧ PanelAt t.c_zax any H p sw rules ∧ Q (.int (freeM sw rules)) H
def sp_zo (K : PySem.W.Frag) (t : Adr) : Sp := fun vs H Q _ => ∃ (p : Addr) (sw : Sw), vs = [.ref p] ∧ PanelAt t.c_zax any H p sw [] ∧ ∀ H' k, Same H H' → H' k = some (.lst []) → Q (.ref k) H'
def sp_zj (K : PySem.W.Frag) (t : Adr) : Sp := fun vs H Q _ => ∃ (p : Addr) (sw : Sw) (rules : List Sw), vs = [.ref p] ∧ PanelAt t.c_zax any H p sw rules ∧ okSw sw ∧
  ∀ H' l (ds : List (((Str × List Str) × Addr) × Addr)), Same H H' → H l = none → ds.map (·.1.1) = sw → H' l = some (.lst (ds.map fun x => .ref x.2)) → (∀ x ∈ ds, H' x.2 = some (.tup [.str x.1.1.1, .ref x.1.2]) ∧ H' x.1.2 = some (tupO x.1.1.2)) → Q (.ref l) H'
def sp_zd (K : PySem.W.Frag) (t : Adr) : Sp := fun vs H Q E => ∃ (p : Addr) (v : V) (sw : Sw) (rules : List Sw), vs = [.ref p, v] ∧ PanelAt t.c_zax any H p sw rules ∧ ((∃ i : Nat, v = .int i ∧ i < (rowsS sw).length ∧ Q .non H) ∨ (badNum (rowsS sw).length v ∧ Bad t H E))
def sp_zv (K : PySem.W.Frag) (t : Adr) : Sp := fun vs H Q E => ∃ (p : Addr) (v : V) (sw : Sw) (rules : List Sw), vs = [.ref p, v] ∧ PanelAt t.c_zax any H p sw rules ∧ ((∃ (i : Nat) (r : List Str), v = .int i ∧ (rowsS sw)[i]? = some r ∧ ∀ a, H a = some (tupO r) → Q (.ref a) H) ∨ (badNum (rowsS sw).length v ∧ Bad t H E))
def sp_zm (K : PySem.W.Frag) (t : Adr) : Sp := fun vs H Q E => ∃ (p : Addr) (v : V) (sw : Sw), vs = [.ref p, v] ∧ PanelAt t.c_zax any H p sw [] ∧ ((∃ i : Nat, v = .int i ∧ i < (rowsS sw).length ∧ Q .non H) ∨ (badNum (rowsS sw).length v ∧ Bad t H E))
def sp_zh (K : PySem.W.Frag) (t : Adr) : Sp := fun vs H Q E => ∃ (p a : Addr) (r : List Str) (sw : Sw) (rules : List Sw), vs = [.ref p, .ref a] ∧ PanelAt t.c_zax any H p sw rules ∧ okSw sw ∧ H a = some (lstO r) ∧ r.length ≤ 1000 ∧
  ((∃ i : Nat, (rowsS sw)[i]? = some r ∧ ∀ H', Same H H' → Q (.int i) H') ∨ (r ∉ rowsS sw ∧ Bad t H E))
def sp_zq (K : PySem.W.Frag) (t : Adr) : Sp := fun vs H Q _ => ∃ (a : Addr) (ns : List Int) (k : Nat), vs = [.ref a, .int k] ∧ SqL K H a (ns.map V.int) ∧ ∀ r : Int, Q (.int r) H
def sp_zak (K : PySem.W.Frag) (t : Adr) : Sp := fun vs H Q _ => ∃ c k : Int, vs = [.int c, .int k] ∧ 0 ≤ k ∧ k ≤ 1000 ∧ ∀ H', Same H H' → Q (.int (mixF c k)) H'
def sp_zad (K : PySem.W.Frag) (t : Adr) : Sp := fun vs H Q _ => ∃ (c : Int) (n : Nat), vs = [.int c, .int n] ∧ n ≤ 5 ∧ ∀ H' l (ws : List Str), Same H H' → H l = none → H' l = some (lstO ws) → ws.length = n → ws.Nodup → (∀ z ∈ ws, okW z) → Q (.ref l) H'
def sp_zn (K : PySem.W.Frag) (t : Adr) : Sp := fun vs H Q _ => ∃ (c m : Int), vs = [.int c, .int m] ∧ 4 ≤ m ∧ m ≤ 256 ∧ ∀ H' l sw, Same H H' → SwIn any H' l sw → okSw sw → Q (.ref l) H'
def sp_zaf (K : PySem.W.Frag) (t : Adr) : Sp := fun vs H Q _ => ∃ (l : Addr) (sw : Sw), vs = [.ref l] ∧ SwIn any H l sw ∧ okSw sw ∧ ∀ H' r, Same H H' → RowsAt any H' r (rowsS sw) → Q (.ref r) H'
def sp_zag (K : PySem.W.Frag) (t : Adr) : Sp := fun vs H Q _ => ∃ (p : Addr) (v : V) (sw : Sw) (rules : List Sw), vs = [.ref p, v] ∧ PanelAt t.c_zax any H p sw rules ∧ badNum (rowsS sw).length v ∧ ∀ H', Same H H' → Q (.str "none") H'
def sp_zaj (K : PySem.W.Frag) (t : Adr) : Sp := fun vs H Q _ => ∃ (p : Addr) (v : V) (sw : Sw), vs = [.ref p, v] ∧ PanelAt t.c_zax any H p sw [] ∧ badNum (rowsS sw).length v ∧ ∀ H', Same H H' → Q (.str "none") H'
def sp_zx (K : PySem.W.Frag) (t : Adr) : Sp := fun vs H Q _ => ∃ (p a : Addr) (r : List Str) (sw : Sw) (rules : List Sw), vs = [.ref p, .ref a] ∧ PanelAt t.c_zax any H p sw rules ∧ okSw sw ∧ H a = some (lstO r) ∧ r.length ≤ 1000 ∧ r ∉ rowsS sw ∧ ∀ H', Same H H' → Q (.str "none") H'
def sp_zab (K : PySem.W.Frag) (t : Adr) : Sp := fun vs H Q _ => ∃ (l : Addr) (c : Int) (sw : Sw), vs = [.ref l, .int c] ∧ SwIn any H l sw ∧ okSw sw ∧ ∀ H' p, Same H H' → PanelAt t.c_zax any H' p sw [] → Q (.ref p) H'
def sp_zr (K : PySem.W.Frag) (t : Adr) : Sp := fun vs H Q _ => ∃ (p r : Addr) (c : Int) (sw : Sw), vs = [.ref p, .ref r, .int c] ∧ PanelAt t.c_zax any H p sw [] ∧ RowsAt any H r (rowsS sw) ∧ okSw sw ∧ ∀ H', Same H H' → Q (.bl true) H'
def sp_zac (K : PySem.W.Frag) (t : Adr) : Sp := fun vs H Q _ => ∃ i d : Int, vs = [.int i, .int d] ∧ Q (.bl (decide (i = d))) H
def sp_zan (K : PySem.W.Frag) (t : Adr) : Sp := fun vs H Q _ => ∃ (a : Addr) (ns : List Int), vs = [.ref a] ∧ SqL K H a (ns.map V.int) ∧ ns.length ≤ 63 ∧ ∀ H', Q (.bl true) H'
end
end K03
set_option maxRecDepth 100000
set_option maxHeartbeats 4000000
namespace K03
open PySem L2
def top (i : Nat) : Stmt := PySem.Challenge.pw_manyleaf_k03_choices_numbered.main.body.getD i (.Pass ⟨0, 0, 0, 0⟩)
def bl : List Str := ["all", "bool", "dict", "enumerate", "int", "isinstance", "len", "list", "range", "set", "str", "tuple"]
section
variable (K : PySem.W.Frag) (t : Adr)
abbrev s_zah : Stmt := top 9
abbrev N_zah : List Str := ["sets", "choices", "one"]
abbrev P_zah : List Str := ["sets"]
def i_zah : FI := ⟨t.f_zah, t.d_zah, P_zah, 1, sp_zah K t, [], []⟩
abbrev s_zt : Stmt := inClass (top 21) 3
abbrev N_zt : List Str := ["self"]
abbrev P_zt : List Str := ["self"]
def i_zt : FI := ⟨t.f_zt, t.d_zt, P_zt, 1, sp_zt K t, [], []⟩
abbrev s_zc : Stmt := inClass (top 21) 9
abbrev N_zc : List Str := ["self"]
abbrev P_zc : List Str := ["self"]
def i_zc : FI := ⟨t.f_zc, t.d_zc, P_zc, 2, sp_zc K t, [], []⟩
abbrev s_zw : Stmt := top 13
abbrev N_zw : List Str := ["thing", "least", "greatest"]
abbrev P_zw : List Str := ["thing", "least", "greatest"]
def i_zw : FI := ⟨t.f_zw, t.d_zw, P_zw, 1, sp_zw K t, [], []⟩
abbrev s_zz : Stmt := top 14
abbrev N_zz : List Str := ["sign"]
abbrev P_zz : List Str := ["sign"]
def i_zz : FI := ⟨t.f_zz, t.d_zz, P_zz, 1, sp_zz K t, [], []⟩
abbrev s_zai : Stmt := top 12
abbrev N_zai : List Str := ["thing"]
abbrev P_zai : List Str := ["thing"]
def i_zai : FI := ⟨t.f_zai, t.d_zai, P_zai, 2, sp_zai K t, [], []⟩
abbrev s_zf : Stmt := top 22
abbrev N_zf : List Str := ["things"]
abbrev P_zf : List Str := ["things"]
def i_zf : FI := ⟨t.f_zf, t.d_zf, P_zf, 3, sp_zf K t, [], []⟩
abbrev s_zu : Stmt := inClass (top 21) 12
abbrev N_zu : List Str := ["self", "word", "settings"]
abbrev P_zu : List Str := ["self", "word", "settings"]
def i_zu : FI := ⟨t.f_zu, t.d_zu, P_zu, 4, sp_zu K t, [], []⟩
abbrev s_zy : Stmt := inClass (top 21) 11
abbrev N_zy : List Str := ["self", "terms", "choices", "word"]
abbrev P_zy : List Str := ["self", "terms"]
def i_zy : FI := ⟨t.f_zy, t.d_zy, P_zy, 5, sp_zy K t, [], []⟩
abbrev s_zp : Stmt := top 28
abbrev N_zp : List Str := ["rule", "copied", "word"]
abbrev P_zp : List Str := ["rule"]
def i_zp : FI := ⟨t.f_zp, t.d_zp, P_zp, 1, sp_zp K t, [], []⟩
abbrev s_zi : Stmt := inClass (top 21) 2
abbrev N_zi : List Str := ["self", "rule"]
abbrev P_zi : List Str := ["self", "rule"]
def i_zi : FI := ⟨t.f_zi, t.d_zi, P_zi, 6, sp_zi K t, [], []⟩
abbrev s_ze : Stmt := inClass (top 21) 1
abbrev N_ze : List Str := ["self", "rules"]
abbrev P_ze : List Str := ["self", "rules"]
def i_ze : FI := ⟨t.f_ze, t.d_ze, P_ze, 7, sp_ze K t, [], []⟩
abbrev s_zaa : Stmt := top 24
abbrev N_zaa : List Str := ["switch"]
abbrev P_zaa : List Str := ["switch"]
def i_zaa : FI := ⟨t.f_zaa, t.d_zaa, P_zaa, 4, sp_zaa K t, [], []⟩
abbrev s_zl : Stmt := top 23
abbrev N_zl : List Str := ["switches", "settings", "many", "switch"]
abbrev P_zl : List Str := ["switches"]
def i_zl : FI := ⟨t.f_zl, t.d_zl, P_zl, 5, sp_zl K t, [], []⟩
abbrev s_zb : Stmt := top 25
abbrev N_zb : List Str := ["settings", "tuples", "word", "longer", "ahead"]
abbrev P_zb : List Str := ["settings"]
def i_zb : FI := ⟨t.f_zb, t.d_zb, P_zb, 1, sp_zb K t, [], []⟩
abbrev s_za : Stmt := top 26
abbrev N_za : List Str := ["tuples", "numbers", "number", "told"]
abbrev P_za : List Str := ["tuples"]
def i_za : FI := ⟨t.f_za, t.d_za, P_za, 1, sp_za K t, [], []⟩
abbrev s_zam : Stmt := top 8
abbrev N_zam : List Str := ["numbers", "choices", "number"]
abbrev P_zam : List Str := ["numbers"]
def i_zam : FI := ⟨t.f_zam, t.d_zam, P_zam, 1, sp_zam K t, [], []⟩
abbrev s_zg : Stmt := top 27
abbrev N_zg : List Str := ["settings", "tuples", "sets", "place", "word", "setting", "having"]
abbrev P_zg : List Str := ["settings", "tuples"]
def i_zg : FI := ⟨t.f_zg, t.d_zg, P_zg, 2, sp_zg K t, [], []⟩
abbrev s_zs : Stmt := inClass (top 21) 0
abbrev N_zs : List Str := ["self", "switches", "rules"]
abbrev P_zs : List Str := ["self", "switches", "rules"]
def i_zs : FI := ⟨t.f_zs, t.d_zs, P_zs, 8, sp_zs K t, [.non], t.du_zs⟩
abbrev s_zj : Stmt := inClass (top 21) 4
abbrev N_zj : List Str := ["self"]
abbrev P_zj : List Str := ["self"]
def i_zj : FI := ⟨t.f_zj, t.d_zj, P_zj, 1, sp_zj K t, [], []⟩
abbrev s_zo : Stmt := inClass (top 21) 5
abbrev N_zo : List Str := ["self"]
abbrev P_zo : List Str := ["self"]
def i_zo : FI := ⟨t.f_zo, t.d_zo, P_zo, 2, sp_zo K t, [], []⟩
abbrev s_zh : Stmt := inClass (top 21) 6
abbrev N_zh : List Str := ["self", "settings", "number"]
abbrev P_zh : List Str := ["self", "settings"]
def i_zh : FI := ⟨t.f_zh, t.d_zh, P_zh, 1, sp_zh K t, [], []⟩
abbrev s_zae : Stmt := top 11
abbrev N_zae : List Str := ["thing"]
abbrev P_zae : List Str := ["thing"]
def i_zae : FI := ⟨t.f_zae, t.d_zae, P_zae, 1, sp_zae K t, [], []⟩
abbrev s_zd : Stmt := inClass (top 21) 8
abbrev N_zd : List Str := ["self", "number"]
abbrev P_zd : List Str := ["self", "number"]
def i_zd : FI := ⟨t.f_zd, t.d_zd, P_zd, 2, sp_zd K t, [], []⟩
abbrev s_zv : Stmt := inClass (top 21) 7
abbrev N_zv : List Str := ["self", "number"]
abbrev P_zv : List Str := ["self", "number"]
def i_zv : FI := ⟨t.f_zv, t.d_zv, P_zv, 3, sp_zv K t, [], []⟩
abbrev s_zk : Stmt := inClass (top 21) 10
abbrev N_zk : List Str := ["self"]
abbrev P_zk : List Str := ["self"]
def i_zk : FI := ⟨t.f_zk, t.d_zk, P_zk, 1, sp_zk K t, [], []⟩
abbrev s_zal : Stmt := top 7
abbrev N_zal : List Str := ["choices", "number"]
abbrev P_zal : List Str := ["choices", "number"]
def i_zal : FI := ⟨t.f_zal, t.d_zal, P_zal, 1, sp_zal K t, [], []⟩
abbrev s_zm : Stmt := inClass (top 21) 14
abbrev N_zm : List Str := ["self", "number", "place", "bar"]
abbrev P_zm : List Str := ["self", "number"]
def i_zm : FI := ⟨t.f_zm, t.d_zm, P_zm, 3, sp_zm K t, [], []⟩
abbrev s_zq : Stmt := top 30
abbrev N_zq : List Str := ["_law_script", "_law_k"]
abbrev P_zq : List Str := ["_law_script", "_law_k"]
def i_zq : FI := ⟨t.f_zq, t.d_zq, P_zq, 1, sp_zq K t, [], []⟩
abbrev s_zak : Stmt := top 31
abbrev N_zak : List Str := ["_law_cell", "_law_k", "_law_left", "_law_number_here"]
abbrev P_zak : List Str := ["_law_cell", "_law_k"]
def i_zak : FI := ⟨t.f_zak, t.d_zak, P_zak, 1, sp_zak K t, [], []⟩
abbrev s_zad : Stmt := top 32
abbrev N_zad : List Str := ["_law_cell", "_law_many", "_law_letters", "_law_number_here", "_law_base", "_law_k", "_law_long", "_law_at", "_law_words_here", "_law_signs"]
abbrev P_zad : List Str := ["_law_cell", "_law_many"]
def i_zad : FI := ⟨t.f_zad, t.d_zad, P_zad, 2, sp_zad K t, [], []⟩
abbrev s_zn : Stmt := top 33
abbrev N_zn : List Str := ["_law_cell", "_law_most", "_law_words_here", "_law_switches_here", "_law_product", "_law_k", "_law_size"]
abbrev P_zn : List Str := ["_law_cell", "_law_most"]
def i_zn : FI := ⟨t.f_zn, t.d_zn, P_zn, 3, sp_zn K t, [], []⟩
abbrev s_zaf : Stmt := top 34
abbrev N_zaf : List Str := ["_law_switches_here", "_law_rows_here", "_law_word", "_law_settings", "_law_longer", "_law_row", "_law_setting"]
abbrev P_zaf : List Str := ["_law_switches_here"]
def i_zaf : FI := ⟨t.f_zaf, t.d_zaf, P_zaf, 1, sp_zaf K t, [], []⟩
abbrev s_zab : Stmt := top 38
abbrev N_zab : List Str := ["_law_switches_here", "_law_cell", "_law_word", "_law_settings", "_law_handed", "_law_panel_here"]
abbrev P_zab : List Str := ["_law_switches_here", "_law_cell"]
def i_zab : FI := ⟨t.f_zab, t.d_zab, P_zab, 10, sp_zab K t, [], []⟩
abbrev s_zag : Stmt := top 35
abbrev N_zag : List Str := ["_law_panel_here", "_law_thing", "_law_found"]
abbrev P_zag : List Str := ["_law_panel_here", "_law_thing"]
def i_zag : FI := ⟨t.f_zag, t.d_zag, P_zag, 4, sp_zag K t, [], []⟩
abbrev s_zaj : Stmt := top 36
abbrev N_zaj : List Str := ["_law_panel_here", "_law_thing", "_law_found"]
abbrev P_zaj : List Str := ["_law_panel_here", "_law_thing"]
def i_zaj : FI := ⟨t.f_zaj, t.d_zaj, P_zaj, 4, sp_zaj K t, [], []⟩
abbrev s_zx : Stmt := top 37
abbrev N_zx : List Str := ["_law_panel_here", "_law_settings", "_law_found"]
abbrev P_zx : List Str := ["_law_panel_here", "_law_settings"]
def i_zx : FI := ⟨t.f_zx, t.d_zx, P_zx, 2, sp_zx K t, [], []⟩
abbrev s_zr : Stmt := top 39
abbrev N_zr : List Str := ["_law_panel_here", "_law_rows_here", "_law_cell", "_law_row", "_law_at", "_law_some", "_law_settings", "_law_thing"]
abbrev P_zr : List Str := ["_law_panel_here", "_law_rows_here", "_law_cell"]
def i_zr : FI := ⟨t.f_zr, t.d_zr, P_zr, 5, sp_zr K t, [], []⟩
abbrev s_zac : Stmt := top 40
abbrev N_zac : List Str := ["_law_found", "_law_due"]
abbrev P_zac : List Str := ["_law_found", "_law_due"]
def i_zac : FI := ⟨t.f_zac, t.d_zac, P_zac, 1, sp_zac K t, [], []⟩
abbrev s_zan : Stmt := top 41
abbrev N_zan : List Str := ["_law_script", "_law_cell", "_law_switches_here", "_law_rows_here", "_law_panel_here", "_law_other", "_law_everything", "_law_number_here", "_law_row", "_law_settings", "_law_found"]
abbrev P_zan : List Str := ["_law_script"]
def mt_all_choices : List MI := [⟨t.c_zax, i_zc K t⟩]
def mt_allowed : List MI := [⟨t.c_zax, i_zk K t⟩]
def mt_barred : List MI := [⟨t.c_zax, i_zm K t⟩]
def mt_box : List MI := [⟨t.c_zax, i_zy K t⟩]
def mt_many : List MI := [⟨t.c_zax, i_zt K t⟩]
def mt_need_number : List MI := [⟨t.c_zax, i_zd K t⟩]
def mt_number_of : List MI := [⟨t.c_zax, i_zh K t⟩]
def mt_read_rule : List MI := [⟨t.c_zax, i_zi K t⟩]
def mt_read_rules : List MI := [⟨t.c_zax, i_ze K t⟩]
def mt_rules : List MI := [⟨t.c_zax, i_zo K t⟩]
def mt_switches : List MI := [⟨t.c_zax, i_zj K t⟩]
def mt_term : List MI := [⟨t.c_zax, i_zu K t⟩]
def mt_told : List MI := [⟨t.c_zax, i_zv K t⟩]
def gb_0 (K : PySem.W.Frag) (t : Adr) : List (Str × GB) := [("LeafError", .exc t.c_zat none), ("BadPanel", .exc t.c_zau none), ("NoChoice", .exc t.c_zav none), ("BadCond", .exc t.c_zaw none), ("Panel", .val (.ref t.c_zax) (.ref t.c_zax)), ("MOST_SWITCHES", .val (.int 5) t.u_zaq), ("LEAST_SETTINGS", .val (.int 2) t.u_zao), ("MOST_SETTINGS", .val (.int 4) t.u_zap), ("MOST_CHOICES", .val (.int 256) t.u_zar), ("MOST_RULES", .val (.int 8) t.u_zas)]
def gb_1 : List (Str × GB) := ("", .met "allowed" (mt_allowed K t)) :: ("", .met "many" (mt_many K t)) :: ("", .met "number_of" (mt_number_of K t)) :: ("", .met "switches" (mt_switches K t)) :: ("union_of", .fn (i_zah K t)) :: ("has_length", .fn (i_zw K t)) :: ("is_letter", .fn (i_zz K t)) :: ("copied_rule", .fn (i_zp K t)) :: ("settings_of_choices", .fn (i_zb K t)) :: ("numbers_by_settings", .fn (i_za K t)) :: ("set_of", .fn (i_zam K t)) :: ("is_whole", .fn (i_zae K t)) :: ("in_set", .fn (i_zal K t)) :: ("_law_cell_at", .fn (i_zq K t)) :: ("_law_mix", .fn (i_zak K t)) :: ("_law_rows", .fn (i_zaf K t)) :: ("_law_whole", .fn (i_zac K t)) :: gb_0 K t
def gb_2 : List (Str × GB) := ("", .met "all_choices" (mt_all_choices K t)) :: ("", .met "need_number" (mt_need_number K t)) :: ("", .met "rules" (mt_rules K t)) :: ("is_word", .fn (i_zai K t)) :: ("sets_of_settings", .fn (i_zg K t)) :: ("_law_words", .fn (i_zad K t)) :: ("_law_number", .fn (i_zx K t)) :: gb_1 K t
def gb_3 : List (Str × GB) := ("", .met "barred" (mt_barred K t)) :: ("", .met "told" (mt_told K t)) :: ("are_unlike_words", .fn (i_zf K t)) :: ("_law_switches", .fn (i_zn K t)) :: gb_2 K t
def gb_4 : List (Str × GB) := ("", .met "term" (mt_term K t)) :: ("is_switch", .fn (i_zaa K t)) :: ("_law_told", .fn (i_zag K t)) :: ("_law_bar", .fn (i_zaj K t)) :: gb_3 K t
def gb_5 : List (Str × GB) := ("", .met "box" (mt_box K t)) :: ("read_switches", .fn (i_zl K t)) :: ("_law_refused", .fn (i_zr K t)) :: gb_4 K t
def gb_6 : List (Str × GB) := ("", .met "read_rule" (mt_read_rule K t)) :: gb_5 K t
def gb_7 : List (Str × GB) := ("", .met "read_rules" (mt_read_rules K t)) :: gb_6 K t
def gb_8 : List (Str × GB) := gb_7 K t
def gb_9 : List (Str × GB) := ("Panel", .cls t.c_zax (some (i_zs K t))) :: gb_8 K t
def gb_10 : List (Str × GB) := ("_law_panel", .fn (i_zab K t)) :: gb_9 K t
end
def t_zah (K : PySem.W.Frag) (t : Adr) : DS :=
  (dSeq (dSet 1 (dC (.int 0)))
  (dSeq (dFor (iVal K (dVar 0)) (gdN 2) (dSeq (dSet 1 (dBin rOrD (dVar 1) (dVar 2)))
    dNext))
  (dSeq (dRet (dVar 1))
  dNext)))
theorem rd_zah (K : PySem.W.Frag) (t : Adr) : wSs 40 (defG K N_zah (defScope s_zah) (gb_0 K t) bl) (defBody s_zah) = t_zah K t := by kernel_rfl
theorem sc_zah : FnScope N_zah P_zah (defScope s_zah) := ⟨rfl, rfl, rfl, by decide +kernel, rfl, by decide +kernel, by decide +kernel⟩
theorem vi_zah : visOk N_zah (defScope s_zah) = true := by decide +kernel
def t_zt (K : PySem.W.Frag) (t : Adr) : DS :=
  (dSeq (dRet (dFn (fun vs H Q _ => (rLen K) vs H Q) (dCons (dUn (rGetD K "tuples") (dVar 0)) dNil)))
  dNext)
theorem rd_zt (K : PySem.W.Frag) (t : Adr) : wSs 40 (defG K N_zt (defScope s_zt) (gb_0 K t) bl) (defBody s_zt) = t_zt K t := by kernel_rfl
theorem sc_zt : FnScope N_zt P_zt (defScope s_zt) := ⟨rfl, rfl, rfl, by decide +kernel, rfl, by decide +kernel, by decide +kernel⟩
theorem vi_zt : visOk N_zt (defScope s_zt) = true := by decide +kernel
def t_zc (K : PySem.W.Frag) (t : Adr) : DS :=
  (dSeq (dRet (dBin rSubD (dBin rShlD (dC (.int 1)) (dOwn "many" 0 (mt_many K t) (dVar 0) dNil)) (dC (.int 1))))
  dNext)
theorem rd_zc (K : PySem.W.Frag) (t : Adr) : wSs 40 (defG K N_zc (defScope s_zc) (gb_1 K t) bl) (defBody s_zc) = t_zc K t := by kernel_rfl
theorem sc_zc : FnScope N_zc P_zc (defScope s_zc) := ⟨rfl, rfl, rfl, by decide +kernel, rfl, by decide +kernel, by decide +kernel⟩
theorem vi_zc : visOk N_zc (defScope s_zc) = true := by decide +kernel
def t_zw (K : PySem.W.Frag) (t : Adr) : DS :=
  (dSeq (dRet (dAndV K (dFn (fun vs H Q _ => (rIsi K) vs H Q) (dCons (dVar 0) (dCons (dC (.ty "str")) dNil))) (dChain rLeD rLeD (dVar 1) (dFn (fun vs H Q _ => (rLen K) vs H Q) (dCons (dVar 0) dNil)) (dVar 2))))
  dNext)
theorem rd_zw (K : PySem.W.Frag) (t : Adr) : wSs 40 (defG K N_zw (defScope s_zw) (gb_0 K t) bl) (defBody s_zw) = t_zw K t := by kernel_rfl
theorem sc_zw : FnScope N_zw P_zw (defScope s_zw) := ⟨rfl, rfl, rfl, by decide +kernel, rfl, by decide +kernel, by decide +kernel⟩
theorem vi_zw : visOk N_zw (defScope s_zw) = true := by decide +kernel
def t_zz (K : PySem.W.Frag) (t : Adr) : DS :=
  (dSeq (dRet (dChain rLeD rLeD (dC (.str "a")) (dVar 0) (dC (.str "z"))))
  dNext)
theorem rd_zz (K : PySem.W.Frag) (t : Adr) : wSs 40 (defG K N_zz (defScope s_zz) (gb_0 K t) bl) (defBody s_zz) = t_zz K t := by kernel_rfl
theorem sc_zz : FnScope N_zz P_zz (defScope s_zz) := ⟨rfl, rfl, rfl, by decide +kernel, rfl, by decide +kernel, by decide +kernel⟩
theorem vi_zz : visOk N_zz (defScope s_zz) = true := by decide +kernel
def t_zai (K : PySem.W.Frag) (t : Adr) : DS :=
  (dSeq (dRet (dAndV K (dFn (spE (sp_zw K t) []) (dCons (dVar 0) (dCons (dC (.int 1)) (dCons (dC (.int 8)) dNil)))) (dFn (fun vs H Q _ => (rAll K) vs H Q) (dCons (dComp [none] (iVal K (dVar 0)) (gdN 0) dYes (dFn (spE (sp_zz K t) []) (dCons (dVar 0) dNil))) dNil))))
  dNext)
theorem rd_zai (K : PySem.W.Frag) (t : Adr) : wSs 40 (defG K N_zai (defScope s_zai) (gb_1 K t) bl) (defBody s_zai) = t_zai K t := by kernel_rfl
theorem sc_zai : FnScope N_zai P_zai (defScope s_zai) := ⟨rfl, rfl, rfl, by decide +kernel, rfl, by decide +kernel, by decide +kernel⟩
theorem vi_zai : visOk N_zai (defScope s_zai) = true := by decide +kernel
def t_zf (K : PySem.W.Frag) (t : Adr) : DS :=
  (dSeq (dIf (dOr (dNot (dTru K (dFn (fun vs H Q _ => (rIsi K) vs H Q) (dCons (dVar 0) (dCons (dC (.ty "list")) dNil))))) (dNot (dTru K (dFn (fun vs H Q _ => (rAll K) vs H Q) (dCons (dComp [none] (iVal K (dVar 0)) (gdN 0) dYes (dFn (spE (sp_zai K t) []) (dCons (dVar 0) dNil))) dNil))))) (dSeq (dRet (dC (.bl false)))
    dNext) dNext)
  (dSeq (dRet (dBin (rEqD K false) (dUn (rLenSet K) (dVar 0)) (dFn (fun vs H Q _ => (rLen K) vs H Q) (dCons (dVar 0) dNil))))
  dNext))
theorem rd_zf (K : PySem.W.Frag) (t : Adr) : wSs 40 (defG K N_zf (defScope s_zf) (gb_2 K t) bl) (defBody s_zf) = t_zf K t := by kernel_rfl
theorem sc_zf : FnScope N_zf P_zf (defScope s_zf) := ⟨rfl, rfl, rfl, by decide +kernel, rfl, by decide +kernel, by decide +kernel⟩
theorem vi_zf : visOk N_zf (defScope s_zf) = true := by decide +kernel
def t_zu (K : PySem.W.Frag) (t : Adr) : DS :=
  (dSeq (dIf (dOr (dNot (dTru K (dFn (fun vs H Q _ => (rIsi K) vs H Q) (dCons (dVar 1) (dCons (dC (.ty "str")) dNil))))) (dTst (dBin (rInD K true) (dVar 1) (dUn (rGetD K "sets") (dVar 0))))) (dSeq (dRaise K (dFn (fun vs H Q E => vs.length ≤ 1000 ∧ mkX t.c_zaw none 0 vs H Q E) (dCons (dC (.str "there is no such switch")) dNil)))
    dNext) dNext)
  (dSeq (dIf (dOr (dNot (dTru K (dFn (spE (sp_zf K t) []) (dCons (dVar 2) dNil)))) (dTst (dBin (rEqD K false) (dVar 2) (dLst dNil)))) (dSeq (dRaise K (dFn (fun vs H Q E => vs.length ≤ 1000 ∧ mkX t.c_zaw none 0 vs H Q E) (dCons (dC (.str "this is no list of settings")) dNil)))
    dNext) dNext)
  (dSeq (dIf (dNot (dTru K (dFn (fun vs H Q _ => (rAll K) vs H Q) (dCons (dComp [none, some 0, some 1] (iVal K (dVar 2)) (gdN 0) dYes (dBin (rInD K false) (dVar 0) (dBin (rIxD K) (dUn (rGetD K "sets") (dVar 1)) (dVar 2)))) dNil)))) (dSeq (dRaise K (dFn (fun vs H Q E => vs.length ≤ 1000 ∧ mkX t.c_zaw none 0 vs H Q E) (dCons (dC (.str "the switch has no such setting")) dNil)))
    dNext) dNext)
  (dSeq (dRet (dFn (spE (sp_zah K t) []) (dCons (dComp [none, some 0, some 1] (iVal K (dVar 2)) (gdN 0) dYes (dBin (rIxD K) (dBin (rIxD K) (dUn (rGetD K "sets") (dVar 1)) (dVar 2)) (dVar 0))) dNil)))
  dNext))))
theorem rd_zu (K : PySem.W.Frag) (t : Adr) : wSs 40 (defG K N_zu (defScope s_zu) (gb_3 K t) bl) (defBody s_zu) = t_zu K t := by kernel_rfl
theorem sc_zu : FnScope N_zu P_zu (defScope s_zu) := ⟨rfl, rfl, rfl, by decide +kernel, rfl, by decide +kernel, by decide +kernel⟩
theorem vi_zu : visOk N_zu (defScope s_zu) = true := by decide +kernel
def t_zy (K : PySem.W.Frag) (t : Adr) : DS :=
  (dSeq (dIf (dNot (dTru K (dFn (fun vs H Q _ => (rIsi K) vs H Q) (dCons (dVar 1) (dCons (dC (.ty "dict")) dNil))))) (dSeq (dRaise K (dFn (fun vs H Q E => vs.length ≤ 1000 ∧ mkX t.c_zaw none 0 vs H Q E) (dCons (dC (.str "this is no box")) dNil)))
    dNext) dNext)
  (dSeq (dSet 2 (dOwn "all_choices" 0 (mt_all_choices K t) (dVar 0) dNil))
  (dSeq (dFor (iVal K (dVar 1)) (gdN 3) (dSeq (dSet 2 (dBin rAndD (dVar 2) (dOwn "term" 2 (mt_term K t) (dVar 0) (dCons (dVar 3) (dCons (dBin (rIxD K) (dVar 1) (dVar 3)) dNil)))))
    dNext))
  (dSeq (dRet (dVar 2))
  dNext))))
theorem rd_zy (K : PySem.W.Frag) (t : Adr) : wSs 40 (defG K N_zy (defScope s_zy) (gb_4 K t) bl) (defBody s_zy) = t_zy K t := by kernel_rfl
theorem sc_zy : FnScope N_zy P_zy (defScope s_zy) := ⟨rfl, rfl, rfl, by decide +kernel, rfl, by decide +kernel, by decide +kernel⟩
theorem vi_zy : visOk N_zy (defScope s_zy) = true := by decide +kernel
def t_zp (K : PySem.W.Frag) (t : Adr) : DS :=
  (dSeq (dSet 1 dDNew)
  (dSeq (dFor (iVal K (dVar 0)) (gdN 2) (dSeq (dAsg (dFn (fun vs H Q _ => (rListOf K) vs H Q) (dCons (dBin (rIxD K) (dVar 0) (dVar 2)) dNil)) (gdSub K (dVar 1) (dVar 2)))
    dNext))
  (dSeq (dRet (dVar 1))
  dNext)))
theorem rd_zp (K : PySem.W.Frag) (t : Adr) : wSs 40 (defG K N_zp (defScope s_zp) (gb_0 K t) bl) (defBody s_zp) = t_zp K t := by kernel_rfl
theorem sc_zp : FnScope N_zp P_zp (defScope s_zp) := ⟨rfl, rfl, rfl, by decide +kernel, rfl, by decide +kernel, by decide +kernel⟩
theorem vi_zp : visOk N_zp (defScope s_zp) = true := by decide +kernel
def t_zi (K : PySem.W.Frag) (t : Adr) : DS :=
  (dSeq (dIf (dOr (dNot (dTru K (dFn (fun vs H Q _ => (rIsi K) vs H Q) (dCons (dVar 1) (dCons (dC (.ty "dict")) dNil))))) (dTst (dBin (rEqD K false) (dFn (fun vs H Q _ => (rLen K) vs H Q) (dCons (dVar 1) dNil)) (dC (.int 0))))) (dSeq (dRaise K (dFn (fun vs H Q E => vs.length ≤ 1000 ∧ mkX t.c_zau none 0 vs H Q E) (dCons (dC (.str "a rule is no dict, or has no entry")) dNil)))
    dNext) dNext)
  (dSeq (dTry K (dSeq (dDrop (dOwn "box" 1 (mt_box K t) (dVar 0) (dCons (dVar 1) dNil)))
    dNext) [(t.c_zaw, (dSeq dNever
    dNext))])
  (dSeq (dRet (dFn (spE (sp_zp K t) []) (dCons (dVar 1) dNil)))
  dNext)))
theorem rd_zi (K : PySem.W.Frag) (t : Adr) : wSs 40 (defG K N_zi (defScope s_zi) (gb_5 K t) bl) (defBody s_zi) = t_zi K t := by kernel_rfl
theorem sc_zi : FnScope N_zi P_zi (defScope s_zi) := ⟨rfl, rfl, rfl, by decide +kernel, rfl, by decide +kernel, by decide +kernel⟩
theorem vi_zi : visOk N_zi (defScope s_zi) = true := by decide +kernel
def t_ze (K : PySem.W.Frag) (t : Adr) : DS :=
  (dSeq (dIf (dTst (dBin (rIsD false) (dVar 1) (dC .non))) (dSeq (dRet (dLst dNil))
    dNext) dNext)
  (dSeq (dIf (dOr (dNot (dTru K (dFn (fun vs H Q _ => (rIsi K) vs H Q) (dCons (dVar 1) (dCons (dC (.ty "list")) dNil))))) (dTst (dBin rGtD (dFn (fun vs H Q _ => (rLen K) vs H Q) (dCons (dVar 1) dNil)) (dC (.int 8))))) (dSeq (dRaise K (dFn (fun vs H Q E => vs.length ≤ 1000 ∧ mkX t.c_zau none 0 vs H Q E) (dCons (dC (.str "the rules are no list of at most eight")) dNil)))
    dNext) dNext)
  (dSeq (dRet (dComp [none, some 0] (iVal K (dVar 1)) (gdN 0) dYes (dOwn "read_rule" 1 (mt_read_rule K t) (dVar 1) (dCons (dVar 0) dNil))))
  dNext)))
theorem rd_ze (K : PySem.W.Frag) (t : Adr) : wSs 40 (defG K N_ze (defScope s_ze) (gb_6 K t) bl) (defBody s_ze) = t_ze K t := by kernel_rfl
theorem sc_ze : FnScope N_ze P_ze (defScope s_ze) := ⟨rfl, rfl, rfl, by decide +kernel, rfl, by decide +kernel, by decide +kernel⟩
theorem vi_ze : visOk N_ze (defScope s_ze) = true := by decide +kernel
def t_zaa (K : PySem.W.Frag) (t : Adr) : DS :=
  (dSeq (dIf (dOr (dNot (dTru K (dFn (fun vs H Q _ => (rIsi K) vs H Q) (dCons (dVar 0) (dCons (dC (.ty "tuple")) dNil))))) (dOr (dTst (dBin (rEqD K true) (dFn (fun vs H Q _ => (rLen K) vs H Q) (dCons (dVar 0) dNil)) (dC (.int 2)))) (dNot (dTru K (dFn (spE (sp_zai K t) []) (dCons (dBin (rIxD K) (dVar 0) (dC (.int 0))) dNil)))))) (dSeq (dRet (dC (.bl false)))
    dNext) dNext)
  (dSeq (dRet (dAndV K (dFn (spE (sp_zf K t) []) (dCons (dBin (rIxD K) (dVar 0) (dC (.int 1))) dNil)) (dChain rLeD rLeD (dC (.int 2)) (dFn (fun vs H Q _ => (rLen K) vs H Q) (dCons (dBin (rIxD K) (dVar 0) (dC (.int 1))) dNil)) (dC (.int 4)))))
  dNext))
theorem rd_zaa (K : PySem.W.Frag) (t : Adr) : wSs 40 (defG K N_zaa (defScope s_zaa) (gb_3 K t) bl) (defBody s_zaa) = t_zaa K t := by kernel_rfl
theorem sc_zaa : FnScope N_zaa P_zaa (defScope s_zaa) := ⟨rfl, rfl, rfl, by decide +kernel, rfl, by decide +kernel, by decide +kernel⟩
theorem vi_zaa : visOk N_zaa (defScope s_zaa) = true := by decide +kernel
def t_zl (K : PySem.W.Frag) (t : Adr) : DS :=
  (dSeq (dIf (dOr (dNot (dTru K (dFn (fun vs H Q _ => (rIsi K) vs H Q) (dCons (dVar 0) (dCons (dC (.ty "list")) dNil))))) (dNot (dTst (dChain rLeD rLeD (dC (.int 1)) (dFn (fun vs H Q _ => (rLen K) vs H Q) (dCons (dVar 0) dNil)) (dC (.int 5)))))) (dSeq (dRaise K (dFn (fun vs H Q E => vs.length ≤ 1000 ∧ mkX t.c_zau none 0 vs H Q E) (dCons (dC (.str "the switches are no list of one to five")) dNil)))
    dNext) dNext)
  (dSeq (dSet 1 dDNew)
  (dSeq (dSet 2 (dC (.int 1)))
  (dSeq (dFor (iVal K (dVar 0)) (gdN 3) (dSeq (dIf (dOr (dNot (dTru K (dFn (spE (sp_zaa K t) []) (dCons (dVar 3) dNil)))) (dTst (dBin (rInD K false) (dBin (rIxD K) (dVar 3) (dC (.int 0))) (dVar 1)))) (dSeq (dRaise K (dFn (fun vs H Q E => vs.length ≤ 1000 ∧ mkX t.c_zau none 0 vs H Q E) (dCons (dC (.str "this is no switch, or it stands there twice")) dNil)))
      dNext) dNext)
    (dSeq (dAsg (dFn (fun vs H Q _ => (rTupOf K) vs H Q) (dCons (dBin (rIxD K) (dVar 3) (dC (.int 1))) dNil)) (gdSub K (dVar 1) (dBin (rIxD K) (dVar 3) (dC (.int 0)))))
    (dSeq (dSet 2 (dBin rMulD (dVar 2) (dFn (fun vs H Q _ => (rLen K) vs H Q) (dCons (dBin (rIxD K) (dVar 3) (dC (.int 1))) dNil))))
    dNext))))
  (dSeq (dIf (dTst (dBin rGtD (dVar 2) (dC (.int 256)))) (dSeq (dRaise K (dFn (fun vs H Q E => vs.length ≤ 1000 ∧ mkX t.c_zau none 0 vs H Q E) (dCons (dC (.str "there are too many choices")) dNil)))
    dNext) dNext)
  (dSeq (dRet (dVar 1))
  dNext))))))
theorem rd_zl (K : PySem.W.Frag) (t : Adr) : wSs 40 (defG K N_zl (defScope s_zl) (gb_4 K t) bl) (defBody s_zl) = t_zl K t := by kernel_rfl
theorem sc_zl : FnScope N_zl P_zl (defScope s_zl) := ⟨rfl, rfl, rfl, by decide +kernel, rfl, by decide +kernel, by decide +kernel⟩
theorem vi_zl : visOk N_zl (defScope s_zl) = true := by decide +kernel
def t_zb (K : PySem.W.Frag) (t : Adr) : DS :=
  (dSeq (dSet 1 (dLst (dCons (dTup dNil) dNil)))
  (dSeq (dFor (iVal K (dVar 0)) (gdN 2) (dSeq (dSet 3 (dLst dNil))
    (dSeq (dFor (iVal K (dVar 1)) (gdN 4) (dSeq (dDrop (dMt (rMt K [⟨"list", "list.extend", rExtend⟩]) (dVar 3) (dCons (dComp [none, some 4] (iVal K (dBin (rIxD K) (dVar 0) (dVar 2))) (gdN 0) dYes (dBin (rAddD K) (dVar 1) (dTup (dCons (dVar 0) dNil)))) dNil)))
      dNext))
    (dSeq (dSet 1 (dVar 3))
    dNext))))
  (dSeq (dRet (dVar 1))
  dNext)))
theorem rd_zb (K : PySem.W.Frag) (t : Adr) : wSs 40 (defG K N_zb (defScope s_zb) (gb_0 K t) bl) (defBody s_zb) = t_zb K t := by kernel_rfl
theorem sc_zb : FnScope N_zb P_zb (defScope s_zb) := ⟨rfl, rfl, rfl, by decide +kernel, rfl, by decide +kernel, by decide +kernel⟩
theorem vi_zb : visOk N_zb (defScope s_zb) = true := by decide +kernel
def t_za (K : PySem.W.Frag) (t : Adr) : DS :=
  (dSeq (dSet 1 dDNew)
  (dSeq (dFor (iEn K (dCons (dVar 0) dNil)) (gdT K 2 [(gdN 2), (gdN 3)]) (dSeq (dAsg (dVar 2) (gdSub K (dVar 1) (dVar 3)))
    dNext))
  (dSeq (dRet (dVar 1))
  dNext)))
theorem rd_za (K : PySem.W.Frag) (t : Adr) : wSs 40 (defG K N_za (defScope s_za) (gb_0 K t) bl) (defBody s_za) = t_za K t := by kernel_rfl
theorem sc_za : FnScope N_za P_za (defScope s_za) := ⟨rfl, rfl, rfl, by decide +kernel, rfl, by decide +kernel, by decide +kernel⟩
theorem vi_za : visOk N_za (defScope s_za) = true := by decide +kernel
def t_zam (K : PySem.W.Frag) (t : Adr) : DS :=
  (dSeq (dSet 1 (dC (.int 0)))
  (dSeq (dFor (iVal K (dVar 0)) (gdN 2) (dSeq (dSet 1 (dBin rOrD (dVar 1) (dBin rShlD (dC (.int 1)) (dVar 2))))
    dNext))
  (dSeq (dRet (dVar 1))
  dNext)))
theorem rd_zam (K : PySem.W.Frag) (t : Adr) : wSs 40 (defG K N_zam (defScope s_zam) (gb_0 K t) bl) (defBody s_zam) = t_zam K t := by kernel_rfl
theorem sc_zam : FnScope N_zam P_zam (defScope s_zam) := ⟨rfl, rfl, rfl, by decide +kernel, rfl, by decide +kernel, by decide +kernel⟩
theorem vi_zam : visOk N_zam (defScope s_zam) = true := by decide +kernel
def t_zg (K : PySem.W.Frag) (t : Adr) : DS :=
  (dSeq (dSet 2 dDNew)
  (dSeq (dFor (iEn K (dCons (dVar 0) dNil)) (gdT K 2 [(gdN 3), (gdN 4)]) (dSeq (dAsg dDNew (gdSub K (dVar 2) (dVar 4)))
    (dSeq (dFor (iVal K (dBin (rIxD K) (dVar 0) (dVar 4))) (gdN 5) (dSeq (dSet 6 (dComp [none, none, some 3, some 5] (iEn K (dCons (dVar 1) dNil)) (gdT K 2 [(gdN 0), (gdN 1)]) (dTst (dBin (rEqD K false) (dBin (rIxD K) (dVar 1) (dVar 2)) (dVar 3))) (dVar 0)))
      (dSeq (dAsg (dFn (spE (sp_zam K t) []) (dCons (dVar 6) dNil)) (gdSub K (dBin (rIxD K) (dVar 2) (dVar 4)) (dVar 5)))
      dNext)))
    dNext)))
  (dSeq (dRet (dVar 2))
  dNext)))
theorem rd_zg (K : PySem.W.Frag) (t : Adr) : wSs 40 (defG K N_zg (defScope s_zg) (gb_1 K t) bl) (defBody s_zg) = t_zg K t := by kernel_rfl
theorem sc_zg : FnScope N_zg P_zg (defScope s_zg) := ⟨rfl, rfl, rfl, by decide +kernel, rfl, by decide +kernel, by decide +kernel⟩
theorem vi_zg : visOk N_zg (defScope s_zg) = true := by decide +kernel
def t_zs (K : PySem.W.Frag) (t : Adr) : DS :=
  (dSeq (dFld K "settings" (dVar 0) (dFn (spE (sp_zl K t) []) (dCons (dVar 1) dNil)))
  (dSeq (dFld K "tuples" (dVar 0) (dFn (spE (sp_zb K t) []) (dCons (dUn (rGetD K "settings") (dVar 0)) dNil)))
  (dSeq (dFld K "numbers" (dVar 0) (dFn (spE (sp_za K t) []) (dCons (dUn (rGetD K "tuples") (dVar 0)) dNil)))
  (dSeq (dFld K "sets" (dVar 0) (dFn (spE (sp_zg K t) []) (dCons (dUn (rGetD K "settings") (dVar 0)) (dCons (dUn (rGetD K "tuples") (dVar 0)) dNil))))
  (dSeq (dFld K "kept_rules" (dVar 0) (dOwn "read_rules" 1 (mt_read_rules K t) (dVar 0) (dCons (dVar 2) dNil)))
  (dSeq (dFld K "bars" (dVar 0) (dComp [none, some 0] (iVal K (dUn (rGetD K "kept_rules") (dVar 0))) (gdN 0) dYes (dOwn "box" 1 (mt_box K t) (dVar 1) (dCons (dVar 0) dNil))))
  (dSeq (dFld K "free" (dVar 0) (dBin rAndD (dOwn "all_choices" 0 (mt_all_choices K t) (dVar 0) dNil) (dUn rInvD (dFn (spE (sp_zah K t) []) (dCons (dUn (rGetD K "bars") (dVar 0)) dNil)))))
  (dSeq (dIf (dTst (dBin (rEqD K false) (dUn (rGetD K "free") (dVar 0)) (dC (.int 0)))) (dSeq (dRaise K (dFn (fun vs H Q E => vs.length ≤ 1000 ∧ mkX t.c_zav none 0 vs H Q E) (dCons (dC (.str "the rules bar every choice")) dNil)))
    dNext) dNext)
  dNext))))))))
theorem rd_zs (K : PySem.W.Frag) (t : Adr) : wSs 40 (defG K N_zs (defScope s_zs) (gb_7 K t) bl) (defBody s_zs) = t_zs K t := by kernel_rfl
theorem sc_zs : FnScope N_zs P_zs (defScope s_zs) := ⟨rfl, rfl, rfl, by decide +kernel, rfl, by decide +kernel, by decide +kernel⟩
theorem vi_zs : visOk N_zs (defScope s_zs) = true := by decide +kernel
def t_zj (K : PySem.W.Frag) (t : Adr) : DS :=
  (dSeq (dRet (dUn (rListItems K) (dUn (rGetD K "settings") (dVar 0))))
  dNext)
theorem rd_zj (K : PySem.W.Frag) (t : Adr) : wSs 40 (defG K N_zj (defScope s_zj) (gb_0 K t) bl) (defBody s_zj) = t_zj K t := by kernel_rfl
theorem sc_zj : FnScope N_zj P_zj (defScope s_zj) := ⟨rfl, rfl, rfl, by decide +kernel, rfl, by decide +kernel, by decide +kernel⟩
theorem vi_zj : visOk N_zj (defScope s_zj) = true := by decide +kernel
def t_zo (K : PySem.W.Frag) (t : Adr) : DS :=
  (dSeq (dRet (dComp [none] (iVal K (dUn (rGetD K "kept_rules") (dVar 0))) (gdN 0) dYes (dFn (spE (sp_zp K t) []) (dCons (dVar 0) dNil))))
  dNext)
theorem rd_zo (K : PySem.W.Frag) (t : Adr) : wSs 40 (defG K N_zo (defScope s_zo) (gb_1 K t) bl) (defBody s_zo) = t_zo K t := by kernel_rfl
theorem sc_zo : FnScope N_zo P_zo (defScope s_zo) := ⟨rfl, rfl, rfl, by decide +kernel, rfl, by decide +kernel, by decide +kernel⟩
theorem vi_zo : visOk N_zo (defScope s_zo) = true := by decide +kernel
def t_zh (K : PySem.W.Frag) (t : Adr) : DS :=
  (dSeq (dIf (dOr (dNot (dTru K (dFn (fun vs H Q _ => (rIsi K) vs H Q) (dCons (dVar 1) (dCons (dTup (dCons (dC (.ty "list")) (dCons (dC (.ty "tuple")) dNil))) dNil))))) (dNot (dTru K (dFn (fun vs H Q _ => (rAll K) vs H Q) (dCons (dComp [none] (iVal K (dVar 1)) (gdN 0) dYes (dFn (fun vs H Q _ => (rIsi K) vs H Q) (dCons (dVar 0) (dCons (dC (.ty "str")) dNil)))) dNil))))) (dSeq (dRaise K (dFn (fun vs H Q E => vs.length ≤ 1000 ∧ mkX t.c_zav none 0 vs H Q E) (dCons (dC (.str "these are no settings of a choice")) dNil)))
    dNext) dNext)
  (dSeq (dSet 2 (dMt (rMt K [⟨"dict", "dict.get", rDGet⟩]) (dUn (rGetD K "numbers") (dVar 0)) (dCons (dFn (fun vs H Q _ => (rTupOf K) vs H Q) (dCons (dVar 1) dNil)) dNil)))
  (dSeq (dIf (dTst (dBin (rIsD false) (dVar 2) (dC .non))) (dSeq (dRaise K (dFn (fun vs H Q E => vs.length ≤ 1000 ∧ mkX t.c_zav none 0 vs H Q E) (dCons (dC (.str "these are no settings of a choice")) dNil)))
    dNext) dNext)
  (dSeq (dRet (dVar 2))
  dNext))))
theorem rd_zh (K : PySem.W.Frag) (t : Adr) : wSs 40 (defG K N_zh (defScope s_zh) (gb_0 K t) bl) (defBody s_zh) = t_zh K t := by kernel_rfl
theorem sc_zh : FnScope N_zh P_zh (defScope s_zh) := ⟨rfl, rfl, rfl, by decide +kernel, rfl, by decide +kernel, by decide +kernel⟩
theorem vi_zh : visOk N_zh (defScope s_zh) = true := by decide +kernel
def t_zae (K : PySem.W.Frag) (t : Adr) : DS :=
  (dSeq (dRet (dAndV K (dFn (fun vs H Q _ => (rIsi K) vs H Q) (dCons (dVar 0) (dCons (dC (.ty "int")) dNil))) (dNotV K (dFn (fun vs H Q _ => (rIsi K) vs H Q) (dCons (dVar 0) (dCons (dC (.ty "bool")) dNil))))))
  dNext)
theorem rd_zae (K : PySem.W.Frag) (t : Adr) : wSs 40 (defG K N_zae (defScope s_zae) (gb_0 K t) bl) (defBody s_zae) = t_zae K t := by kernel_rfl
theorem sc_zae : FnScope N_zae P_zae (defScope s_zae) := ⟨rfl, rfl, rfl, by decide +kernel, rfl, by decide +kernel, by decide +kernel⟩
theorem vi_zae : visOk N_zae (defScope s_zae) = true := by decide +kernel
def t_zd (K : PySem.W.Frag) (t : Adr) : DS :=
  (dSeq (dIf (dOr (dNot (dTru K (dFn (spE (sp_zae K t) []) (dCons (dVar 1) dNil)))) (dNot (dTst (dChain rLeD rLtD (dC (.int 0)) (dVar 1) (dOwn "many" 0 (mt_many K t) (dVar 0) dNil))))) (dSeq (dRaise K (dFn (fun vs H Q E => vs.length ≤ 1000 ∧ mkX t.c_zav none 0 vs H Q E) (dCons (dC (.str "this is no number of a choice")) dNil)))
    dNext) dNext)
  dNext)
theorem rd_zd (K : PySem.W.Frag) (t : Adr) : wSs 40 (defG K N_zd (defScope s_zd) (gb_1 K t) bl) (defBody s_zd) = t_zd K t := by kernel_rfl
theorem sc_zd : FnScope N_zd P_zd (defScope s_zd) := ⟨rfl, rfl, rfl, by decide +kernel, rfl, by decide +kernel, by decide +kernel⟩
theorem vi_zd : visOk N_zd (defScope s_zd) = true := by decide +kernel
def t_zv (K : PySem.W.Frag) (t : Adr) : DS :=
  (dSeq (dDrop (dOwn "need_number" 1 (mt_need_number K t) (dVar 0) (dCons (dVar 1) dNil)))
  (dSeq (dRet (dBin (rIxD K) (dUn (rGetD K "tuples") (dVar 0)) (dVar 1)))
  dNext))
theorem rd_zv (K : PySem.W.Frag) (t : Adr) : wSs 40 (defG K N_zv (defScope s_zv) (gb_2 K t) bl) (defBody s_zv) = t_zv K t := by kernel_rfl
theorem sc_zv : FnScope N_zv P_zv (defScope s_zv) := ⟨rfl, rfl, rfl, by decide +kernel, rfl, by decide +kernel, by decide +kernel⟩
theorem vi_zv : visOk N_zv (defScope s_zv) = true := by decide +kernel
def t_zk (K : PySem.W.Frag) (t : Adr) : DS :=
  (dSeq (dRet (dUn (rGetD K "free") (dVar 0)))
  dNext)
theorem rd_zk (K : PySem.W.Frag) (t : Adr) : wSs 40 (defG K N_zk (defScope s_zk) (gb_0 K t) bl) (defBody s_zk) = t_zk K t := by kernel_rfl
theorem sc_zk : FnScope N_zk P_zk (defScope s_zk) := ⟨rfl, rfl, rfl, by decide +kernel, rfl, by decide +kernel, by decide +kernel⟩
theorem vi_zk : visOk N_zk (defScope s_zk) = true := by decide +kernel
def t_zal (K : PySem.W.Frag) (t : Adr) : DS :=
  (dSeq (dRet (dBin (rEqD K false) (dBin rAndD (dBin rShrD (dVar 0) (dVar 1)) (dC (.int 1))) (dC (.int 1))))
  dNext)
theorem rd_zal (K : PySem.W.Frag) (t : Adr) : wSs 40 (defG K N_zal (defScope s_zal) (gb_0 K t) bl) (defBody s_zal) = t_zal K t := by kernel_rfl
theorem sc_zal : FnScope N_zal P_zal (defScope s_zal) := ⟨rfl, rfl, rfl, by decide +kernel, rfl, by decide +kernel, by decide +kernel⟩
theorem vi_zal : visOk N_zal (defScope s_zal) = true := by decide +kernel
def t_zm (K : PySem.W.Frag) (t : Adr) : DS :=
  (dSeq (dDrop (dOwn "need_number" 1 (mt_need_number K t) (dVar 0) (dCons (dVar 1) dNil)))
  (dSeq (dFor (iEn K (dCons (dUn (rGetD K "bars") (dVar 0)) dNil)) (gdT K 2 [(gdN 2), (gdN 3)]) (dSeq (dIf (dTru K (dFn (spE (sp_zal K t) []) (dCons (dVar 3) (dCons (dVar 1) dNil)))) (dSeq (dRet (dVar 2))
      dNext) dNext)
    dNext))
  (dSeq (dRet (dC .non))
  dNext)))
theorem rd_zm (K : PySem.W.Frag) (t : Adr) : wSs 40 (defG K N_zm (defScope s_zm) (gb_2 K t) bl) (defBody s_zm) = t_zm K t := by kernel_rfl
theorem sc_zm : FnScope N_zm P_zm (defScope s_zm) := ⟨rfl, rfl, rfl, by decide +kernel, rfl, by decide +kernel, by decide +kernel⟩
theorem vi_zm : visOk N_zm (defScope s_zm) = true := by decide +kernel
def t_zq (K : PySem.W.Frag) (t : Adr) : DS :=
  (dSeq (dIf (dTst (dBin rLtD (dVar 1) (dFn (fun vs H Q _ => (rLen K) vs H Q) (dCons (dVar 0) dNil)))) (dSeq (dRet (dBin (rIxD K) (dVar 0) (dVar 1)))
    dNext) dNext)
  (dSeq (dRet (dC (.int 0)))
  dNext))
theorem rd_zq (K : PySem.W.Frag) (t : Adr) : wSs 40 (defG K N_zq (defScope s_zq) (gb_0 K t) bl) (defBody s_zq) = t_zq K t := by kernel_rfl
theorem sc_zq : FnScope N_zq P_zq (defScope s_zq) := ⟨rfl, rfl, rfl, by decide +kernel, rfl, by decide +kernel, by decide +kernel⟩
theorem vi_zq : visOk N_zq (defScope s_zq) = true := by decide +kernel
def t_zak (K : PySem.W.Frag) (t : Adr) : DS :=
  (dSeq (dSet 2 (dBin rShrD (dVar 0) (dBin (rAddD K) (dBin rMulD (dC (.int 27)) (dVar 1)) (dC (.int 1)))))
  (dSeq (dIf (dAnd (dTst (dBin (rEqD K false) (dBin rModD (dVar 0) (dC (.int 2))) (dC (.int 0)))) (dTst (dBin (rInD K true) (dVar 2) (dTup (dCons (dC (.int 0)) (dCons (dUn rNegD (dC (.int 1))) dNil)))))) (dSeq (dRet (dBin rAndD (dVar 2) (dC (.int 134217727))))
    dNext) dNext)
  (dSeq (dSet 3 (dBin rModD (dBin rMulD (dBin (rAddD K) (dBin rModD (dVar 0) (dC (.int 1000000007))) (dBin rMulD (dC (.int 7919)) (dVar 1))) (dC (.int 48271))) (dC (.int 2147483647))))
  (dSeq (dSet 3 (dBin rModD (dBin rMulD (dVar 3) (dVar 3)) (dC (.int 2147483629))))
  (dSeq (dRet (dBin rModD (dBin rMulD (dVar 3) (dBin (rAddD K) (dVar 3) (dC (.int 3)))) (dC (.int 2147483587))))
  dNext)))))
theorem rd_zak (K : PySem.W.Frag) (t : Adr) : wSs 40 (defG K N_zak (defScope s_zak) (gb_0 K t) bl) (defBody s_zak) = t_zak K t := by kernel_rfl
theorem sc_zak : FnScope N_zak P_zak (defScope s_zak) := ⟨rfl, rfl, rfl, by decide +kernel, rfl, by decide +kernel, by decide +kernel⟩
theorem vi_zak : visOk N_zak (defScope s_zak) = true := by decide +kernel
def t_zad (K : PySem.W.Frag) (t : Adr) : DS :=
  (dSeq (dSet 2 (dC (.str "abcdefghijklmnopqrstuvwxyz")))
  (dSeq (dSet 3 (dFn (spE (sp_zak K t) []) (dCons (dVar 0) (dCons (dC (.int 1)) dNil))))
  (dSeq (dIf (dTst (dBin (rEqD K false) (dBin rModD (dBin rFdivD (dVar 3) (dC (.int 64))) (dC (.int 3))) (dC (.int 0)))) (dSeq (dSet 4 (dMt (rMt K [⟨"str", "str.join", rJoin K⟩]) (dC (.str "")) (dCons (dComp [none, some 0, some 2] (iRng (dCons (dC (.int 8)) dNil)) (gdN 0) dYes (dBin (rIxD K) (dVar 2) (dBin rModD (dFn (spE (sp_zak K t) []) (dCons (dVar 1) (dCons (dBin (rAddD K) (dC (.int 2)) (dVar 0)) dNil))) (dC (.int 26))))) dNil)))
    (dSeq (dRet (dComp [none, some 4, some 3] (iRng (dCons (dVar 1) dNil)) (gdN 0) dYes (dSl K (dVar 1) dPartN (dPart (dBin (rAddD K) (dC (.int 1)) (dBin rModD (dBin (rAddD K) (dBin rFdivD (dVar 2) (dC (.int 192))) (dBin rMulD (dC (.int 3)) (dVar 0))) (dC (.int 8))))))))
    dNext)) dNext)
  (dSeq (dSet 6 (dBin (rAddD K) (dC (.int 1)) (dBin rModD (dVar 3) (dC (.int 8)))))
  (dSeq (dSet 7 (dBin rModD (dBin rFdivD (dVar 3) (dC (.int 8))) (dVar 6)))
  (dSeq (dSet 8 (dLst dNil))
  (dSeq (dFor (iRng (dCons (dVar 1) dNil)) (gdN 5) (dSeq (dSet 9 (dComp [none, some 7, some 0, some 5, some 2] (iRng (dCons (dVar 6) dNil)) (gdN 0) dYes (dBin (rIxD K) (dVar 4) (dBin rModD (dBin (rAddD K) (dFn (spE (sp_zak K t) []) (dCons (dVar 2) (dCons (dBin (rAddD K) (dC (.int 2)) (dVar 0)) dNil))) (dBin rMulD (dBin rMulD (dC (.int 5)) (dVar 3)) (dFn (fun vs H Q _ => rInt vs H Q) (dCons (dBin (rEqD K false) (dVar 0) (dVar 1)) dNil)))) (dC (.int 26))))))
    (dSeq (dDrop (dMt (rMt K [⟨"list", "list.append", rAppend⟩]) (dVar 8) (dCons (dMt (rMt K [⟨"str", "str.join", rJoin K⟩]) (dC (.str "")) (dCons (dVar 9) dNil)) dNil)))
    dNext)))
  (dSeq (dRet (dVar 8))
  dNext))))))))
theorem rd_zad (K : PySem.W.Frag) (t : Adr) : wSs 40 (defG K N_zad (defScope s_zad) (gb_1 K t) bl) (defBody s_zad) = t_zad K t := by kernel_rfl
theorem sc_zad : FnScope N_zad P_zad (defScope s_zad) := ⟨rfl, rfl, rfl, by decide +kernel, rfl, by decide +kernel, by decide +kernel⟩
theorem vi_zad : visOk N_zad (defScope s_zad) = true := by decide +kernel
def t_zn (K : PySem.W.Frag) (t : Adr) : DS :=
  (dSeq (dSet 2 (dFn (spE (sp_zad K t) []) (dCons (dVar 0) (dCons (dC (.int 5)) dNil))))
  (dSeq (dSet 3 (dLst dNil))
  (dSeq (dSet 4 (dC (.int 1)))
  (dSeq (dFor (iRng (dCons (dBin (rAddD K) (dC (.int 1)) (dBin rModD (dFn (spE (sp_zak K t) []) (dCons (dVar 0) (dCons (dC (.int 20)) dNil))) (dC (.int 5)))) dNil)) (gdN 5) (dSeq (dSet 6 (dBin (rAddD K) (dC (.int 2)) (dBin rModD (dFn (spE (sp_zak K t) []) (dCons (dVar 0) (dCons (dBin (rAddD K) (dC (.int 21)) (dVar 5)) dNil))) (dC (.int 3)))))
    (dSeq (dIf (dTst (dBin rGtD (dBin rMulD (dVar 4) (dVar 6)) (dVar 1))) (dSeq (dSet 6 (dC (.int 2)))
      dNext) dNext)
    (dSeq (dIf (dTst (dBin rLeD (dBin rMulD (dVar 4) (dVar 6)) (dVar 1))) (dSeq (dSet 4 (dBin rMulD (dVar 4) (dVar 6)))
      (dSeq (dDrop (dMt (rMt K [⟨"list", "list.append", rAppend⟩]) (dVar 3) (dCons (dTup (dCons (dBin (rIxD K) (dVar 2) (dVar 5)) (dCons (dFn (spE (sp_zad K t) []) (dCons (dBin (rAddD K) (dBin (rAddD K) (dVar 0) (dVar 5)) (dC (.int 1))) (dCons (dVar 6) dNil))) dNil))) dNil)))
      dNext)) dNext)
    dNext))))
  (dSeq (dRet (dVar 3))
  dNext)))))
theorem rd_zn (K : PySem.W.Frag) (t : Adr) : wSs 40 (defG K N_zn (defScope s_zn) (gb_2 K t) bl) (defBody s_zn) = t_zn K t := by kernel_rfl
theorem sc_zn : FnScope N_zn P_zn (defScope s_zn) := ⟨rfl, rfl, rfl, by decide +kernel, rfl, by decide +kernel, by decide +kernel⟩
theorem vi_zn : visOk N_zn (defScope s_zn) = true := by decide +kernel
def t_zaf (K : PySem.W.Frag) (t : Adr) : DS :=
  (dSeq (dSet 1 (dLst (dCons (dLst dNil) dNil)))
  (dSeq (dFor (iVal K (dVar 0)) (gdT K 2 [(gdN 2), (gdN 3)]) (dSeq (dSet 4 (dLst dNil))
    (dSeq (dFor (iVal K (dVar 1)) (gdN 5) (dSeq (dFor (iVal K (dVar 3)) (gdN 6) (dSeq (dDrop (dMt (rMt K [⟨"list", "list.append", rAppend⟩]) (dVar 4) (dCons (dBin (rAddD K) (dVar 5) (dLst (dCons (dVar 6) dNil))) dNil)))
        dNext))
      dNext))
    (dSeq (dSet 1 (dVar 4))
    dNext))))
  (dSeq (dRet (dVar 1))
  dNext)))
theorem rd_zaf (K : PySem.W.Frag) (t : Adr) : wSs 40 (defG K N_zaf (defScope s_zaf) (gb_0 K t) bl) (defBody s_zaf) = t_zaf K t := by kernel_rfl
theorem sc_zaf : FnScope N_zaf P_zaf (defScope s_zaf) := ⟨rfl, rfl, rfl, by decide +kernel, rfl, by decide +kernel, by decide +kernel⟩
theorem vi_zaf : visOk N_zaf (defScope s_zaf) = true := by decide +kernel
def t_zab (K : PySem.W.Frag) (t : Adr) : DS :=
  (dSeq (dSet 4 (dComp [none, none] (iVal K (dVar 0)) (gdT K 2 [(gdN 0), (gdN 1)]) dYes (dTup (dCons (dVar 0) (dCons (dFn (fun vs H Q _ => (rListOf K) vs H Q) (dCons (dVar 1) dNil)) dNil)))))
  (dSeq (dSet 5 (dFn (mkC t.c_zax (some (i_zs K t)) 0) (dCons (dVar 4) dNil)))
  (dSeq (dIf (dTst (dBin (rEqD K false) (dBin rModD (dVar 1) (dC (.int 3))) (dC (.int 1)))) (dSeq (dSet 5 (dFn (mkC t.c_zax (some (i_zs K t)) 1) (dCons (dVar 4) (dCons (dC .non) dNil))))
    dNext) dNext)
  (dSeq (dIf (dTst (dBin (rEqD K false) (dBin rModD (dVar 1) (dC (.int 3))) (dC (.int 2)))) (dSeq (dSet 5 (dFn (mkC t.c_zax (some (i_zs K t)) 1) (dCons (dVar 4) (dCons (dLst dNil) dNil))))
    dNext) dNext)
  (dSeq (dFor (iVal K (dVar 4)) (gdT K 2 [(gdN 2), (gdN 3)]) (dSeq (dDrop (dMt (rMt K [⟨"list", "list.clear", rClear⟩]) (dVar 3) dNil))
    dNext))
  (dSeq (dDrop (dMt (rMt K [⟨"list", "list.clear", rClear⟩]) (dVar 4) dNil))
  (dSeq (dRet (dVar 5))
  dNext)))))))
theorem rd_zab (K : PySem.W.Frag) (t : Adr) : wSs 40 (defG K N_zab (defScope s_zab) (gb_9 K t) bl) (defBody s_zab) = t_zab K t := by kernel_rfl
theorem sc_zab : FnScope N_zab P_zab (defScope s_zab) := ⟨rfl, rfl, rfl, by decide +kernel, rfl, by decide +kernel, by decide +kernel⟩
theorem vi_zab : visOk N_zab (defScope s_zab) = true := by decide +kernel
def t_zag (K : PySem.W.Frag) (t : Adr) : DS :=
  (dSeq (dSet 2 (dC .non))
  (dSeq (dTry K (dSeq (dSet 2 (dOwn "told" 1 (mt_told K t) (dVar 0) (dCons (dVar 1) dNil)))
    dNext) [(t.c_zav, (dSeq (dSet 2 (dC (.str "none")))
    dNext))])
  (dSeq (dRet (dVar 2))
  dNext)))
theorem rd_zag (K : PySem.W.Frag) (t : Adr) : wSs 40 (defG K N_zag (defScope s_zag) (gb_3 K t) bl) (defBody s_zag) = t_zag K t := by kernel_rfl
theorem sc_zag : FnScope N_zag P_zag (defScope s_zag) := ⟨rfl, rfl, rfl, by decide +kernel, rfl, by decide +kernel, by decide +kernel⟩
theorem vi_zag : visOk N_zag (defScope s_zag) = true := by decide +kernel
def t_zaj (K : PySem.W.Frag) (t : Adr) : DS :=
  (dSeq (dSet 2 (dC .non))
  (dSeq (dTry K (dSeq (dSet 2 (dOwn "barred" 1 (mt_barred K t) (dVar 0) (dCons (dVar 1) dNil)))
    dNext) [(t.c_zav, (dSeq (dSet 2 (dC (.str "none")))
    dNext))])
  (dSeq (dRet (dVar 2))
  dNext)))
theorem rd_zaj (K : PySem.W.Frag) (t : Adr) : wSs 40 (defG K N_zaj (defScope s_zaj) (gb_3 K t) bl) (defBody s_zaj) = t_zaj K t := by kernel_rfl
theorem sc_zaj : FnScope N_zaj P_zaj (defScope s_zaj) := ⟨rfl, rfl, rfl, by decide +kernel, rfl, by decide +kernel, by decide +kernel⟩
theorem vi_zaj : visOk N_zaj (defScope s_zaj) = true := by decide +kernel
def t_zx (K : PySem.W.Frag) (t : Adr) : DS :=
  (dSeq (dSet 2 (dC .non))
  (dSeq (dTry K (dSeq (dSet 2 (dOwn "number_of" 1 (mt_number_of K t) (dVar 0) (dCons (dVar 1) dNil)))
    dNext) [(t.c_zav, (dSeq (dSet 2 (dC (.str "none")))
    dNext))])
  (dSeq (dRet (dVar 2))
  dNext)))
theorem rd_zx (K : PySem.W.Frag) (t : Adr) : wSs 40 (defG K N_zx (defScope s_zx) (gb_1 K t) bl) (defBody s_zx) = t_zx K t := by kernel_rfl
theorem sc_zx : FnScope N_zx P_zx (defScope s_zx) := ⟨rfl, rfl, rfl, by decide +kernel, rfl, by decide +kernel, by decide +kernel⟩
theorem vi_zx : visOk N_zx (defScope s_zx) = true := by decide +kernel
def t_zr (K : PySem.W.Frag) (t : Adr) : DS :=
  (dSeq (dSet 3 (dBin (rIxD K) (dVar 1) (dBin rModD (dVar 2) (dFn (fun vs H Q _ => (rLen K) vs H Q) (dCons (dVar 1) dNil)))))
  (dSeq (dSet 4 (dBin rModD (dBin rFdivD (dVar 2) (dFn (fun vs H Q _ => (rLen K) vs H Q) (dCons (dVar 1) dNil))) (dFn (fun vs H Q _ => (rLen K) vs H Q) (dCons (dVar 3) dNil))))
  (dSeq (dSet 5 (dLst (dCons (dSl K (dVar 3) dPartN (dPart (dUn rNegD (dC (.int 1))))) (dCons (dBin (rAddD K) (dVar 3) (dSl K (dVar 3) dPartN (dPart (dC (.int 1))))) (dCons (dBin (rAddD K) (dBin (rAddD K) (dSl K (dVar 3) dPartN (dPart (dVar 4))) (dLst (dCons (dBin (rAddD K) (dC (.str "no.")) (dBin (rIxD K) (dVar 3) (dVar 4))) dNil))) (dSl K (dVar 3) (dPart (dBin (rAddD K) (dVar 4) (dC (.int 1)))) dPartN)) (dCons (dLst dNil) dNil))))))
  (dSeq (dFor (iVal K (dVar 5)) (gdN 6) (dSeq (dIf (dTst (dBin (rEqD K true) (dFn (spE (sp_zx K t) []) (dCons (dVar 0) (dCons (dVar 6) dNil))) (dC (.str "none")))) (dSeq (dRet (dC (.bl false)))
      dNext) dNext)
    dNext))
  (dSeq (dFor (iVal K (dLst (dCons (dUn rNegD (dC (.int 1))) (dCons (dFn (fun vs H Q _ => (rLen K) vs H Q) (dCons (dVar 1) dNil)) (dCons (dBin (rAddD K) (dFn (fun vs H Q _ => (rLen K) vs H Q) (dCons (dVar 1) dNil)) (dBin rModD (dVar 2) (dBin rPowD (dC (.int 10)) (dC (.int 30))))) (dCons (dC (.bl true)) (dCons (dC .non) (dCons (dC (.str "0")) (dCons (dBin rSubD (dUn rNegD (dC (.int 1))) (dBin rModD (dVar 2) (dBin rPowD (dC (.int 10)) (dC (.int 9))))) dNil))))))))) (gdN 7) (dSeq (dIf (dOr (dTst (dBin (rEqD K true) (dFn (spE (sp_zag K t) []) (dCons (dVar 0) (dCons (dVar 7) dNil))) (dC (.str "none")))) (dTst (dBin (rEqD K true) (dFn (spE (sp_zaj K t) []) (dCons (dVar 0) (dCons (dVar 7) dNil))) (dC (.str "none"))))) (dSeq (dRet (dC (.bl false)))
      dNext) dNext)
    dNext))
  (dSeq (dRet (dC (.bl true)))
  dNext))))))
theorem rd_zr (K : PySem.W.Frag) (t : Adr) : wSs 40 (defG K N_zr (defScope s_zr) (gb_4 K t) bl) (defBody s_zr) = t_zr K t := by kernel_rfl
theorem sc_zr : FnScope N_zr P_zr (defScope s_zr) := ⟨rfl, rfl, rfl, by decide +kernel, rfl, by decide +kernel, by decide +kernel⟩
theorem vi_zr : visOk N_zr (defScope s_zr) = true := by decide +kernel
def t_zac (K : PySem.W.Frag) (t : Adr) : DS :=
  (dSeq (dRet (dAndV K (dFn (fun vs H Q _ => (rIsi K) vs H Q) (dCons (dVar 0) (dCons (dC (.ty "int")) dNil))) (dAndV K (dNotV K (dFn (fun vs H Q _ => (rIsi K) vs H Q) (dCons (dVar 0) (dCons (dC (.ty "bool")) dNil)))) (dBin (rEqD K false) (dVar 0) (dVar 1)))))
  dNext)
theorem rd_zac (K : PySem.W.Frag) (t : Adr) : wSs 40 (defG K N_zac (defScope s_zac) (gb_0 K t) bl) (defBody s_zac) = t_zac K t := by kernel_rfl
theorem sc_zac : FnScope N_zac P_zac (defScope s_zac) := ⟨rfl, rfl, rfl, by decide +kernel, rfl, by decide +kernel, by decide +kernel⟩
theorem vi_zac : visOk N_zac (defScope s_zac) = true := by decide +kernel
def t_zan (K : PySem.W.Frag) (t : Adr) : DS :=
  (dSeq (dSet 1 (dFn (spE (sp_zq K t) []) (dCons (dVar 0) (dCons (dC (.int 0)) dNil))))
  (dSeq (dSet 2 (dFn (spE (sp_zn K t) []) (dCons (dVar 1) (dCons (dBin (rIxD K) (dLst (dCons (dC (.int 24)) (dCons (dC (.int 256)) dNil))) (dFn (fun vs H Q _ => rInt vs H Q) (dCons (dBin (rEqD K false) (dBin rModD (dFn (spE (sp_zq K t) []) (dCons (dVar 0) (dCons (dC (.int 1)) dNil))) (dC (.int 8))) (dC (.int 1))) dNil))) dNil))))
  (dSeq (dSet 3 (dFn (spE (sp_zaf K t) []) (dCons (dVar 2) dNil)))
  (dSeq (dSet 4 (dFn (spE (sp_zab K t) []) (dCons (dVar 2) (dCons (dBin rFdivD (dFn (spE (sp_zq K t) []) (dCons (dVar 0) (dCons (dC (.int 1)) dNil))) (dC (.int 8))) dNil))))
  (dSeq (dSet 5 (dFn (mkC t.c_zax (some (i_zs K t)) 1) (dCons (dLst (dCons (dTup (dCons (dC (.str "x")) (dCons (dLst (dCons (dC (.str "a")) (dCons (dC (.str "b")) dNil))) dNil))) dNil)) (dCons (dLst (dCons (dDisp [((dC (.str "x")), (dLst (dCons (dC (.str "a")) dNil)))]) dNil)) dNil))))
  (dSeq (dSet 6 (dC (.int 0)))
  (dSeq (dFor (iEn K (dCons (dVar 3) dNil)) (gdT K 2 [(gdN 7), (gdN 8)]) (dSeq (dSet 6 (dBin (rAddD K) (dVar 6) (dBin rShlD (dC (.int 1)) (dVar 7))))
    (dSeq (dSet 9 (dOwn "told" 1 (mt_told K t) (dVar 4) (dCons (dVar 7) dNil)))
    (dSeq (dIf (dOr (dNot (dTru K (dFn (fun vs H Q _ => (rIsi K) vs H Q) (dCons (dVar 9) (dCons (dC (.ty "tuple")) dNil))))) (dTst (dBin (rEqD K true) (dFn (fun vs H Q _ => (rListOf K) vs H Q) (dCons (dVar 9) dNil)) (dVar 8)))) (dSeq (dRet (dC (.bl false)))
      dNext) dNext)
    (dSeq (dIf (dOr (dNot (dTru K (dFn (spE (sp_zac K t) []) (dCons (dOwn "number_of" 1 (mt_number_of K t) (dVar 4) (dCons (dFn (fun vs H Q _ => (rListOf K) vs H Q) (dCons (dVar 8) dNil)) dNil)) (dCons (dVar 7) dNil))))) (dTst (dBin (rIsD true) (dOwn "barred" 1 (mt_barred K t) (dVar 4) (dCons (dVar 7) dNil)) (dC .non)))) (dSeq (dRet (dC (.bl false)))
      dNext) dNext)
    dNext)))))
  (dSeq (dSet 10 (dOwn "switches" 0 (mt_switches K t) (dVar 4) dNil))
  (dSeq (dIf (dOr (dNot (dTru K (dFn (fun vs H Q _ => (rIsi K) vs H Q) (dCons (dVar 10) (dCons (dC (.ty "list")) dNil))))) (dTst (dBin (rEqD K true) (dVar 10) (dComp [none, none] (iVal K (dVar 2)) (gdT K 2 [(gdN 0), (gdN 1)]) dYes (dTup (dCons (dVar 0) (dCons (dFn (fun vs H Q _ => (rTupOf K) vs H Q) (dCons (dVar 1) dNil)) dNil))))))) (dSeq (dRet (dC (.bl false)))
    dNext) dNext)
  (dSeq (dDrop (dMt (rMt K [⟨"list", "list.clear", rClear⟩]) (dVar 10) dNil))
  (dSeq (dIf (dOr (dTst (dBin (rEqD K true) (dFn (fun vs H Q _ => (rLen K) vs H Q) (dCons (dOwn "switches" 0 (mt_switches K t) (dVar 4) dNil) dNil)) (dFn (fun vs H Q _ => (rLen K) vs H Q) (dCons (dVar 2) dNil)))) (dTst (dBin (rEqD K true) (dOwn "rules" 0 (mt_rules K t) (dVar 4) dNil) (dLst dNil)))) (dSeq (dRet (dC (.bl false)))
    dNext) dNext)
  (dSeq (dIf (dOr (dNot (dTru K (dFn (spE (sp_zac K t) []) (dCons (dOwn "all_choices" 0 (mt_all_choices K t) (dVar 4) dNil) (dCons (dVar 6) dNil))))) (dNot (dTru K (dFn (spE (sp_zac K t) []) (dCons (dOwn "allowed" 0 (mt_allowed K t) (dVar 4) dNil) (dCons (dVar 6) dNil)))))) (dSeq (dRet (dC (.bl false)))
    dNext) dNext)
  (dSeq (dIf (dOr (dNot (dTru K (dFn (spE (sp_zac K t) []) (dCons (dOwn "many" 0 (mt_many K t) (dVar 4) dNil) (dCons (dFn (fun vs H Q _ => (rLen K) vs H Q) (dCons (dVar 3) dNil)) dNil))))) (dOr (dTst (dBin (rEqD K true) (dOwn "allowed" 0 (mt_allowed K t) (dVar 5) dNil) (dC (.int 2)))) (dTst (dBin (rEqD K true) (dOwn "many" 0 (mt_many K t) (dVar 5) dNil) (dC (.int 2)))))) (dSeq (dRet (dC (.bl false)))
    dNext) dNext)
  (dSeq (dRet (dFn (spE (sp_zr K t) []) (dCons (dVar 4) (dCons (dVar 3) (dCons (dFn (spE (sp_zq K t) []) (dCons (dVar 0) (dCons (dC (.int 2)) dNil))) dNil)))))
  dNext))))))))))))))
theorem rd_zan (K : PySem.W.Frag) (t : Adr) : wSs 40 (defG K N_zan (defScope s_zan) (gb_10 K t) bl) (defBody s_zan) = t_zan K t := by kernel_rfl
theorem sc_zan : FnScope N_zan P_zan (defScope s_zan) := ⟨rfl, rfl, rfl, by decide +kernel, rfl, by decide +kernel, by decide +kernel⟩
theorem vi_zan : visOk N_zan (defScope s_zan) = true := by decide +kernel
end K03
set_option maxRecDepth 100000
set_option maxHeartbeats 4000000
namespace K03
open PySem L2 Pn
section
variable {P : Program} {w : World} {K : PySem.W.Frag} {mg : Str → Option Value} {base : Heap} {t : Adr}
theorem ok_zah {f : Addr} {fd : FuncData} (Z : Facts K t) (F : FunD K "union_of" "union_of" s_zah f fd .none) (T : Tab P w K mg base 0 (gb_0 K t) bl) : FnOk P w K mg base CX0 1 f fd P_zah (sp_zah K t) := by
  refine F.okW0 sc_zah vi_zah T (rd_zah K t) (fun vs H Q E h => ?_) (fun vs H Q E h => ?_)
  · obtain ⟨a, ms, rfl, _⟩ := h; rfl
  · obtain ⟨a, ms, rfl, hS, k⟩ := h
    refine .inl ⟨⟨_, hS⟩, ?_⟩
    refine for_by (yl_list (ms.map V.int)) (fun i σ H' => (∃ v2, σ = [some (.ref a), some (.int (unionM (ms.take i))), v2]) ∧ H' = H) ⟨⟨_, rfl⟩, rfl⟩ (fun i σ H' _ q => q.2 ▸ hS) ?_ ?_
    · rintro i x σ H' hx ⟨⟨v2, rfl⟩, rfl⟩
      obtain ⟨m, hm, rfl⟩ := get_map hx
      have e : unionM (ms.take (i + 1)) = Builtin.bitOr (unionM (ms.take i)) m := foldl_take hm _ _
      exact ⟨⟨_, congrArg (fun z => [some (V.ref a), some (V.int z), some (V.int m)]) e.symm⟩, rfl⟩
    · rintro σ H' ⟨⟨v2, rfl⟩, rfl⟩
      rw [List.length_map, List.take_length]
      exact .inl k
theorem ok_zam {f : Addr} {fd : FuncData} (Z : Facts K t) (F : FunD K "set_of" "set_of" s_zam f fd .none) (T : Tab P w K mg base 0 (gb_0 K t) bl) : FnOk P w K mg base CX0 1 f fd P_zam (sp_zam K t) := by
  refine F.okW0 sc_zam vi_zam T (rd_zam K t) (fun vs H Q E h => ?_) (fun vs H Q E h => ?_)
  · obtain ⟨a, ms, rfl, _⟩ := h; rfl
  · obtain ⟨a, ms, rfl, hS, hb, k⟩ := h
    refine .inl ⟨⟨_, hS⟩, ?_⟩
    refine for_by (yl_list (ms.map fun n : Nat => V.int (n : Int))) (fun i σ H' => (∃ v2, σ = [some (.ref a), some (.int (setM (ms.take i))), v2]) ∧ H' = H) ⟨⟨_, rfl⟩, rfl⟩ (fun i σ H' _ q => q.2 ▸ hS) ?_ ?_
    · rintro i x σ H' hx ⟨⟨v2, rfl⟩, rfl⟩
      obtain ⟨m, hm, rfl⟩ := get_map hx
      have e : setM (ms.take (i + 1)) = Builtin.bitOr (setM (ms.take i)) (1 * 2 ^ ((m : Int)).toNat) := by
        rw [Int.one_mul, Int.toNat_natCast]
        exact foldl_take hm _ _
      have hm2 := hb m (List.mem_of_getElem? hm)
      refine ⟨⟨by omega, by omega, by decide⟩, ?_⟩
      exact ⟨⟨_, congrArg (fun z => [some (V.ref a), some (V.int z), some (V.int (m : Int))]) e.symm⟩, rfl⟩
    · rintro σ H' ⟨⟨v2, rfl⟩, rfl⟩
      rw [List.length_map, List.take_length]
      exact .inl k
theorem ok_zt {f : Addr} {fd : FuncData} (Z : Facts K t) (F : FunD K "many" "Panel.many" s_zt f fd .none) (T : Tab P w K mg base 0 (gb_0 K t) bl) : FnOk P w K mg base CX0 1 f fd P_zt (sp_zt K t) := by
  refine F.okW0 sc_zt vi_zt T (rd_zt K t) (fun vs H Q E h => ?_) (fun vs H Q E h => ?_)
  · obtain ⟨p, l, s, sw, rfl, _⟩ := h; rfl
  · obtain ⟨p, l, s, sw, rfl, ⟨dx, fs, ⟨_, hp⟩, hl, hs, hm⟩, ⟨ds, e, ⟨_, o⟩, _⟩, k⟩ := h
    refine Or.inl ⟨_, _, _, _, hp, Z.pf.cl, (Z.pf.na _ (by simp)), hl, (.inl ⟨_, .inl (SqL.of o), ?_⟩)⟩
    have el : (ds.map fun x => V.ref x.2).length = (rowsS sw).length := by rw [← e]; simp
    rw [el]
    exact k
theorem ok_zc {f : Addr} {fd : FuncData} (Z : Facts K t) (F : FunD K "all_choices" "Panel.all_choices" s_zc f fd .none) (T : Tab P w K mg base 1 (gb_1 K t) bl) : FnOk P w K mg base CX0 2 f fd P_zc (sp_zc K t) := by
  refine F.okW0 sc_zc vi_zc T (rd_zc K t) (fun vs H Q E h => ?_) (fun vs H Q E h => ?_)
  · obtain ⟨p, l, s, sw, rfl, _⟩ := h; rfl
  · obtain ⟨p, l, s, sw, rfl, hs, ht, hn, k⟩ := h
    obtain ⟨dx, fs, ⟨_, hp⟩, _, _, hm⟩ := id hs
    refine ⟨p, dx, fs, ⟨t.c_zax, i_zt K t⟩, rfl, .head _, hp, hm _ (by decide), ⟨Nat.le_of_ble_eq_true rfl, Nat.le_of_ble_eq_true rfl⟩, ?_⟩
    refine ⟨p, l, s, sw, rfl, hs, ht, ⟨by omega, by omega, by decide⟩, ?_⟩
    have e : 1 * 2 ^ (((rowsS sw).length : Int)).toNat - 1 = allM sw := by rw [Int.one_mul, Int.toNat_natCast]; rfl
    show Q (.int (1 * 2 ^ (((rowsS sw).length : Int)).toNat - 1)) H
    rw [e]
    exact k
theorem ok_zw {f : Addr} {fd : FuncData} (Z : Facts K t) (F : FunD K "has_length" "has_length" s_zw f fd .none) (T : Tab P w K mg base 0 (gb_0 K t) bl) : FnOk P w K mg base CX0 1 f fd P_zw (sp_zw K t) := by
  refine F.okW0 sc_zw vi_zw T (rd_zw K t) (fun vs H Q E h => ?_) (fun vs H Q E h => ?_)
  · obtain ⟨z, lo, hi, rfl, _⟩ := h; rfl
  · obtain ⟨z, lo, hi, rfl, hz, k⟩ := h
    exact ⟨rfl, Nat.le_trans hz (by decide), chain_int k⟩
theorem ok_zz {f : Addr} {fd : FuncData} (Z : Facts K t) (F : FunD K "is_letter" "is_letter" s_zz f fd .none) (T : Tab P w K mg base 0 (gb_0 K t) bl) : FnOk P w K mg base CX0 1 f fd P_zz (sp_zz K t) := by
  refine F.okW0 sc_zz vi_zz T (rd_zz K t) (fun vs H Q E h => ?_) (fun vs H Q E h => ?_)
  · obtain ⟨x, rfl, _⟩ := h; rfl
  · obtain ⟨c, rfl, k⟩ := h
    dsimp only [t_zz, dSeq, dRet]
    exact dch_str (s1 := "a") (s2 := "z") (c := c) (i := 0) (a := 97) (b := 122) (by decide +kernel) (by decide +kernel) (by rfl) k
theorem ok_zai {f : Addr} {fd : FuncData} (Z : Facts K t) (F : FunD K "is_word" "is_word" s_zai f fd .none) (T : Tab P w K mg base 1 (gb_1 K t) bl) : FnOk P w K mg base CX0 2 f fd P_zai (sp_zai K t) := by
  refine F.okW0 sc_zai vi_zai T (rd_zai K t) (fun vs H Q E h => ?_) (fun vs H Q E h => ?_)
  · obtain ⟨x, rfl, _⟩ := h; rfl
  · obtain ⟨z, rfl, hz, k⟩ := h
    have hl : z.length ≤ 1000 := Nat.le_trans hz.2.1 (by decide)
    refine ⟨z, 1, 8, rfl, hl, ?_⟩
    have e : (decide (1 ≤ (z.length : Int)) && decide ((z.length : Int) ≤ 8)) = true := by
      have h1 := hz.1
      have h2 := hz.2.1
      simp
      omega
    refine iteTe e ?_
    refine all_signs (p := letterC) hl (fun c σ H1 Q1 hσ q => ?_) fun H' S => ?_
    · match σ, hσ with
      | [_], _ => exact ⟨c, rfl, q⟩
    · rw [hz.2.2]; exact k H' S
theorem ok_zf {f : Addr} {fd : FuncData} (Z : Facts K t) (F : FunD K "are_unlike_words" "are_unlike_words" s_zf f fd .none) (T : Tab P w K mg base 2 (gb_2 K t) bl) : FnOk P w K mg base CX0 3 f fd P_zf (sp_zf K t) := by
  refine F.okW0 sc_zf vi_zf T (rd_zf K t) (fun vs H Q E h => ?_) (fun vs H Q E h => ?_)
  · obtain ⟨a, l, rfl, _⟩ := h; rfl
  · obtain ⟨a, l, rfl, hS, hl, k⟩ := h
    refine ⟨_, true, .sqL rfl hS rfl, rfl, ?_⟩
    refine .inl ⟨⟨_, hS⟩, ?_⟩
    refine all_list (K := K) (σ := [none]) (yl_list (l.map V.str)) (fun σ => σ.length = 1) (fun H1 S => S.seqL hS) ?_ rfl (fun σ x hσ => by rw [List.length_set]; exact hσ) ?_ fun D1 H1 S1 q1 => ⟨_, q1, ?_⟩
    · rw [List.length_map]; exact Nat.lt_of_le_of_lt hl.2.2 (by decide)
    · intro x σ H1 Q1 hx hσ S q
      obtain ⟨z, hz, rfl⟩ := List.mem_map.mp hx
      match σ, hσ with
      | [_], _ => exact ⟨z, rfl, hl.1 z hz, q⟩
    · rw [all_yes]
      refine ⟨l, S1.seqL hS, Nat.lt_of_le_of_lt hl.2.2 (by decide), .inl ⟨_, .inl (S1.seqL hS), ?_⟩⟩
      rw [metK_nd hl.2.1, List.length_map]
      have e : decide ((l.length : Int) = (l.length : Int)) = true := by simp
      show Q (.bl (decide ((l.length : Int) = (l.length : Int)))) H1
      rw [e]
      exact k H1 S1
theorem ok_zae {f : Addr} {fd : FuncData} (Z : Facts K t) (F : FunD K "is_whole" "is_whole" s_zae f fd .none) (T : Tab P w K mg base 0 (gb_0 K t) bl) : FnOk P w K mg base CX0 1 f fd P_zae (sp_zae K t) := by
  refine F.okW0 sc_zae vi_zae T (rd_zae K t) (fun vs H Q E h => ?_) (fun vs H Q E h => ?_)
  · obtain ⟨v, rfl, _⟩ := h; rfl
  · obtain ⟨v, rfl, hf, k⟩ := h
    cases v with
    | int i => exact ⟨rfl, rfl, k⟩
    | bl b => exact ⟨rfl, rfl, k⟩
    | str z => exact ⟨rfl, k⟩
    | non => exact ⟨rfl, k⟩
    | _ => cases hf
theorem ok_zal {f : Addr} {fd : FuncData} (Z : Facts K t) (F : FunD K "in_set" "in_set" s_zal f fd .none) (T : Tab P w K mg base 0 (gb_0 K t) bl) : FnOk P w K mg base CX0 1 f fd P_zal (sp_zal K t) := by
  refine F.okW0 sc_zal vi_zal T (rd_zal K t) (fun vs H Q E h => ?_) (fun vs H Q E h => ?_)
  · obtain ⟨c, n, rfl, _⟩ := h; rfl
  · obtain ⟨c, n, rfl, hn, k⟩ := h
    exact ⟨hn, k⟩
theorem ok_zk {f : Addr} {fd : FuncData} (Z : Facts K t) (F : FunD K "allowed" "Panel.allowed" s_zk f fd .none) (T : Tab P w K mg base 0 (gb_0 K t) bl) : FnOk P w K mg base CX0 1 f fd P_zk (sp_zk K t) := by
  refine F.okW0 sc_zk vi_zk T (rd_zk K t) (fun vs H Q E h => ?_) (fun vs H Q E h => ?_)
  · obtain ⟨p, sw, rules, rfl, _⟩ := h; rfl
  · obtain ⟨p, sw, rules, rfl, ⟨dx, d, l, n, s, kk, b, h⟩, k⟩ := h
    exact Or.inl ⟨_, _, _, _, h.ins.2, Z.pf.cl, (Z.pf.na _ (by simp)), rfl, k⟩
theorem ok_zac {f : Addr} {fd : FuncData} (Z : Facts K t) (F : FunD K "_law_whole" "_law_whole" s_zac f fd .none) (T : Tab P w K mg base 0 (gb_0 K t) bl) : FnOk P w K mg base CX0 1 f fd P_zac (sp_zac K t) := by
  refine F.okW0 sc_zac vi_zac T (rd_zac K t) (fun vs H Q E h => ?_) (fun vs H Q E h => ?_)
  · obtain ⟨i, d, rfl, _⟩ := h; rfl
  · obtain ⟨i, d, rfl, k⟩ := h
    exact ⟨rfl, rfl, k⟩
theorem ok_zq {f : Addr} {fd : FuncData} (Z : Facts K t) (F : FunD K "_law_cell_at" "_law_cell_at" s_zq f fd .none) (T : Tab P w K mg base 0 (gb_0 K t) bl) : FnOk P w K mg base CX0 1 f fd P_zq (sp_zq K t) := by
  refine F.okW0 sc_zq vi_zq T (rd_zq K t) (fun vs H Q E h => ?_) (fun vs H Q E h => ?_)
  · obtain ⟨a, ns, k, rfl, _⟩ := h; rfl
  · obtain ⟨a, ns, k, rfl, hS, q⟩ := h
    refine .inl ⟨_, .inl hS, ?_⟩
    refine ite2 (fun e => ?_) (fun e => q 0)
    have e : (k : Int) < ((ns.map V.int).length : Int) := by simpa using e
    have hk : k < ns.length := by rw [List.length_map] at e; omega
    exact ⟨_, _, .inl hS, atI_nat (j := k) (by rw [List.getElem?_map, List.getElem?_eq_getElem hk]; rfl), q _⟩
end
end K03
set_option maxRecDepth 100000
set_option maxHeartbeats 4000000
namespace K03
open PySem L2 Pn
section
variable {P : Program} {w : World} {K : PySem.W.Frag} {mg : Str → Option Value} {base : Heap} {t : Adr}
theorem ok_zaa {f : Addr} {fd : FuncData} (Z : Facts K t) (F : FunD K "is_switch" "is_switch" s_zaa f fd .none) (T : Tab P w K mg base 3 (gb_3 K t) bl) : FnOk P w K mg base CX0 4 f fd P_zaa (sp_zaa K t) := by
  refine F.okW0 sc_zaa vi_zaa T (rd_zaa K t) (fun vs H Q E h => ?_) (fun vs H Q E h => ?_)
  · obtain ⟨a, b, wd, l, rfl, _⟩ := h; rfl
  · obtain ⟨a, b, wd, l, rfl, ha, hb, hw, hl, k⟩ := h
    have qa := SqT.of (K := K) ha
    have qb := SqL.of (K := K) hb
    refine ⟨_, true, .sqT rfl qa rfl, rfl, ?_⟩
    refine .inl ⟨_, .inr qa, ?_⟩
    refine ⟨_, _, .inr qa, rfl, ?_⟩
    refine ⟨wd, rfl, hw, fun H1 S1 => ?_⟩
    refine ⟨_, _, .inr (S1.seqT qa), rfl, ?_⟩
    refine ⟨b, l, rfl, S1.seqL qb, hl.1, fun H2 S2 => ?_⟩
    have S := S1.trans S2
    refine ⟨_, _, .inr (S.seqT qa), rfl, .inl ⟨_, .inl (S.seqL qb), ?_⟩⟩
    rw [List.length_map]
    have e : (decide (2 ≤ (l.length : Int)) && decide ((l.length : Int) ≤ 4)) = true := by
      have h1 := hl.2.1
      have h2 := hl.2.2
      simp
      omega
    exact chain_int (e ▸ k H2 S)
theorem new_key {es : List ((Str × List Str) × Addr)} {sw : Sw} {i : Nat} {e : Str × List Str} (he : es.map (·.1) = sw.take i) (hi : sw[i]? = some e) (nd : (sw.map (·.1)).Nodup) : valV (es.map kR) (.inr e.1) = none := by
  refine valV_none ?_
  rw [keys_kR, he]
  intro hm
  obtain ⟨w, hw, e2⟩ := List.mem_map.mp hm
  cases e2
  have h1 : (sw.map (·.1))[i]? = some e.1 := by rw [List.getElem?_map, hi]; rfl
  rw [List.map_take] at hw
  obtain ⟨j, hj, e3⟩ := List.mem_iff_getElem.mp hw
  rw [List.length_take] at hj
  rw [List.getElem_take] at e3
  have hi2 := lt_of_get h1
  have e4 : (sw.map (·.1))[i] = e.1 := by
    have := List.getElem?_eq_getElem hi2
    rw [this] at h1
    exact Option.some.inj h1
  have := (List.getElem_inj (i := j) (j := i) (h₀ := by omega) (h₁ := hi2) nd).mp (by rw [e3, e4])
  omega
theorem kR_snoc {es : List ((Str × List Str) × Addr)} {e : Str × List Str} {a : Addr} (h : valV (es.map kR) (.inr e.1) = none) : putK (es.map kR) (.inr e.1) (.ref a) = (es ++ [(e, a)]).map kR := by
  rw [putK_new _ h, List.map_append]
  rfl
theorem es_len {α β : Type} {es : List (α × β)} {sw : List α} {i : Nat} (h : es.map (·.1) = sw.take i) : es.length ≤ sw.length := by
  have := congrArg List.length h
  rw [List.length_map, List.length_take] at this
  omega
theorem es_snoc {α β : Type} {es : List (α × β)} {sw : List α} {i : Nat} {e : α} {a : β} (h : es.map (·.1) = sw.take i) (hi : sw[i]? = some e) : (es ++ [(e, a)]).map (·.1) = sw.take (i + 1) := by
  rw [List.map_append, h, List.take_add_one, hi]
  rfl
theorem ok_zl {f : Addr} {fd : FuncData} (Z : Facts K t) (F : FunD K "read_switches" "read_switches" s_zl f fd .none) (T : Tab P w K mg base 4 (gb_4 K t) bl) : FnOk P w K mg base CX0 5 f fd P_zl (sp_zl K t) := by
  refine F.okW0 sc_zl vi_zl T (rd_zl K t) (fun vs H Q E h => ?_) (fun vs H Q E h => ?_)
  · obtain ⟨a, sw, rfl, _⟩ := h; rfl
  · obtain ⟨a, sw, rfl, ⟨ds, ed, ⟨_, oa⟩, hd⟩, hw, k⟩ := h
    have ql := SqL.of (K := K) oa
    have el : (ds.map fun x => V.ref x.2).length = sw.length := by rw [← ed]; simp
    refine ⟨_, true, .sqL rfl ql rfl, rfl, ?_⟩
    refine .inl ⟨_, .inl ql, ?_⟩
    rw [el]
    have e1 : decide (1 ≤ (sw.length : Int)) = true := by have := hw.1; simp; omega
    have e2 : decide ((sw.length : Int) ≤ 5) = true := by have := hw.2.1; simp; omega
    refine iteTe e1 (iteFe (by rw [e2]; rfl) ?_)
    intro d hd0
    refine .inl (.inl ⟨⟨_, (Same.upd hd0).seqL ql⟩, ?_⟩)
    refine for_by (yl_list (ds.map fun x => V.ref x.2)) (fun i σ H' => (∃ v3, σ = [some (.ref a), some (.ref d), some (.int (prodS (sw.take i) : Nat)), v3]) ∧ Same H H' ∧
        ∃ es : List ((Str × List Str) × Addr), es.map (·.1) = sw.take i ∧ H' d = some (.dK (es.map kR)) ∧ ∀ x ∈ es, H x.2 = none ∧ H' x.2 = some (tupO x.1.2))
      ⟨⟨_, rfl⟩, Same.upd hd0, [], rfl, upd_same, fun x hx => by cases hx⟩ (fun i σ H' _ q => q.2.1.seqL ql) ?_ ?_
    · rintro i x σ H1 hx ⟨⟨v3, rfl⟩, S1, es, ee, e1d, he⟩
      obtain ⟨⟨⟨e, la⟩, ta⟩, hi, rfl⟩ := get_map hx
      have hi2 : sw[i]? = some e := by rw [← ed, List.getElem?_map, hi]; rfl
      obtain ⟨⟨_, h1⟩, _, h2⟩ := hd _ (List.mem_of_getElem? hi)
      have hok := hw.2.2.2.1 e (List.mem_of_getElem? hi2)
      have nk := new_key ee hi2 hw.2.2.1
      refine ⟨ta, la, e.1, e.2, rfl, S1 _ _ h1, S1 _ _ h2, hok.1, hok.2, fun H2 S2 => ?_⟩
      have S := S1.trans S2
      have qt := SqT.of (K := K) (S _ _ h1)
      have qa := SqL.of (K := K) (S _ _ h2)
      refine ⟨_, _, .inr qt, rfl, .inr ⟨_, DGet.k (k := .inr e.1) (S2 _ _ e1d), ?_⟩⟩
      rw [nk]
      refine ⟨_, _, .inr qt, rfl, _, .inl ⟨qa, fun tp htp => ?_⟩⟩
      have S3 := Same.upd (o := tupO e.2) htp
      have et : upd H2 tp (tupO e.2) tp = some (tupO e.2) := upd_same
      show gdSub K (dVar 1) (dBin (rIxD K) (dVar 3) (dC (.int 0))) (.ref tp) [some (.ref a), some (.ref d), some (.int (prodS (sw.take i) : Nat)), some (.ref ta)] (upd H2 tp (tupO e.2)) _
      have hft : H tp = none := S.free htp
      generalize upd H2 tp (tupO e.2) = H3 at S3 et ⊢
      have Sa := S.trans S3
      have e3d := S3 _ _ (S2 _ _ e1d)
      have ndt : d ≠ tp := ne_of_none (S2 _ _ e1d) htp
      refine ⟨_, _, .inr (S3.seqT qt), rfl, _, DPut.k (k := .inr e.1) e3d ?_, ?_⟩
      · rw [List.length_map]
        have := es_len ee
        have := hw.2.1
        exact Nat.lt_of_le_of_lt (show es.length ≤ 5 by omega) (by decide)
      rw [kR_snoc nk]
      have Sb : Same H (upd H3 d (.dK ((es ++ [(e, tp)]).map kR))) := Sa.set hd0
      have keep : ∀ b, b ≠ d → upd H3 d (.dK ((es ++ [(e, tp)]).map kR)) b = H3 b := fun b hb => upd_ne hb
      have ebd : upd H3 d (.dK ((es ++ [(e, tp)]).map kR)) d = some (.dK ((es ++ [(e, tp)]).map kR)) := upd_same
      generalize upd H3 d (.dK ((es ++ [(e, tp)]).map kR)) = H4 at Sb keep ebd ⊢
      refine ⟨_, _, .inr (SqT.of (Sb _ _ h1)), rfl, .inl ⟨_, .inl (SqL.of (Sb _ _ h2)), ?_⟩⟩
      rw [List.length_map]
      have pm : ((prodS (sw.take i) : Nat) : Int) * (e.2.length : Int) = ((prodS (sw.take (i + 1)) : Nat) : Int) := by
        unfold prodS
        rw [foldl_take hi2, Int.natCast_mul]
      have hb4 := hok.2.2.2
      refine ⟨.inr ⟨show -(2 ^ 64) < (e.2.length : Int) by omega, show (e.2.length : Int) < 2 ^ 64 by omega⟩, ?_⟩
      refine ⟨⟨_, congrArg (fun z => [some (V.ref a), some (V.ref d), some (V.int z), some (V.ref ta)]) pm⟩, Sb, es ++ [(e, tp)], es_snoc ee hi2, ebd, ?_⟩
      intro x hx
      rcases List.mem_append.mp hx with hx | hx
      · obtain ⟨a1, a2⟩ := he x hx
        refine ⟨a1, ?_⟩
        rw [keep x.2 (fun z => by rw [z, e1d] at a2; cases a2)]
        exact S3 _ _ (S2 _ _ a2)
      · have : x = (e, tp) := by simpa using hx
        subst this
        exact ⟨hft, by rw [keep _ (Ne.symm ndt)]; exact et⟩
    · rintro σ H1 ⟨⟨v3, rfl⟩, S1, es, ee, e1d, he⟩
      rw [el, List.take_length] at ee
      rw [el, List.take_length]
      refine .inl (iteFe ?_ ?_)
      · have := hw.2.2.2.2
        simp
        omega
      · exact k H1 d S1 ⟨es, ee, ⟨hd0, e1d⟩, he⟩
theorem ok_zp {f : Addr} {fd : FuncData} (Z : Facts K t) (F : FunD K "copied_rule" "copied_rule" s_zp f fd .none) (T : Tab P w K mg base 0 (gb_0 K t) bl) : FnOk P w K mg base CX0 1 f fd P_zp (sp_zp K t) := by
  refine F.okW0 sc_zp vi_zp T (rd_zp K t) (fun vs H Q E h => ?_) (fun vs H Q E h => ?_)
  · obtain ⟨r, rule, rfl, _⟩ := h; rfl
  · obtain ⟨r, rule, rfl, ⟨ds, ed, ⟨_, od⟩, hd⟩, nd, hl, k⟩ := h
    intro c hc
    have ncr : r ≠ c := ne_of_none od hc
    have od1 : upd H c (.dK []) r = some (.dK (ds.map kR)) := by rw [upd_ne ncr]; exact od
    refine .inl (.inr (.inr (.inl ⟨_, od1, fun o => ?_⟩)))
    have Hf : ∀ b u, b ≠ r → H b = some u → upd (upd H c (.dK [])) r (.frz o (.dK (ds.map kR))) b = some u := fun b u hb e => by
      rw [upd_ne hb, upd_ne (ne_of_none e hc)]; exact e
    have ef : upd (upd H c (.dK [])) r (.frz o (.dK (ds.map kR))) r = some (.frz o (.dK (ds.map kR))) := upd_same
    have ec : upd (upd H c (.dK [])) r (.frz o (.dK (ds.map kR))) c = some (.dK []) := by rw [upd_ne (Ne.symm ncr), upd_same]
    have len : ds.length = rule.length := by rw [← ed]; simp
    generalize upd (upd H c (.dK [])) r (.frz o (.dK (ds.map kR))) = H0 at Hf ef ec ⊢
    refine for_by (yl_dict (ds.map kR)) (fun i σ H' => (∃ v2, σ = [some (.ref r), some (.ref c), v2]) ∧ (∀ b u, b ≠ r → H b = some u → H' b = some u) ∧ H' r = some (.frz o (.dK (ds.map kR))) ∧
        ∃ es : List ((Str × List Str) × Addr), es.map (·.1) = rule.take i ∧ H' c = some (.dK (es.map kR)) ∧ ∀ x ∈ es, H x.2 = none ∧ H' x.2 = some (lstO x.1.2))
      ⟨⟨_, rfl⟩, Hf, ef, [], rfl, ec, fun x hx => by cases hx⟩ (fun i σ H' _ q => q.2.2.1) ?_ ?_
    · rintro i x σ H1 hx ⟨⟨v2, rfl⟩, S1, f1, es, ee, e1c, he⟩
      obtain ⟨kv, hi0, rfl⟩ := get_map hx
      obtain ⟨⟨e, la⟩, hi, rfl⟩ := get_map hi0
      have hi2 : rule[i]? = some e := by rw [← ed, List.getElem?_map, hi]; rfl
      obtain ⟨_, h2⟩ := hd _ (List.mem_of_getElem? hi)
      have nla : la ≠ r := fun z => by rw [z, od] at h2; cases h2
      have nk := new_key ee hi2 nd
      have hv : valV (ds.map kR) (.inr e.1) = some (.ref la) := valV_mem (keys_nd ed nd) hi0
      refine ⟨.ref la, .inl ⟨_, .inr e.1, .inr ⟨o, f1⟩, rfl, hv.symm⟩, _, .inl (SqL.of (S1 _ _ nla h2)), fun lc hlc => ?_⟩
      have S3 := Same.upd (o := lstO e.2) hlc
      have et : upd H1 lc (lstO e.2) lc = some (lstO e.2) := upd_same
      have nlr : lc ≠ r := (ne_of_none f1 hlc).symm
      have hft : H lc = none := by
        cases q : H lc with
        | none => rfl
        | some u => rw [S1 _ _ nlr q] at hlc; cases hlc
      have ndt : c ≠ lc := ne_of_none e1c hlc
      show gdSub K (dVar 1) (dVar 2) (.ref lc) [some (.ref r), some (.ref c), some (.str e.1)] (upd H1 lc (lstO e.2)) _
      generalize upd H1 lc (lstO e.2) = H3 at S3 et ⊢
      refine ⟨_, DPut.k (k := .inr e.1) (S3 _ _ e1c) ?_, ?_⟩
      · rw [List.length_map]
        have := es_len ee
        exact Nat.lt_of_le_of_lt (show es.length ≤ 100 by omega) (by decide)
      rw [kR_snoc nk]
      refine ⟨⟨_, rfl⟩, fun b u hb e4 => ?_, ?_, es ++ [(e, lc)], es_snoc ee hi2, upd_same, ?_⟩
      · rw [upd_ne (ne_of_none e4 hc)]; exact S3 _ _ (S1 _ _ hb e4)
      · rw [upd_ne ncr]; exact S3 _ _ f1
      · intro x hx
        rcases List.mem_append.mp hx with hx | hx
        · obtain ⟨a1, a2⟩ := he x hx
          refine ⟨a1, ?_⟩
          rw [upd_ne (fun z => by rw [z, e1c] at a2; cases a2)]
          exact S3 _ _ a2
        · have : x = (e, lc) := by simpa using hx
          subst this
          exact ⟨hft, by rw [upd_ne (Ne.symm ndt)]; exact et⟩
    · rintro σ H1 ⟨⟨v2, rfl⟩, S1, f1, es, ee, e1c, he⟩
      rw [List.length_map, List.length_map, len, List.take_length] at ee
      refine .inr ⟨r, o, _, od1, f1, ?_⟩
      refine k _ c (fun b u e4 => ?_) ⟨es, ee, ⟨hc, ?_⟩, fun x hx => ⟨(he x hx).1, ?_⟩⟩
      · by_cases hb : b = r
        · subst hb; rw [upd_same, ← od, e4]
        · rw [upd_ne hb]; exact S1 _ _ hb e4
      · rw [upd_ne (Ne.symm ncr)]; exact e1c
      · rw [upd_ne (fun z => by have := (he x hx).1; rw [z, od] at this; cases this)]; exact (he x hx).2
theorem numK_snoc : ∀ (a : List (List Str)) (r : List Str) (k : Nat), numK k (a ++ [r]) = numK k a ++ [(r.map .inr, .int ((k + a.length : Nat) : Int))]
  | [], r, k => rfl
  | b :: a, r, k => by
    rw [List.cons_append, numK, numK_snoc a r (k + 1), numK, List.length_cons, List.cons_append, show k + 1 + a.length = k + (a.length + 1) by omega]
theorem numK_keys : ∀ (a : List (List Str)) (k : Nat), (numK k a).map (·.1) = a.map fun r => r.map (Sum.inr : Str → Key)
  | [], _ => rfl
  | b :: a, k => by rw [numK, List.map_cons, List.map_cons, numK_keys a]
theorem numK_len : ∀ (a : List (List Str)) (k : Nat), (numK k a).length = a.length
  | [], _ => rfl
  | b :: a, k => by rw [numK, List.length_cons, List.length_cons, numK_len a]
theorem inrs_inj {a b : List Str} (h : a.map (Sum.inr : Str → Key) = b.map (Sum.inr : Str → Key)) : a = b := (List.map_inj_right (fun x y e => by injection e)).mp h
theorem numK_get : ∀ {a : List (List Str)} {k i : Nat} {r : List Str}, a[i]? = some r → (numK k a)[i]? = some (r.map .inr, .int ((k + i : Nat) : Int))
  | [], _, _, _, h => by simp at h
  | b :: a, k, 0, r, h => by rw [List.getElem?_cons_zero] at h; cases h; rfl
  | b :: a, k, i + 1, r, h => by
    rw [List.getElem?_cons_succ] at h
    rw [numK, List.getElem?_cons_succ, numK_get h, show k + 1 + i = k + (i + 1) by omega]
theorem tup_key (r : List Str) : tupO r = .tup ((r.map (Sum.inr : Str → Key)).map kV) := by
  rw [List.map_map]
  rfl
theorem take_not {α : Type} {l : List α} {i : Nat} {x : α} (nd : l.Nodup) (h : l[i]? = some x) : ¬ x ∈ l.take i := by
  intro hm
  obtain ⟨j, hj, e⟩ := List.mem_iff_getElem.mp hm
  rw [List.length_take] at hj
  rw [List.getElem_take] at e
  have hi := lt_of_get h
  rw [List.getElem?_eq_getElem hi] at h
  have := (List.getElem_inj (i := j) (j := i) (h₀ := by omega) (h₁ := hi) nd).mp (by rw [e]; exact (Option.some.inj h).symm)
  omega
theorem ok_za {f : Addr} {fd : FuncData} (Z : Facts K t) (F : FunD K "numbers_by_settings" "numbers_by_settings" s_za f fd .none) (T : Tab P w K mg base 0 (gb_0 K t) bl) : FnOk P w K mg base CX0 1 f fd P_za (sp_za K t) := by
  refine F.okW0 sc_za vi_za T (rd_za K t) (fun vs H Q E h => ?_) (fun vs H Q E h => ?_)
  · obtain ⟨l, rows, rfl, _⟩ := h; rfl
  · obtain ⟨l, rows, rfl, ⟨ds, ed, ⟨_, ol⟩, hd⟩, nd, hl, k⟩ := h
    intro n hn
    have ql := SqL.of (K := K) ol
    have len : (enumV 0 (ds.map fun x => V.ref x.2)).length = rows.length := by rw [enumV_len, ← ed]; simp
    refine .inr (.inl ⟨⟨_, (Same.upd hn).seqL ql⟩, ?_⟩)
    refine for_by2 (yl_enum (ds.map fun x => V.ref x.2)) (fun i σ H' => (∃ v2 v3, σ = [some (.ref l), some (.ref n), v2, v3]) ∧ Same H H' ∧ H' n = some (.dT (numK 0 (rows.take i))))
      ⟨⟨_, _, rfl⟩, Same.upd hn, upd_same⟩ (fun i σ H' _ q => q.2.1.seqL ql) ?_ ?_
    · rintro i x y T σ H1 hxy hT ⟨⟨v2, v3, rfl⟩, S1, e1⟩
      have hi' := lt_of_get hxy
      rw [enumV_len, List.length_map] at hi'
      obtain ⟨⟨r, b⟩, hi⟩ : ∃ z, ds[i]? = some z := ⟨_, List.getElem?_eq_getElem hi'⟩
      have := enumV_get (k := 0) (xs := ds.map fun x => V.ref x.2) (i := i) (x := .ref b) (by rw [List.getElem?_map, hi]; rfl)
      rw [this] at hxy
      obtain ⟨rfl, rfl⟩ : V.int ((0 + i : Nat) : Int) = x ∧ V.ref b = y := by simpa using hxy
      have hi2 : rows[i]? = some r := by rw [← ed, List.getElem?_map, hi]; rfl
      have hb := (hd _ (List.mem_of_getElem? hi)).2
      have ST := Same.upd (o := .tup [.int ((0 + i : Nat) : Int), .ref b]) hT
      refine ⟨_, SqT.of upd_same, rfl, ?_⟩
      generalize upd H1 T (.tup [.int ((0 + i : Nat) : Int), .ref b]) = H2 at ST ⊢
      have S2 := S1.trans ST
      have hb2 := S2 _ _ hb
      rw [tup_key] at hb2
      refine ⟨_, DPut.t (ST _ _ e1) hb2 ?_, ⟨_, _, rfl⟩, S2.set hn, ?_⟩
      · rw [numK_len, List.length_take]
        exact Nat.lt_of_le_of_lt (show min i rows.length ≤ 256 by omega) (by decide)
      · rw [upd_same, putK_new, List.take_add_one, hi2, Option.toList_some, numK_snoc, List.length_take, Nat.min_eq_left (Nat.le_of_lt (lt_of_get hi2))]
        refine valV_none ?_
        rw [numK_keys]
        intro hm
        obtain ⟨r2, h1, h2⟩ := List.mem_map.mp hm
        rw [inrs_inj h2] at h1
        exact take_not nd hi2 h1
    · rintro σ H1 ⟨⟨v2, v3, rfl⟩, S1, e1⟩
      rw [len, List.take_length] at e1
      exact .inl (k H1 n S1 ⟨hn, e1⟩)
end
end K03
set_option maxRecDepth 100000
set_option maxHeartbeats 4000000
namespace K03
open PySem L2 Pn
section
variable {P : Program} {w : World} {K : PySem.W.Frag} {mg : Str → Option Value} {base : Heap} {t : Adr}
theorem cat1 {H : Hp} {aa p : Addr} {a : List Str} {z : Str} {Q : VK} (ha : H aa = some (tupO a)) (hp : H p = some (.tup [.str z])) (hl : a.length ≤ 100) (k : ∀ q H', Same H H' → H' q = some (tupO (a ++ [z])) → (H q = none ∨ q = p) → Q (.ref q) H') : rAddD K (.ref aa) (.ref p) H Q := by
  cases a with
  | nil => exact .inr (.inr ⟨aa, p, _, rfl, rfl, SqT.of ha, SqT.of hp, k p H (Same.refl _) hp (.inr rfl)⟩)
  | cons y a =>
    refine .inr (.inl ⟨aa, p, _, _, rfl, rfl, SqT.of ha, SqT.of hp, by simp, ?_, (fun e => by cases e), fun _ q hq => ?_⟩)
    · rw [List.length_map]
      exact Nat.le_trans (show (y :: a).length + 1 ≤ 101 by omega) (by decide)
    · refine k q _ (Same.upd hq) ?_ (.inl hq)
      rw [upd_same, tupO, List.map_append]
      rfl
theorem each_snoc {α : Type} {ok : Addr → Prop} {H : Hp} {f : α → HO} {es : List (α × Addr)} {e : α} {a : Addr} (h : ∀ x ∈ es, ok x.2 ∧ H x.2 = some (f x.1)) (h1 : ok a) (h2 : H a = some (f e)) : ∀ x ∈ es ++ [(e, a)], ok x.2 ∧ H x.2 = some (f x.1) := by
  intro x hx
  rcases List.mem_append.mp hx with hx | hx
  · exact h x hx
  · have : x = (e, a) := by simpa using hx
    subst this
    exact ⟨h1, h2⟩
theorem each_up {α : Type} {ok : Addr → Prop} {H H' : Hp} {f : α → HO} {es : List (α × Addr)} (S : Same H H') (h : ∀ x ∈ es, ok x.2 ∧ H x.2 = some (f x.1)) : ∀ x ∈ es, ok x.2 ∧ H' x.2 = some (f x.1) := fun x hx => ⟨(h x hx).1, S _ _ (h x hx).2⟩
theorem step_take {rows : List (List Str)} {j : Nat} {r : List Str} {x : Str × List Str} (h : rows[j]? = some r) : stepR (rows.take (j + 1)) x = stepR (rows.take j) x ++ x.2.map fun z => r ++ [z] := by
  unfold stepR
  rw [List.take_add_one, h, Option.toList_some, List.flatMap_append]
  simp
theorem longer_one {H0 H : Hp} {aa ta : Addr} {a : List Str} {l : List Str} {σ : St} {R : Hp → Addr → Prop} (hσ : ∃ v, σ = [v, some (.ref aa)]) (S0 : Same H0 H) (ha : H aa = some (tupO a)) (ht : H ta = some (tupO l)) (hl : a.length ≤ 100) (hl2 : l.length ≤ 8)
    (k : ∀ D H', Same H H' → H D = none → ∀ fs : List (List Str × Addr), fs.map (·.1) = l.map (fun z => a ++ [z]) → H' D = some (.lst (fs.map fun x => .ref x.2)) → (∀ x ∈ fs, H0 x.2 = none ∧ H' x.2 = some (tupO x.1)) → R H' D) :
    ∀ D, H D = none → CmpW (Itt K ta) (gdN 0) dYes (dBin (rAddD K) (dVar 1) (dTup (dCons (dVar 0) dNil))) D (fun H' => R H' D) σ (upd H D (.lst [])) := by
  intro D hD
  refine cmp_by (yl_tup (l.map V.str)) (fun m σ H' => (∃ v, σ = [v, some (.ref aa)]) ∧ Same H H' ∧ ∃ fs : List (List Str × Addr), fs.map (·.1) = (l.take m).map (fun z => a ++ [z]) ∧ H' D = some (.lst (fs.map fun x => .ref x.2)) ∧ ∀ x ∈ fs, H0 x.2 = none ∧ H' x.2 = some (tupO x.1))
    ⟨hσ, Same.upd hD, [], rfl, upd_same, fun x hx => by cases hx⟩ (fun m σ H' _ q => q.2.1.seqT (SqT.of ht)) ?_ ?_
  · rintro m x σ H1 hx ⟨⟨v, rfl⟩, S1, fs, ef, eD, hf⟩
    obtain ⟨z, hz, rfl⟩ := get_map hx
    refine ⟨(show 1 ≤ sizeLine by decide), fun p hp => ?_⟩
    have Sp := Same.upd (o := .tup [.str z]) hp
    have ep : upd H1 p (.tup [.str z]) p = some (.tup [.str z]) := upd_same
    show rAddD K (.ref aa) (.ref p) (upd H1 p (.tup [.str z])) _
    generalize upd H1 p (.tup [.str z]) = H2 at Sp ep ⊢
    refine cat1 (Sp _ _ (S1 _ _ ha)) ep hl fun q H3 S3 eq nq => ?_
    have S03 := S0.trans (S1.trans (Sp.trans S3))
    have hq0 : H0 q = none := by
      rcases nq with nq | rfl
      · exact (S0.trans (S1.trans Sp)).free nq
      · exact (S0.trans S1).free hp
    have qD : q ≠ D := by
      rcases nq with nq | rfl
      · exact (ne_of_none (Sp _ _ eD) nq).symm
      · exact (ne_of_none eD hp).symm
    have eD3 := S3 _ _ (Sp _ _ eD)
    refine ⟨_, eD3, ?_, ⟨_, rfl⟩, (S1.trans (Sp.trans S3)).set hD, fs ++ [(a ++ [z], q)], ?_, ?_, ?_⟩
    · rw [List.length_map]
      have := congrArg List.length ef
      rw [List.length_map, List.length_map, List.length_take] at this
      exact Nat.lt_of_le_of_lt (show fs.length ≤ 8 by omega) (by decide)
    · rw [List.map_append, ef, map_take_get hz]; rfl
    · rw [upd_same, List.map_append]; rfl
    · have hf3 : ∀ x ∈ fs ++ [(a ++ [z], q)], H0 x.2 = none ∧ H3 x.2 = some (tupO x.1) := each_snoc (ok := fun a => H0 a = none) (f := tupO) (each_up (ok := fun a => H0 a = none) (f := tupO) (Sp.trans S3) hf) hq0 eq
      intro x hx
      refine ⟨(hf3 x hx).1, ?_⟩
      rw [upd_ne (fun e => by have := (hf3 x hx).2; rw [e, eD3] at this; cases this)]
      exact (hf3 x hx).2
  · rintro σ H1 ⟨_, S1, fs, ef, eD, hf⟩
    rw [List.length_map, List.take_length] at ef
    exact k D H1 S1 hD fs ef eD hf
theorem ok_zb {f : Addr} {fd : FuncData} (Z : Facts K t) (F : FunD K "settings_of_choices" "settings_of_choices" s_zb f fd .none) (T : Tab P w K mg base 0 (gb_0 K t) bl) : FnOk P w K mg base CX0 1 f fd P_zb (sp_zb K t) := by
  refine F.okW0 sc_zb vi_zb T (rd_zb K t) (fun vs H Q E h => ?_) (fun vs H Q E h => ?_)
  · obtain ⟨d, sw, rfl, _⟩ := h; rfl
  · obtain ⟨d, sw, rfl, ⟨ds, ed, ⟨_, od⟩, hd⟩, hw, k⟩ := h
    refine ⟨(show 0 ≤ sizeLine by decide), fun t0 h0 => ⟨(show 1 ≤ sizeLine by decide), fun l0 hl0 => ?_⟩⟩
    have St := Same.upd (o := .tup []) h0
    have Sl := Same.upd (o := .lst [.ref t0]) hl0
    have ft : H t0 = none := h0
    have fl : H l0 = none := St.free hl0
    have et : upd (upd H t0 (.tup [])) l0 (.lst [.ref t0]) t0 = some (tupO []) := Sl _ _ upd_same
    have el : upd (upd H t0 (.tup [])) l0 (.lst [.ref t0]) l0 = some (.lst [.ref t0]) := upd_same
    have S0 := St.trans Sl
    generalize upd (upd H t0 (.tup [])) l0 (.lst [.ref t0]) = H0 at S0 et el ⊢
    have od0 := S0 _ _ od
    refine .inr (.inr (.inl ⟨_, od0, fun o => ?_⟩))
    have len : ds.length = sw.length := by rw [← ed]; simp
    have kf : Kp (fresh H) H0 (fresh H) (upd H0 d (.frz o (.dK (ds.map kR)))) := Kp.off (not_fresh od)
    have ef : upd H0 d (.frz o (.dK (ds.map kR))) d = some (.frz o (.dK (ds.map kR))) := upd_same
    have ht0 : ∀ x ∈ ds, upd H0 d (.frz o (.dK (ds.map kR))) x.2 = some (tupO x.1.2) := fun x hx => by
      rw [upd_ne (fun e => by have := (hd x hx).2; rw [e, od] at this; cases this)]
      exact S0 _ _ (hd x hx).2
    have T0 : TupsAt (fresh H) (upd H0 d (.frz o (.dK (ds.map kR)))) l0 (rowsS (sw.take 0)) := ⟨[([], t0)], rfl, kf _ _ ⟨fl, el⟩, fun x hx => by
      have : x = ([], t0) := by simpa using hx
      subst this
      exact kf _ _ ⟨ft, et⟩⟩
    have frees : ∀ {H' : Hp} {b : Addr}, Same (upd H0 d (.frz o (.dK (ds.map kR)))) H' → H' b = none → H b = none := fun {H' b} S e => by
      have e1 := S.free e
      have nb : b ≠ d := fun z => by rw [z, ef] at e1; cases e1
      rw [upd_ne nb] at e1
      exact S0.free e1
    generalize hHf : upd H0 d (.frz o (.dK (ds.map kR))) = Hf at kf ef ht0 T0 frees ⊢
    refine for_by (yl_dict (ds.map kR)) (fun i σ H' => (∃ l v2 v3 v4, σ = [some (.ref d), some (.ref l), v2, v3, v4] ∧ TupsAt (fresh H) H' l (rowsS (sw.take i))) ∧ Same Hf H') ⟨⟨_, _, _, _, rfl, T0⟩, Same.refl _⟩ (fun i σ H' _ q => q.2 _ _ ef) ?_ ?_
    · rintro i x σ H1 hx ⟨⟨l, v2, v3, v4, rfl, ⟨es, ee, ⟨fl1, el1⟩, he⟩⟩, S1⟩
      obtain ⟨kv, hi0, rfl⟩ := get_map hx
      obtain ⟨⟨e, ta⟩, hi, rfl⟩ := get_map hi0
      have hi2 : sw[i]? = some e := by rw [← ed, List.getElem?_map, hi]; rfl
      have hta := ht0 _ (List.mem_of_getElem? hi)
      have hoke := hw.sets e (List.mem_of_getElem? hi2)
      have hv : valV (ds.map kR) (.inr e.1) = some (.ref ta) := valV_mem (keys_nd ed hw.2.2.1) hi0
      refine ⟨by decide, fun l2 hl2 => .inl ⟨⟨_, (Same.upd hl2).seqL (SqL.of el1)⟩, ?_⟩⟩
      have f2 : H l2 = none := frees S1 hl2
      have Sl2 := Same.upd (o := .lst []) hl2
      have rl : ∀ r ∈ rowsS (sw.take i), r.length ≤ 100 := fun r hr => by
        have h1 := (rows_ok (sw := sw.take i) (fun x hx => hw.sets x (List.mem_of_mem_take hx))).2.1 r hr
        rw [h1, List.length_take]
        have := hw.2.1
        omega
      have lenr : es.length = (rowsS (sw.take i)).length := by rw [← ee]; simp
      have few : (rowsS (sw.take i)).length ≤ 256 := by rw [rows_len]; exact Nat.le_trans (prod_take hw i) hw.2.2.2.2
      refine for_by (yl_list (es.map fun x => V.ref x.2)) (fun j σ H' => (∃ v4, σ = [some (.ref d), some (.ref l), some (.str e.1), some (.ref l2), v4]) ∧ Same H1 H' ∧ ∃ fs : List (List Str × Addr), fs.map (·.1) = stepR ((rowsS (sw.take i)).take j) e ∧
          H' l2 = some (.lst (fs.map fun x => .ref x.2)) ∧ ∀ x ∈ fs, H x.2 = none ∧ H' x.2 = some (tupO x.1))
        ⟨⟨_, rfl⟩, Sl2, [], rfl, upd_same, fun x hx => by cases hx⟩ (fun j σ H' _ q => q.2.1.seqL (SqL.of el1)) ?_ ?_
      · rintro j y σ H2 hy ⟨⟨v4, rfl⟩, S2, fs, efs, e2l, hf⟩
        obtain ⟨⟨r, ra⟩, hj, rfl⟩ := get_map hy
        have hj2 : (rowsS (sw.take i))[j]? = some r := by rw [← ee, List.getElem?_map, hj]; rfl
        obtain ⟨_, hra⟩ := he _ (List.mem_of_getElem? hj)
        have S12 := S1.trans S2
        refine ⟨.inl ⟨rfl, _, SqL.of e2l⟩, .ref ta, .inl ⟨_, .inr e.1, .inr ⟨o, S12 _ _ ef⟩, rfl, hv.symm⟩, .inr (.inl ⟨⟨_, SqT.of (S12 _ _ hta)⟩, ?_⟩)⟩
        refine longer_one (H0 := H1) ⟨_, rfl⟩ S2 (S2 _ _ hra) (S12 _ _ hta) (rl r (List.mem_of_getElem? hj2)) (Nat.le_trans hoke.2.2 (by decide)) fun D H3 S3 hD gs eg eD hg => ?_
        have e3l := S3 _ _ e2l
        have lfs : fs.length ≤ 1024 := by
          have := congrArg List.length efs
          rw [List.length_map, stepR_len, List.length_take] at this
          have h4 := hoke.2.2
          have : min j (rowsS (sw.take i)).length * e.2.length ≤ 256 * 4 := Nat.mul_le_mul (by omega) h4
          omega
        have lgs : gs.length ≤ 4 := by
          have h1 : gs.length = e.2.length := by simpa using congrArg List.length eg
          have h2 : e.2.length ≤ 4 := hoke.2.2
          omega
        refine ⟨l2, D, _, _, rfl, rfl, e3l, eD, ?_, ⟨_, rfl⟩, (S2.trans S3).set hl2, fs ++ gs, ?_, ?_, ?_⟩
        · rw [List.length_map, List.length_map]
          exact Nat.le_trans (show fs.length + gs.length ≤ 1028 by omega) (by decide)
        · rw [List.map_append, efs, eg, step_take hj2]
        · rw [upd_same, List.map_append]
        · have h3 : ∀ x ∈ fs ++ gs, H x.2 = none ∧ H3 x.2 = some (tupO x.1) := fun x hx => by
            rcases List.mem_append.mp hx with hx | hx
            · exact ⟨(hf x hx).1, S3 _ _ (hf x hx).2⟩
            · exact ⟨frees S1 (hg x hx).1, (hg x hx).2⟩
          intro x hx
          refine ⟨(h3 x hx).1, ?_⟩
          rw [upd_ne (fun e => by have := (h3 x hx).2; rw [e, e3l] at this; cases this)]
          exact (h3 x hx).2
      · rintro σ H2 ⟨⟨v4, rfl⟩, S2, fs, efs, e2l, hf⟩
        rw [List.length_map, lenr, List.take_length] at efs
        refine .inl ⟨⟨_, _, _, _, rfl, fs, ?_, ⟨f2, e2l⟩, hf⟩, S1.trans S2⟩
        rw [efs]
        exact (foldl_take hi2 _ _).symm
    · rintro σ H1 ⟨⟨l, v2, v3, v4, rfl, T1⟩, S1⟩
      rw [List.length_map, List.length_map, len, List.take_length] at T1
      refine .inr ⟨d, o, _, od0, S1 _ _ ef, ?_⟩
      exact k _ l (S0.trans (Same.thaw od0 (hHf ▸ S1))) (T1.mono (Kp.off (not_fresh od)))
end
end K03
set_option maxRecDepth 100000
set_option maxHeartbeats 4000000
namespace K03
open PySem L2 Pn
section
variable {P : Program} {w : World} {K : PySem.W.Frag} {mg : Str → Option Value} {base : Heap} {t : Adr}
def Off (d : Addr) (H H' : Hp) : Prop := ∀ b u, b ≠ d → H b = some u → H' b = some u
theorem Off.up {d : Addr} {H H1 H2 : Hp} (h : Off d H H1) (S : Same H1 H2) : Off d H H2 := fun b u n e => S _ _ (h b u n e)
theorem Off.set {d a : Addr} {o : HO} {H H1 : Hp} (h : Off d H H1) (e : H a = none) : Off d H (upd H1 a o) := fun b u n q => by rw [upd_ne (ne_of_none q e)]; exact h b u n q
theorem Off.free {d b : Addr} {H H1 : Hp} (h : Off d H H1) (n : b ≠ d) (e : H1 b = none) : H b = none := by
  cases q : H b with
  | none => rfl
  | some u => rw [h b u n q] at e; cases e
theorem Off.thaw {d : Addr} {kvs : List (Key × V)} {H H1 : Hp} (h : Off d H H1) (e : H d = some (.dK kvs)) : Same H (upd H1 d (.dK kvs)) := fun b u q => by
  by_cases n : b = d
  · subst n; rw [upd_same, ← e, q]
  · rw [upd_ne n]; exact h b u n q
theorem havM_snoc (p : Nat) (z : Str) : ∀ (a : List (List Str)) (r : List Str) (k : Nat), havM p z k (a ++ [r]) = havM p z k a ++ (if r[p]? = some z then [k + a.length] else [])
  | [], r, k => by
    rw [List.nil_append, havM, havM, havM, List.nil_append]
    rfl
  | b :: a, r, k => by
    rw [List.cons_append, havM, havM, havM_snoc p z a r (k + 1), List.length_cons, show k + 1 + a.length = k + (a.length + 1) by omega]
    split <;> simp
theorem havM_lt (p : Nat) (z : Str) : ∀ (a : List (List Str)) (k n : Nat), n ∈ havM p z k a → n < k + a.length
  | [], k, n, h => by cases h
  | b :: a, k, n, h => by
    rw [havM] at h
    rw [List.length_cons]
    split at h
    · rcases List.mem_cons.mp h with h | h
      · omega
      · have := havM_lt p z a (k + 1) n h; omega
    · have := havM_lt p z a (k + 1) n h; omega
theorem havM_len (p : Nat) (z : Str) : ∀ (a : List (List Str)) (k : Nat), (havM p z k a).length ≤ a.length
  | [], k => Nat.le_refl _
  | b :: a, k => by
    rw [havM, List.length_cons]
    split
    · rw [List.length_cons]; have := havM_len p z a (k + 1); omega
    · have := havM_len p z a (k + 1); omega
theorem enum_at {α : Type} {ds : List (α × Addr)} {i : Nat} {x y : V} (h : (enumV 0 (ds.map fun x => V.ref x.2))[i]? = some (x, y)) : ∃ z, ds[i]? = some z ∧ x = .int (i : Int) ∧ y = .ref z.2 := by
  have hi := lt_of_get h
  rw [enumV_len, List.length_map] at hi
  refine ⟨_, List.getElem?_eq_getElem hi, ?_⟩
  have := enumV_get (k := 0) (xs := ds.map fun x => V.ref x.2) (i := i) (x := .ref ds[i].2) (by rw [List.getElem?_map, List.getElem?_eq_getElem hi]; rfl)
  rw [this, Nat.zero_add] at h
  obtain ⟨rfl, rfl⟩ : V.int (i : Int) = x ∧ V.ref ds[i].2 = y := by simpa using h
  exact ⟨rfl, rfl⟩
theorem having {H : Hp} {l : Addr} {ds : List (List Str × Addr)} {rows : List (List Str)} {i : Nat} {z : Str} {R : Hp → Addr → Prop} (ed : ds.map (·.1) = rows) (ol : H l = some (.lst (ds.map fun x => .ref x.2))) (hd : ∀ x ∈ ds, H x.2 = some (tupO x.1)) (hr : ∀ r ∈ rows, i < r.length) (few : rows.length ≤ 256)
    (k : ∀ D H', Same H H' → H D = none → H' D = some (.lst ((havM i z 0 rows).map fun n : Nat => V.int (n : Int))) → R H' D) :
    ∀ D, H D = none → CmpW (Ite K l) (gdT K 2 [gdN 0, gdN 1]) (dTst (dBin (rEqD K false) (dBin (rIxD K) (dVar 1) (dVar 2)) (dVar 3))) (dVar 0) D (fun H' => R H' D) [none, none, some (.int (i : Int)), some (.str z)] (upd H D (.lst [])) := by
  intro D hD
  have len : (enumV 0 (ds.map fun x => V.ref x.2)).length = rows.length := by rw [enumV_len, ← ed]; simp
  refine cmp_by2 (yl_enum (ds.map fun x => V.ref x.2)) (fun m σ H' => (∃ v0 v1, σ = [v0, v1, some (.int (i : Int)), some (.str z)]) ∧ Same H H' ∧ H' D = some (.lst ((havM i z 0 (rows.take m)).map fun n : Nat => V.int (n : Int))))
    ⟨⟨_, _, rfl⟩, Same.upd hD, upd_same⟩ (fun m σ H' _ q => q.2.1.seqL (SqL.of ol)) ?_ ?_
  · rintro m x y T σ H1 hxy hT ⟨⟨v0, v1, rfl⟩, S1, eD⟩
    obtain ⟨⟨r, b⟩, hm, rfl, rfl⟩ := enum_at hxy
    have hm2 : rows[m]? = some r := by rw [← ed, List.getElem?_map, hm]; rfl
    have hb := hd _ (List.mem_of_getElem? hm)
    have hi := hr r (List.mem_of_getElem? hm2)
    have ST := Same.upd (o := .tup [.int (m : Int), .ref b]) hT
    refine ⟨_, SqT.of upd_same, rfl, ?_⟩
    show dTst _ [some (.int (m : Int)), some (.ref b), some (.int (i : Int)), some (.str z)] (upd H1 T (.tup [.int (m : Int), .ref b])) _ _
    generalize upd H1 T (.tup [.int (m : Int), .ref b]) = H2 at ST ⊢
    have S2 := S1.trans ST
    have eD2 := ST _ _ eD
    have mm : min m rows.length = m := Nat.min_eq_left (Nat.le_of_lt (lt_of_get hm2))
    have he : havM i z 0 (rows.take (m + 1)) = havM i z 0 (rows.take m) ++ (if r[i]? = some z then [m] else []) := by
      rw [List.take_add_one, hm2, Option.toList_some, havM_snoc, List.length_take, mm, Nat.zero_add]
    refine ⟨_, _, .inr (SqT.of (S2 _ _ hb)), atI_nat (j := i) (by rw [List.getElem?_map, List.getElem?_eq_getElem hi]; rfl), ?_⟩
    rw [List.getElem?_eq_getElem hi] at he
    show if decide (r[i] = z) = true then _ else _
    refine ite2 (fun e => ?_) (fun e => ?_)
    · have e : r[i] = z := by simpa using e
      rw [if_pos (by rw [e])] at he
      refine ⟨_, eD2, ?_, ⟨_, _, rfl⟩, S2.set hD, ?_⟩
      · rw [List.length_map]
        have h1 := havM_len i z (rows.take m) 0
        rw [List.length_take] at h1
        exact Nat.lt_of_le_of_lt (show (havM i z 0 (rows.take m)).length ≤ 256 by omega) (by decide)
      · rw [upd_same, he, List.map_append]; rfl
    · have e : ¬ r[i] = z := by simpa using e
      rw [if_neg (by simpa using e), List.append_nil] at he
      exact ⟨⟨_, _, rfl⟩, S2, by rw [he]; exact eD2⟩
  · rintro σ H1 ⟨_, S1, eD⟩
    rw [len, List.take_length] at eD
    exact k D H1 S1 hD eD
theorem setO_snoc {rows : List (List Str)} {i m : Nat} {l : List Str} {z : Str} (hz : l[m]? = some z) (nd : l.Nodup) :
    putK ((l.take m).map fun z => ((.inr z : Key), V.int (maskM rows i z))) (.inr z) (.int (maskM rows i z)) = (l.take (m + 1)).map fun z => ((.inr z : Key), V.int (maskM rows i z)) := by
  rw [putK_new, map_take_get hz]
  refine valV_none ?_
  rw [List.map_map]
  intro hm
  obtain ⟨y, hy, e⟩ := List.mem_map.mp hm
  have e : y = z := by injection e
  subst e
  exact take_not nd hz hy
theorem ok_zg {f : Addr} {fd : FuncData} (Z : Facts K t) (F : FunD K "sets_of_settings" "sets_of_settings" s_zg f fd .none) (T : Tab P w K mg base 1 (gb_1 K t) bl) : FnOk P w K mg base CX0 2 f fd P_zg (sp_zg K t) := by
  refine F.okW0 sc_zg vi_zg T (rd_zg K t) (fun vs H Q E h => ?_) (fun vs H Q E h => ?_)
  · obtain ⟨d, l, sw, rfl, _⟩ := h; rfl
  · obtain ⟨d, l, sw, rfl, ⟨ds, ed, ⟨_, od⟩, hd⟩, ⟨ts, et, ⟨_, ol⟩, htp⟩, hw, k⟩ := h
    intro s hs
    have nds : d ≠ s := ne_of_none od hs
    have nld : l ≠ d := fun e => by rw [e, od] at ol; cases ol
    have od1 : upd H s (.dK []) d = some (.dK (ds.map kR)) := by rw [upd_ne nds]; exact od
    refine .inl (.inr (.inl ⟨_, od1, fun o => ?_⟩))
    have O0 : Off d H (upd (upd H s (.dK [])) d (.frz o (.dK (ds.map kR)))) := fun b u n e => by rw [upd_ne n, upd_ne (ne_of_none e hs)]; exact e
    have ef : upd (upd H s (.dK [])) d (.frz o (.dK (ds.map kR))) d = some (.frz o (.dK (ds.map kR))) := upd_same
    have es0 : upd (upd H s (.dK [])) d (.frz o (.dK (ds.map kR))) s = some (.dK []) := by rw [upd_ne (Ne.symm nds), upd_same]
    have len : (enumV 0 ((ds.map kR).map fun kv => kV kv.1)).length = sw.length := by rw [enumV_len, ← ed]; simp
    have few := hw.len
    have rlen := (rows_ok hw.sets).2.1
    show ForW (Itde d o (ds.map kR)) _ _ _ [some (.ref d), some (.ref l), some (.ref s), none, none, none, none] _
    generalize upd (upd H s (.dK [])) d (.frz o (.dK (ds.map kR))) = H0 at O0 ef es0 ⊢
    refine for_by2 (yl_dictE (ds.map kR)) (fun i σ H' => (∃ v3 v4 v5 v6, σ = [some (.ref d), some (.ref l), some (.ref s), v3, v4, v5, v6]) ∧ Off d H H' ∧ H' d = some (.frz o (.dK (ds.map kR))) ∧
        ∃ es : List ((Str × List Str) × Addr), es.map (·.1) = sw.take i ∧ H' s = some (.dK (es.map kR)) ∧ ∀ j x, es[j]? = some x → H x.2 = none ∧ H' x.2 = some (setO (rowsS sw) j x.1.2))
      ⟨⟨_, _, _, _, rfl⟩, O0, ef, [], rfl, es0, fun j x hx => by simp at hx⟩ (fun i σ H' _ q => q.2.2.1) ?_ ?_
    · rintro i x y T σ H1 hxy hT ⟨⟨v3, v4, v5, v6, rfl⟩, O1, f1, es, ee, e1s, he⟩
      have hi' := lt_of_get hxy
      rw [len] at hi'
      have hids : i < ds.length := by rw [← ed, List.length_map] at hi'; exact hi'
      obtain ⟨⟨e, ta⟩, hi⟩ : ∃ z, ds[i]? = some z := ⟨_, List.getElem?_eq_getElem hids⟩
      have hxy2 := enumV_get (k := 0) (xs := (ds.map kR).map fun kv => kV kv.1) (i := i) (x := .str e.1) (by rw [List.getElem?_map, List.getElem?_map, hi]; rfl)
      rw [hxy2, Nat.zero_add] at hxy
      obtain ⟨rfl, rfl⟩ : V.int (i : Int) = x ∧ V.str e.1 = y := by simpa using hxy
      have hi2 : sw[i]? = some e := by rw [← ed, List.getElem?_map, hi]; rfl
      have hta := (hd _ (List.mem_of_getElem? hi)).2
      have nta : ta ≠ d := fun z => by rw [z, od] at hta; cases hta
      have hoke := hw.sets e (List.mem_of_getElem? hi2)
      have hv : valV (ds.map kR) (.inr e.1) = some (.ref ta) := valV_mem (keys_nd ed hw.2.2.1) (by rw [List.getElem?_map, hi]; rfl)
      have nk := new_key ee hi2 hw.2.2.1
      have les : es.length = i := by
        have := congrArg List.length ee
        rw [List.length_map, List.length_take] at this
        omega
      have ST := Same.upd (o := .tup [.int (i : Int), .str e.1]) hT
      refine ⟨_, SqT.of upd_same, rfl, ?_⟩
      show dSeq _ _ _ [some (.ref d), some (.ref l), some (.ref s), some (.int (i : Int)), some (.str e.1), v5, v6] (upd H1 T (.tup [.int (i : Int), .str e.1]))
      generalize upd H1 T (.tup [.int (i : Int), .str e.1]) = H2 at ST ⊢
      have O2 := O1.up ST
      have f2 := ST _ _ f1
      have e2s := ST _ _ e1s
      intro q hq
      have nqd : q ≠ d := (ne_of_none f2 hq).symm
      have nqs : q ≠ s := (ne_of_none e2s hq).symm
      have fq : H q = none := O2.free nqd hq
      have Sq := Same.upd (o := .dK []) hq
      have eq : upd H2 q (.dK []) q = some (.dK []) := upd_same
      refine .inl ?_
      show gdSub K (dVar 2) (dVar 4) (.ref q) [some (.ref d), some (.ref l), some (.ref s), some (.int (i : Int)), some (.str e.1), v5, v6] (upd H2 q (.dK [])) _
      generalize upd H2 q (.dK []) = H3 at Sq eq ⊢
      refine ⟨_, DPut.k (k := .inr e.1) (Sq _ _ e2s) ?_, ?_⟩
      · rw [List.length_map]
        have := hw.2.1
        exact Nat.lt_of_le_of_lt (show es.length ≤ 5 by omega) (by decide)
      rw [kR_snoc nk]
      have O4 : Off d H (upd H3 s (.dK ((es ++ [(e, q)]).map kR))) := (O2.up Sq).set hs
      have f4 : upd H3 s (.dK ((es ++ [(e, q)]).map kR)) d = some (.frz o (.dK (ds.map kR))) := by rw [upd_ne nds]; exact Sq _ _ f2
      have e4s : upd H3 s (.dK ((es ++ [(e, q)]).map kR)) s = some (.dK ((es ++ [(e, q)]).map kR)) := upd_same
      have e4q : upd H3 s (.dK ((es ++ [(e, q)]).map kR)) q = some (setO (rowsS sw) i (e.2.take 0)) := by rw [upd_ne nqs]; exact eq
      have he4 : ∀ j x, es[j]? = some x → H x.2 = none ∧ upd H3 s (.dK ((es ++ [(e, q)]).map kR)) x.2 = some (setO (rowsS sw) j x.1.2) ∧ x.2 ≠ q ∧ x.2 ≠ s := fun j x hx => by
        obtain ⟨a1, a2⟩ := he j x hx
        have b1 := ne_of_none (ST _ _ a2) hq
        have b2 : x.2 ≠ s := fun z => by
          rw [z, e1s] at a2
          unfold setO at a2
          have a3 : es.map kR = x.1.2.map fun z => ((.inr z : Key), V.int (maskM (rowsS sw) j z)) := by injection (Option.some.inj a2)
          have m1 : kR x ∈ es.map kR := List.mem_map_of_mem (List.mem_of_getElem? hx)
          rw [a3] at m1
          obtain ⟨y, _, hy⟩ := List.mem_map.mp m1
          injection hy with _ hy
          cases hy
        refine ⟨a1, ?_, b1, b2⟩
        rw [upd_ne b2]; exact Sq _ _ (ST _ _ a2)
      generalize upd H3 s (.dK ((es ++ [(e, q)]).map kR)) = H4 at O4 f4 e4s e4q he4 ⊢
      have nd4 : (((es ++ [(e, q)]).map kR).map (·.1)).Nodup := keys_nd (es_snoc ee hi2) (by rw [List.map_take]; exact hw.2.2.1.sublist (List.take_sublist _ _))
      have hq4 : valV ((es ++ [(e, q)]).map kR) (.inr e.1) = some (.ref q) := valV_mem (i := es.length) nd4 (by rw [List.getElem?_map, List.getElem?_append_right (Nat.le_refl _), Nat.sub_self]; rfl)
      refine ⟨.ref ta, .inl ⟨_, .inr e.1, .inr ⟨o, f4⟩, rfl, hv.symm⟩, .inr (.inl ⟨⟨_, SqT.of (O4 _ _ nta hta)⟩, ?_⟩)⟩
      refine for_by (yl_tup (e.2.map V.str)) (fun m σ H' => (∃ v5 v6, σ = [some (.ref d), some (.ref l), some (.ref s), some (.int (i : Int)), some (.str e.1), v5, v6]) ∧ Off d H H' ∧ H' d = some (.frz o (.dK (ds.map kR))) ∧ H' s = some (.dK ((es ++ [(e, q)]).map kR)) ∧
          H' q = some (setO (rowsS sw) i (e.2.take m)) ∧ ∀ j x, es[j]? = some x → H' x.2 = some (setO (rowsS sw) j x.1.2))
        ⟨⟨_, _, rfl⟩, O4, f4, e4s, e4q, fun j x hx => (he4 j x hx).2.1⟩ (fun m σ H' _ q => SqT.of (q.2.1 _ _ nta hta)) ?_ ?_
      · rintro m x σ H5 hx ⟨⟨v5, v6, rfl⟩, O5, f5, e5s, e5q, he5⟩
        obtain ⟨z, hz, rfl⟩ := get_map hx
        refine .inl ⟨⟨_, SqL.of (O5 _ _ nld ol)⟩, ?_⟩
        refine having et (O5 _ _ nld ol) (fun x hx => O5 _ _ (fun e => by have := (htp x hx).2; rw [e, od] at this; cases this) (htp x hx).2) (fun r hr => by rw [rlen r hr]; exact hi') few fun D H6 S6 hD eD => ?_
        refine ⟨D, _, rfl, SqL.of eD, (fun n hn => ?_), ?_⟩
        · have := havM_lt i z (rowsS sw) 0 n hn
          omega
        show gdSub K (dBin (rIxD K) (dVar 2) (dVar 4)) (dVar 5) (.int (maskM (rowsS sw) i z)) [some (.ref d), some (.ref l), some (.ref s), some (.int (i : Int)), some (.str e.1), some (.str z), some (.ref D)] H6 _
        refine ⟨.ref q, .inl ⟨_, .inr e.1, .inl (S6 _ _ e5s), rfl, hq4.symm⟩, _, DPut.k (k := .inr z) (S6 _ _ e5q) ?_, ?_⟩
        · rw [List.length_map, List.length_take]
          have := hoke.2.2
          exact Nat.lt_of_le_of_lt (show min m e.2.length ≤ 4 by omega) (by decide)
        rw [setO_snoc hz hoke.1.2.1]
        refine ⟨⟨_, _, rfl⟩, (O5.up S6).set fq, ?_, ?_, upd_same, fun j x hx => ?_⟩
        · rw [upd_ne (Ne.symm nqd)]; exact S6 _ _ f5
        · rw [upd_ne (Ne.symm nqs)]; exact S6 _ _ e5s
        · rw [upd_ne (he4 j x hx).2.2.1]; exact S6 _ _ (he5 j x hx)
      · rintro σ H5 ⟨⟨v5, v6, rfl⟩, O5, f5, e5s, e5q, he5⟩
        rw [List.length_map, List.take_length] at e5q
        refine .inl ⟨⟨_, _, _, _, rfl⟩, O5, f5, es ++ [(e, q)], es_snoc ee hi2, e5s, fun j x hx => ?_⟩
        by_cases hj : j < es.length
        · rw [List.getElem?_append_left hj] at hx
          exact ⟨(he4 j x hx).1, he5 j x hx⟩
        · have hj2 := lt_of_get hx
          rw [List.length_append] at hj2
          have hj3 : j = es.length := by have : [(e, q)].length = 1 := rfl; omega
          subst hj3
          rw [List.getElem?_append_right (Nat.le_refl _), Nat.sub_self] at hx
          have : (e, q) = x := by simpa using hx
          subst this
          rw [les]
          exact ⟨fq, e5q⟩
    · rintro σ H1 ⟨⟨v3, v4, v5, v6, rfl⟩, O1, f1, es, ee, e1s, he⟩
      rw [len, List.take_length] at ee
      refine .inr ⟨d, o, _, od1, f1, ?_⟩
      refine k _ s (O1.thaw od) ⟨es, ee, ⟨hs, ?_⟩, fun j x hx => ⟨(he j x hx).1, ?_⟩⟩
      · rw [upd_ne (Ne.symm nds)]; exact e1s
      · rw [upd_ne (fun z => by have := (he j x hx).1; rw [z, od] at this; cases this)]; exact (he j x hx).2
end
end K03
set_option maxRecDepth 100000
set_option maxHeartbeats 4000000
namespace K03
open PySem L2 Pn
section
variable {P : Program} {w : World} {K : PySem.W.Frag} {mg : Str → Option Value} {base : Heap} {t : Adr}
theorem flat_strs (l : List Str) : (l.map V.str).all flatV = true := by rw [List.all_map, List.all_eq_true]; exact fun _ _ => rfl
theorem place_at {sw : Sw} {i : Nat} {x : Str × List Str} (h : sw[i]? = some x) (nd : (sw.map (·.1)).Nodup) : placeM sw x.1 = i := by
  have hi := lt_of_get h
  have ex : sw[i] = x := by rw [List.getElem?_eq_getElem hi] at h; exact Option.some.inj h
  unfold placeM
  rw [List.findIdx_eq hi]
  refine ⟨by rw [ex]; simp, fun j hj => ?_⟩
  have hj2 : j < sw.length := by omega
  refine decide_eq_false fun e => ?_
  have := (List.getElem_inj (i := j) (j := i) (h₀ := by rw [List.length_map]; exact hj2) (h₁ := by rw [List.length_map]; exact hi) nd).mp (by rw [List.getElem_map, List.getElem_map, e, ex])
  omega
theorem valV_set {rows : List (List Str)} {i : Nat} {l : List Str} {z : Str} (nd : l.Nodup) (h : z ∈ l) : valV (l.map fun z => ((.inr z : Key), V.int (maskM rows i z))) (.inr z) = some (.int (maskM rows i z)) := by
  obtain ⟨j, hj, e⟩ := List.mem_iff_getElem.mp h
  refine valV_mem (i := j) ?_ ?_
  · rw [List.map_map]; exact nodup_inr nd
  · rw [List.getElem?_map, List.getElem?_eq_getElem hj, e]; rfl
theorem ok_zu {f : Addr} {fd : FuncData} (Z : Facts K t) (F : FunD K "term" "Panel.term" s_zu f fd .none) (T : Tab P w K mg base 3 (gb_3 K t) bl) : FnOk P w K mg base CX0 4 f fd P_zu (sp_zu K t) := by
  refine F.okW0 sc_zu vi_zu T (rd_zu K t) (fun vs H Q E h => ?_) (fun vs H Q E h => ?_)
  · obtain ⟨p, a, l, s, wd, ss, sw, rfl, _⟩ := h; rfl
  · obtain ⟨p, a, l, s, wd, ss, sw, rfl, ⟨dx, fs, ⟨_, hp⟩, hl, hs, hm⟩, ⟨ds, ed, ⟨_, os⟩, hd⟩, hw, ha, ⟨ne, hL, x, hx, ex, hin⟩, k⟩ := h
    have ex : x.1 = wd := ex
    have ne : ss ≠ [] := ne
    have hL : okL ss := hL
    have hin : ∀ z ∈ ss, z ∈ x.2 := hin
    subst ex
    obtain ⟨i, hi2⟩ := List.mem_iff_getElem?.mp hx
    have hids : i < ds.length := by have := lt_of_get hi2; rw [← ed, List.length_map] at this; exact this
    obtain ⟨⟨x', q⟩, hi⟩ : ∃ z, ds[i]? = some z := ⟨_, List.getElem?_eq_getElem hids⟩
    have : x' = x := by
      rw [← ed, List.getElem?_map, hi] at hi2
      exact Option.some.inj hi2
    subst this
    have oq := (hd i _ hi).2
    have hok := hw.sets x' hx
    have hv : valV (ds.map kR) (.inr x'.1) = some (.ref q) := valV_mem (keys_nd ed hw.2.2.1) (by rw [List.getElem?_map, hi]; rfl)
    have pl := place_at hi2 hw.2.2.1
    have cl := Z.pf.cl
    have na : NoAttr K t.c_zax "sets" := Z.pf.na _ (by simp)
    have gq : ∀ {H'}, Same H H' → DGet H' s (.str x'.1) (some (.ref q)) := fun S => .inl ⟨_, .inr x'.1, .inl (S _ _ os), rfl, hv.symm⟩
    refine ⟨rfl, ?_⟩
    refine Or.inl ⟨_, _, _, _, hp, cl, na, hs, ?_⟩
    refine .inr ⟨_, gq (Same.refl _), ?_⟩
    refine ⟨a, ss, rfl, SqL.of ha, hL, fun H1 S1 => ⟨by decide, fun e he => .inl ⟨a, e, _, _, rfl, rfl, (S1.trans (Same.upd he)).seqL (SqL.of ha), SqL.of upd_same, flat_strs ss, rfl, iteFe ?_ ?_⟩⟩⟩
    · exact eqVs_len (by rw [List.length_map]; intro z; exact ne (List.length_eq_zero_iff.mp z))
    have S2 := S1.trans (Same.upd (o := .lst []) he)
    generalize upd H1 e (.lst []) = H2 at S2 ⊢
    refine .inl ⟨⟨_, S2.seqL (SqL.of ha)⟩, ?_⟩
    refine all_list (K := K) (σ := [none, some (.ref p), some (.str x'.1)]) (yl_list (ss.map V.str)) (fun σ => ∃ v, σ = [v, some (.ref p), some (.str x'.1)]) (fun H3 S3 => (S2.trans S3).seqL (SqL.of ha)) ?_ ⟨_, rfl⟩ (fun σ x ⟨v, e⟩ => ⟨some x, by rw [e]; rfl⟩) ?_ fun D3 H3 S3 q3 => ⟨_, q3, ?_⟩
    · rw [List.length_map]; exact Nat.lt_of_le_of_lt hL.2.2 (by decide)
    · rintro y σ H3 Q1 hy ⟨v, rfl⟩ S3 q1
      obtain ⟨z, hz, rfl⟩ := List.mem_map.mp hy
      have S := S2.trans S3
      refine Or.inl ⟨_, _, _, _, (S _ _ hp), cl, na, hs, ⟨.ref q, gq S, .inr ⟨_, .inl ⟨_, .inr z, .inl (S _ _ oq), rfl, rfl⟩, ?_⟩⟩⟩
      rw [valV_set hok.1.2.1 (hin z hz)]
      exact q1 H3 (Same.refl _)
    · rw [all_yes]
      have S := S2.trans S3
      refine .inl ⟨⟨_, S.seqL (SqL.of ha)⟩, fun D hD => ?_⟩
      refine cmp_map (yl_list (ss.map V.str)) (fun σ => ∃ v, σ = [v, some (.ref p), some (.str x'.1)]) (fun _ => true) (fun v => match v with | .str z => .int (maskM (rowsS sw) i z) | _ => .non) hD (fun H4 S4 => (S.trans S4).seqL (SqL.of ha)) ?_ ⟨_, rfl⟩ ?_ ?_
      · rw [List.length_map]; exact Nat.lt_of_le_of_lt hL.2.2 (by decide)
      · rintro y σ H4 hy ⟨v, rfl⟩ S4 Fin Skip hF hK
        obtain ⟨z, hz, rfl⟩ := List.mem_map.mp hy
        have S5 := S.trans S4
        refine (Or.inl ⟨_, _, _, _, (S5 _ _ hp), cl, na, hs, ⟨.ref q, gq S5, .int (maskM (rowsS sw) i z), .inl ⟨_, .inr z, .inl (S5 _ _ oq), rfl, ?_⟩, ?_⟩⟩)
        · rw [valV_set hok.1.2.1 (hin z hz)]
        · exact hF _ _ _ ⟨_, rfl⟩ (Same.refl _) rfl rfl
      · intro H4 S4 eD
        refine ⟨D, ss.map (maskM (rowsS sw) i), rfl, SqL.of (eD.trans ?_), ?_⟩
        · rw [List.filter_eq_self.mpr (fun _ _ => rfl), List.map_map, List.map_map]; rfl
        · have := k H4 (S.trans S4)
          unfold termM at this
          rw [pl] at this
          exact this
theorem ok_zy {f : Addr} {fd : FuncData} (Z : Facts K t) (F : FunD K "box" "Panel.box" s_zy f fd .none) (T : Tab P w K mg base 4 (gb_4 K t) bl) : FnOk P w K mg base CX0 5 f fd P_zy (sp_zy K t) := by
  refine F.okW0 sc_zy vi_zy T (rd_zy K t) (fun vs H Q E h => ?_) (fun vs H Q E h => ?_)
  · obtain ⟨p, r, l, s, sw, rule, rfl, _⟩ := h; rfl
  · obtain ⟨p, r, l, s, sw, rule, rfl, hs, ht, hse, hw, ⟨ds, ed, ⟨_, od⟩, hd⟩, hr, k⟩ := h
    obtain ⟨dx, fs, ⟨np, hp⟩, _, _, hm⟩ := id hs
    have len : ds.length = rule.length := by rw [← ed]; simp
    refine ⟨_, true, .of (.dK od), rfl, ⟨p, dx, fs, ⟨t.c_zax, i_zc K t⟩, rfl, .head _, hp, hm _ (by decide), ⟨Nat.le_of_ble_eq_true rfl, Nat.le_of_ble_eq_true rfl⟩, p, l, s, sw, rfl, hs.mono Kp.any, ht.mono Kp.any, hw.len, ?_⟩⟩
    refine .inr (.inr (.inl ⟨_, od, fun o => ?_⟩))
    have kf : Kp (· ≠ r) H (· ≠ r) (upd H r (.frz o (.dK (ds.map kR)))) := Kp.off (fun e => e rfl)
    have ef : upd H r (.frz o (.dK (ds.map kR))) r = some (.frz o (.dK (ds.map kR))) := upd_same
    have hd2 : ∀ x ∈ ds, upd H r (.frz o (.dK (ds.map kR))) x.2 = some (lstO x.1.2) := fun x hx => by
      rw [upd_ne (fun e => by have := (hd x hx).2; rw [e, od] at this; cases this)]
      exact (hd x hx).2
    show ForW (Itd r o (ds.map kR)) _ _ _ [some (.ref p), some (.ref r), some (.int (allM sw)), none] _
    generalize hHf : upd H r (.frz o (.dK (ds.map kR))) = Hf at kf ef hd2 ⊢
    refine for_by (yl_dict (ds.map kR)) (fun i σ H' => (∃ v3, σ = [some (.ref p), some (.ref r), some (.int ((rule.take i).foldl (fun c e => Builtin.bitAnd c (termM sw e)) (allM sw))), v3]) ∧ Same Hf H') ⟨⟨_, rfl⟩, Same.refl _⟩ (fun i σ H' _ q => q.2 _ _ ef) ?_ ?_
    · rintro i x σ H1 hx ⟨⟨v3, rfl⟩, S1⟩
      obtain ⟨kv, hi0, rfl⟩ := get_map hx
      obtain ⟨⟨e, la⟩, hi, rfl⟩ := get_map hi0
      have hi2 : rule[i]? = some e := by rw [← ed, List.getElem?_map, hi]; rfl
      have hv : valV (ds.map kR) (.inr e.1) = some (.ref la) := valV_mem (keys_nd ed hr.2.2.1) hi0
      have kn : Kp (· ≠ r) H any H1 := (kf.trans (Kp.same S1)).trans Kp.any
      refine ⟨p, dx, fs, ⟨t.c_zax, i_zu K t⟩, rfl, .head _, (kn _ _ ⟨np, hp⟩).2, hm _ (by decide), ⟨Nat.le_of_ble_eq_true rfl, Nat.le_of_ble_eq_true rfl⟩, .ref la, .inl ⟨_, .inr e.1, .inr ⟨o, S1 _ _ ef⟩, rfl, hv.symm⟩, ?_⟩
      refine ⟨p, la, l, s, e.1, e.2, sw, rfl, hs.mono kn, hse.mono kn, hw, S1 _ _ (hd2 _ (List.mem_of_getElem? hi)), hr.2.2.2 e (List.mem_of_getElem? hi2), fun H2 S2 => ?_⟩
      exact ⟨⟨_, congrArg (fun z => [some (V.ref p), some (V.ref r), some (V.int z), some (V.str e.1)]) (foldl_take hi2 (fun c e => Builtin.bitAnd c (termM sw e)) (allM sw)).symm⟩, S1.trans S2⟩
    · rintro σ H1 ⟨⟨v3, rfl⟩, S1⟩
      rw [List.length_map, List.length_map, len, List.take_length]
      exact .inr ⟨r, o, _, od, S1 _ _ ef, k _ (Same.thaw od (hHf ▸ S1))⟩
theorem ok_zi {f : Addr} {fd : FuncData} (Z : Facts K t) (F : FunD K "read_rule" "Panel.read_rule" s_zi f fd .none) (T : Tab P w K mg base 5 (gb_5 K t) bl) : FnOk P w K mg base CX0 6 f fd P_zi (sp_zi K t) := by
  refine F.okW0 sc_zi vi_zi T (rd_zi K t) (fun vs H Q E h => ?_) (fun vs H Q E h => ?_)
  · obtain ⟨p, r, l, s, sw, rule, rfl, _⟩ := h; rfl
  · obtain ⟨p, r, l, s, sw, rule, rfl, hs, ht, hse, hw, hrl, hr, k⟩ := h
    obtain ⟨ds, ed, ⟨_, od⟩, hd⟩ := id hrl
    obtain ⟨dx, fs, ⟨np, hp⟩, _, _, hm⟩ := id hs
    have len : ds.length = rule.length := by rw [← ed]; simp
    have pos : 0 < rule.length := List.length_pos_iff.mpr hr.1
    refine ⟨_, true, .of (.dK od), rfl, (.inr ⟨_, .inl od, iteFe ?_ ?_⟩)⟩
    · refine decide_eq_false fun e => ?_
      rw [List.length_map] at e
      omega
    refine ⟨p, dx, fs, ⟨t.c_zax, i_zy K t⟩, rfl, .head _, hp, hm _ (by decide), ⟨Nat.le_of_ble_eq_true rfl, Nat.le_of_ble_eq_true rfl⟩, p, r, l, s, sw, rule, rfl, hs, ht, hse, hw, hrl, hr, fun H1 S1 => ?_⟩
    exact ⟨r, rule, rfl, hrl.mono (Kp.same S1), hr.2.2.1, hr.2.1, fun H2 c S2 R2 => k H2 c (S1.trans S2) (R2.mono (Kp.fresh S1))⟩
theorem ok_ze {f : Addr} {fd : FuncData} (Z : Facts K t) (F : FunD K "read_rules" "Panel.read_rules" s_ze f fd .none) (T : Tab P w K mg base 6 (gb_6 K t) bl) : FnOk P w K mg base CX0 7 f fd P_ze (sp_ze K t) := by
  refine F.okW0 sc_ze vi_ze T (rd_ze K t) (fun vs H Q E h => ?_) (fun vs H Q E h => ?_)
  · obtain ⟨p, l, s, ok, v, sw, rules, rfl, _⟩ := h; rfl
  · obtain ⟨p, l, s, ok, v, sw, rules, rfl, hs, ht, hse, hw, hv, hr, h8, k⟩ := h
    rcases hv with ⟨rfl, rfl⟩ | ⟨kk, rfl, ds, ed, ⟨nk, ok1⟩, hd⟩
    · refine ⟨by decide, fun q hq => k _ q (Same.upd hq) ⟨[], rfl, ⟨hq, upd_same⟩, fun x hx => by cases hx⟩⟩
    · obtain ⟨dx, fs, ⟨op, hp⟩, _, _, hm⟩ := id hs
      have len : (ds.map fun x => V.ref x.2).length = rules.length := by rw [← ed]; simp
      refine ⟨_, true, .sqL rfl (SqL.of ok1) rfl, rfl, (.inl ⟨_, .inl (SqL.of ok1), iteFe ?_ ?_⟩)⟩
      · refine decide_eq_false fun e => ?_
        rw [len] at e
        omega
      refine .inl ⟨⟨_, SqL.of ok1⟩, fun D hD => ?_⟩
      refine cmp_by (yl_list (ds.map fun x => V.ref x.2)) (fun m σ H' => (∃ v, σ = [v, some (.ref p)]) ∧ Same H H' ∧ ∃ fs : List (Sw × Addr), fs.map (·.1) = rules.take m ∧ H' D = some (.lst (fs.map fun x => .ref x.2)) ∧ ∀ x ∈ fs, RuleAt (fun a => H a = none ∧ a ≠ D) H' x.2 x.1)
        ⟨⟨_, rfl⟩, Same.upd hD, [], rfl, upd_same, fun x hx => by cases hx⟩ (fun m σ H' _ q => q.2.1.seqL (SqL.of ok1)) ?_ ?_
      · rintro m x σ H1 hx ⟨⟨v, rfl⟩, S1, gs, eg, eD, hg⟩
        obtain ⟨⟨rule, r⟩, hm2, rfl⟩ := get_map hx
        have hm3 : rules[m]? = some rule := by rw [← ed, List.getElem?_map, hm2]; rfl
        have hrl := hd _ (List.mem_of_getElem? hm2)
        have nr : ¬ ok r := by obtain ⟨_, _, o, _⟩ := hrl; exact o.1
        have kw : Kp ok H (· ≠ r) H1 := (Kp.same S1).trans (Kp.weak fun a h e => nr (e ▸ h))
        refine ⟨p, dx, fs, ⟨t.c_zax, i_zi K t⟩, rfl, .head _, S1 _ _ hp, hm _ (by decide), ⟨Nat.le_of_ble_eq_true rfl, Nat.le_of_ble_eq_true rfl⟩, p, r, l, s, sw, rule, rfl, hs.mono kw, ht.mono kw, hse.mono kw, hw, hrl.mono ((Kp.same S1).trans Kp.any), hr rule (List.mem_of_getElem? hm3), fun H2 c S2 R2 => ?_⟩
        have eD2 := S2 _ _ eD
        refine ⟨_, eD2, ?_, ⟨_, rfl⟩, (S1.trans S2).set hD, gs ++ [(rule, c)], es_snoc eg hm3, ?_, ?_⟩
        · rw [List.length_map]
          have := es_len eg
          exact Nat.lt_of_le_of_lt (show gs.length ≤ 8 by omega) (by decide)
        · rw [upd_same, List.map_append]; rfl
        · have ko : Kp (fun a => H a = none ∧ a ≠ D) H2 (fun a => H a = none ∧ a ≠ D) (upd H2 D (.lst ((gs.map fun x => V.ref x.2) ++ [.ref c]))) := Kp.off (fun e => e.2 rfl)
          intro x hx
          rcases List.mem_append.mp hx with hx | hx
          · exact (hg x hx).mono ((Kp.same S2).trans ko)
          · have : x = (rule, c) := by simpa using hx
            subst this
            exact R2.mono ((Kp.weak fun a h => ⟨S1.free h, (ne_of_none eD h).symm⟩).trans ko)
      · rintro σ H1 ⟨_, S1, gs, eg, eD, hg⟩
        rw [len, List.take_length] at eg
        exact k H1 D S1 ⟨gs, eg, ⟨hD, eD⟩, fun x hx => (hg x hx).mono (Kp.weak fun a h => h.1)⟩
end
end K03
set_option maxRecDepth 100000
set_option maxHeartbeats 4000000
namespace K03
open PySem L2 Pn
section
variable {P : Program} {w : World} {K : PySem.W.Frag} {mg : Str → Option Value} {base : Heap} {t : Adr}
theorem raise_ok {H : Hp} {z : Str} {D : Outs} {σ : St} {C : Addr} (en : ECls K C) (k : ∀ a, H a = none → D.ex σ a (upd (upd H a (excO a C none)) a (flO a C none))) :
    dRaise K (dFn (fun vs H Q E => vs.length ≤ 1000 ∧ mkX C none 0 vs H Q E) (dCons (dC (.str z)) dNil)) D σ H := ⟨Nat.le_of_ble_eq_true rfl, fun a ha => ⟨C, none, upd_same, en, k a ha⟩⟩
theorem bad_ok {H : Hp} {E : XK} (Z : Facts K t) {z : Str} {Q : VK} {σ : St} (k : Bad t H E) : dRaise K (dFn (fun vs H Q E => vs.length ≤ 1000 ∧ mkX t.c_zav none 0 vs H Q E) (dCons (dC (.str z)) dNil)) (endsX Q E) σ H :=
  raise_ok Z.pf.en fun a ha => k _ a (fun b o e => by rw [upd_ne (ne_of_none e ha), upd_ne (ne_of_none e ha)]; exact e) upd_same
theorem bad_up {H H1 : Hp} {E : XK} (S : Same H H1) (k : Bad t H E) : Bad t H1 E := fun H' e S' q => k H' e (S.trans S') q
theorem _root_.Pn.PanAt.self {C p dx d l n s k b : Addr} {ok : Addr → Prop} {H : Hp} {sw : Sw} {rules : List Sw} (h : PanAt C ok H p sw rules dx d l n s k b) : SelfAt C ok H p l s := by
  refine ⟨dx, _, h.ins, rfl, rfl, fun m hm => ?_⟩
  simp only [List.mem_cons, List.not_mem_nil, or_false] at hm
  rcases hm with rfl | rfl | rfl | rfl | rfl | rfl <;> rfl
theorem ok_zd {f : Addr} {fd : FuncData} (Z : Facts K t) (F : FunD K "need_number" "Panel.need_number" s_zd f fd .none) (T : Tab P w K mg base 1 (gb_1 K t) bl) : FnOk P w K mg base (CXE P w) 2 f fd P_zd (sp_zd K t) := by
  refine F.okWX sc_zd vi_zd T (rd_zd K t) (fun vs H Q E h => ?_) (fun vs H Q E h => ?_)
  · obtain ⟨p, v, sw, rules, rfl, _⟩ := h; rfl
  · obtain ⟨p, v, sw, rules, rfl, ⟨dx, d, l, n, s, kk, b, h⟩, k⟩ := h
    have many : ∀ {σ : St} {Q' : VK} {E' : EK}, σ[0]? = some (some (.ref p)) → Q' (.int (rowsS sw).length) H → dOwn "many" 0 (mt_many K t) (dVar 0) dNil σ H Q' E' := fun hσ q => by
      unfold dOwn dVar
      rw [hσ]
      exact ⟨p, dx, _, ⟨t.c_zax, i_zt K t⟩, rfl, .head _, h.ins.2, rfl, ⟨Nat.le_of_ble_eq_true rfl, Nat.le_of_ble_eq_true rfl⟩, p, l, s, sw, rfl, h.self, h.tps, q⟩
    rcases k with ⟨i, rfl, hi, k⟩ | ⟨hb, k⟩
    · refine ⟨_, rfl, rfl, ?_⟩
      have e1 : decide ((0 : Int) ≤ (i : Int)) = true := by simp
      have e2 : decide ((i : Int) < ((rowsS sw).length : Int)) = true := by simp; exact hi
      exact ⟨p, dx, _, ⟨t.c_zax, i_zt K t⟩, rfl, .head _, h.ins.2, rfl, ⟨Nat.le_of_ble_eq_true rfl, Nat.le_of_ble_eq_true rfl⟩, p, l, s, sw, rfl, h.self, h.tps, iteFe (by rw [e2]; rfl) k⟩
    · cases v with
      | int i =>
        refine ⟨_, rfl, rfl, ?_⟩
        show if decide ((0 : Int) ≤ i) = true then _ else _
        refine ite2 (fun e1 => many (by rfl) (iteTe ?_ (bad_ok Z k))) (fun e1 => bad_ok (Q := Q) (σ := [some (.ref p), some (.int i)]) Z k)
        have e1 : (0 : Int) ≤ i := by simpa using e1
        have hb : ¬ (0 ≤ i ∧ i < ((rowsS sw).length : Int)) := hb
        have : decide (i < ((rowsS sw).length : Int)) = false := decide_eq_false fun z => hb ⟨e1, z⟩
        rw [this]
        rfl
      | bl b => exact ⟨_, rfl, rfl, bad_ok (Q := Q) (σ := [some (.ref p), some (.bl b)]) Z k⟩
      | non => exact ⟨_, rfl, rfl, bad_ok (Q := Q) (σ := [some (.ref p), some .non]) Z k⟩
      | str z => exact ⟨_, rfl, rfl, bad_ok (Q := Q) (σ := [some (.ref p), some (.str z)]) Z k⟩
      | _ => exact hb.elim
theorem ok_zv {f : Addr} {fd : FuncData} (Z : Facts K t) (F : FunD K "told" "Panel.told" s_zv f fd .none) (T : Tab P w K mg base 2 (gb_2 K t) bl) : FnOk P w K mg base (CXE P w) 3 f fd P_zv (sp_zv K t) := by
  refine F.okWX sc_zv vi_zv T (rd_zv K t) (fun vs H Q E h => ?_) (fun vs H Q E h => ?_)
  · obtain ⟨p, v, sw, rules, rfl, _⟩ := h; rfl
  · obtain ⟨p, v, sw, rules, rfl, hP, k⟩ := h
    obtain ⟨dx, d, l, n, s, kk, b, h⟩ := id hP
    refine ⟨p, dx, _, ⟨t.c_zax, i_zd K t⟩, rfl, .head _, h.ins.2, rfl, ⟨Nat.le_of_ble_eq_true rfl, Nat.le_of_ble_eq_true rfl⟩, p, v, sw, rules, rfl, hP, ?_⟩
    rcases k with ⟨i, r, rfl, hi, k⟩ | ⟨hb, k⟩
    · refine .inl ⟨i, rfl, lt_of_get hi, ?_⟩
      obtain ⟨ds, ed, ⟨_, ol⟩, hd⟩ := h.tps
      have hids : i < ds.length := by have := lt_of_get hi; rw [← ed, List.length_map] at this; exact this
      obtain ⟨⟨r', q⟩, hi'⟩ : ∃ z, ds[i]? = some z := ⟨_, List.getElem?_eq_getElem hids⟩
      have : r' = r := by
        rw [← ed, List.getElem?_map, hi'] at hi
        exact Option.some.inj hi
      subst this
      refine Or.inl ⟨_, _, _, _, h.ins.2, Z.pf.cl, (Z.pf.na _ (by simp)), rfl, ⟨_, .ref q, .inl (SqL.of ol), atI_nat (j := i) (by rw [List.getElem?_map, hi']; rfl), ?_⟩⟩
      exact k q (hd _ (List.mem_of_getElem? hi')).2
    · exact .inr ⟨hb, fun H' e S q => ⟨e, rfl, k H' e S q⟩⟩
theorem ok_zm {f : Addr} {fd : FuncData} (Z : Facts K t) (F : FunD K "barred" "Panel.barred" s_zm f fd .none) (T : Tab P w K mg base 2 (gb_2 K t) bl) : FnOk P w K mg base (CXE P w) 3 f fd P_zm (sp_zm K t) := by
  refine F.okWX sc_zm vi_zm T (rd_zm K t) (fun vs H Q E h => ?_) (fun vs H Q E h => ?_)
  · obtain ⟨p, v, sw, rfl, _⟩ := h; rfl
  · obtain ⟨p, v, sw, rfl, hP, k⟩ := h
    obtain ⟨dx, d, l, n, s, kk, b, h⟩ := id hP
    refine ⟨p, dx, _, ⟨t.c_zax, i_zd K t⟩, rfl, .head _, h.ins.2, rfl, ⟨Nat.le_of_ble_eq_true rfl, Nat.le_of_ble_eq_true rfl⟩, p, v, sw, [], rfl, hP, ?_⟩
    rcases k with ⟨i, rfl, hi, k⟩ | ⟨hb, k⟩
    · refine .inl ⟨i, rfl, hi, ?_⟩
      have ob : H b = some (.lst []) := h.brs.2
      refine Or.inl ⟨_, _, _, _, h.ins.2, Z.pf.cl, (Z.pf.na _ (by simp)), rfl, (.inl ⟨⟨_, SqL.of ob⟩, ?_⟩)⟩
      refine for_by2 (yl_enum []) (fun _ _ H' => H' = H) rfl (fun i σ H' _ q => by rw [q]; exact SqL.of ob) (fun i x y T σ H' e => by simp [enumV] at e) ?_
      rintro σ H' rfl
      exact .inl k
    · exact .inr ⟨hb, fun H' e S q => ⟨e, rfl, k H' e S q⟩⟩
theorem ok_zo {f : Addr} {fd : FuncData} (Z : Facts K t) (F : FunD K "rules" "Panel.rules" s_zo f fd .none) (T : Tab P w K mg base 1 (gb_1 K t) bl) : FnOk P w K mg base CX0 2 f fd P_zo (sp_zo K t) := by
  refine F.okW0 sc_zo vi_zo T (rd_zo K t) (fun vs H Q E h => ?_) (fun vs H Q E h => ?_)
  · obtain ⟨p, sw, rfl, _⟩ := h; rfl
  · obtain ⟨p, sw, rfl, ⟨dx, d, l, n, s, kk, b, h⟩, k⟩ := h
    obtain ⟨ds, ed, ⟨_, ok⟩, _⟩ := h.rls
    have : ds = [] := by simpa using ed
    subst this
    refine Or.inl ⟨_, _, _, _, h.ins.2, Z.pf.cl, (Z.pf.na _ (by simp)), rfl, (.inl ⟨⟨_, SqL.of ok⟩, fun D hD => ?_⟩)⟩
    refine cmp_by (yl_list []) (fun _ _ H' => H' = upd H D (.lst [])) rfl (fun i σ H' _ q => by rw [q]; exact (Same.upd hD).seqL (SqL.of ok)) (fun i x σ H' e => by simp at e) ?_
    rintro σ H' rfl
    exact k _ D (Same.upd hD) upd_same
theorem ok_zj {f : Addr} {fd : FuncData} (Z : Facts K t) (F : FunD K "switches" "Panel.switches" s_zj f fd .none) (T : Tab P w K mg base 0 (gb_0 K t) bl) : FnOk P w K mg base CX0 1 f fd P_zj (sp_zj K t) := by
  refine F.okW0 sc_zj vi_zj T (rd_zj K t) (fun vs H Q E h => ?_) (fun vs H Q E h => ?_)
  · obtain ⟨p, sw, rules, rfl, _⟩ := h; rfl
  · obtain ⟨p, sw, rules, rfl, ⟨dx, d, l, n, s, kk, b, h⟩, hw, k⟩ := h
    obtain ⟨ds, ed, ⟨_, od⟩, hd⟩ := h.sws
    have len : ds.length = sw.length := by rw [← ed]; simp
    refine Or.inl ⟨_, _, _, _, h.ins.2, Z.pf.cl, (Z.pf.na _ (by simp)), rfl, ⟨_, .inl od, ?_, fun q Ts H' S hq eq lt la => ?_⟩⟩
    · rw [List.length_map, len]; have := hw.2.1; omega
    have lt : Ts.length = ds.length := by rw [lt, List.length_map]
    refine k H' q (ds.zip Ts) S hq ?_ ?_ ?_
    · rw [← ed, show (ds.zip Ts).map (·.1.1) = ((ds.zip Ts).map (·.1)).map (·.1) by rw [List.map_map]; rfl, List.map_fst_zip (by omega)]
    · rw [eq, show ((ds.zip Ts).map fun x => V.ref x.2) = ((ds.zip Ts).map (·.2)).map V.ref by rw [List.map_map]; rfl, List.map_snd_zip (by omega)]
    · intro x hx
      obtain ⟨j, hj, e⟩ := List.mem_iff_getElem.mp hx
      have e2 : (ds.zip Ts)[j]? = some x := by rw [List.getElem?_eq_getElem hj, e]
      obtain ⟨x1, x2⟩ := x
      rw [List.getElem?_zip_eq_some] at e2
      obtain ⟨e3, e4⟩ := e2
      have hl := la j _ _ x2 (show (ds.map kR)[j]? = some (.inr x1.1.1, .ref x1.2) by rw [List.getElem?_map, e3]; rfl) e4
      exact ⟨hl.2, S _ _ (hd x1 (List.mem_of_getElem? e3)).2⟩
theorem isi_str_list {H : Hp} {R : Hp → Addr → Prop} {l : Addr} {r : List Str} (ha : H l = some (lstO r)) (hl : r.length ≤ 1000) (k : ∀ D H', Same H H' → SqL K H' D (((r.map V.str).map fun _ => true).map V.bl) → R H' D) :
    ∀ D, H D = none → CmpW (Itl K l) (gdN 0) dYes (dFn (fun vs H Q _ => (rIsi K) vs H Q) (dCons (dVar 0) (dCons (dC (.ty "str")) dNil))) D (fun H' => R H' D) [none] (upd H D (.lst [])) := by
  refine all_list (K := K) (σ := [none]) (yl_list (r.map V.str)) (fun σ => σ.length = 1) (fun H1 S => S.seqL (SqL.of ha)) ?_ rfl (fun σ x hσ => by rw [List.length_set]; exact hσ) ?_ k
  · rw [List.length_map]; exact Nat.lt_of_le_of_lt hl (by decide)
  · intro x σ H1 Q1 hx hσ S q
    obtain ⟨z, hz, rfl⟩ := List.mem_map.mp hx
    match σ, hσ with
    | [_], _ => exact ⟨rfl, q H1 (Same.refl _)⟩
theorem ok_zh {f : Addr} {fd : FuncData} (Z : Facts K t) (F : FunD K "number_of" "Panel.number_of" s_zh f fd .none) (T : Tab P w K mg base 0 (gb_0 K t) bl) : FnOk P w K mg base (CXE P w) 1 f fd P_zh (sp_zh K t) := by
  refine F.okWX sc_zh vi_zh T (rd_zh K t) (fun vs H Q E h => ?_) (fun vs H Q E h => ?_)
  · obtain ⟨p, a, r, sw, rules, rfl, _⟩ := h; rfl
  · obtain ⟨p, a, r, sw, rules, rfl, ⟨dx, d, l, n, s, kk, b, h⟩, hw, ha, hl, k⟩ := h
    refine ⟨by decide, fun T hT => .inr ⟨["list", "tuple"], SqT.of upd_same, rfl, .inl ⟨⟨_, (Same.upd hT).seqL (SqL.of ha)⟩, ?_⟩⟩⟩
    have ST := Same.upd (o := .tup [.ty "list", .ty "tuple"]) hT
    generalize upd H T (.tup [.ty "list", .ty "tuple"]) = H1 at ST ⊢
    refine .inl ⟨⟨_, ST.seqL (SqL.of ha)⟩, ?_⟩
    refine isi_str_list (ST _ _ ha) hl fun D2 H2 S2 q2 => ⟨_, q2, ?_⟩
    rw [all_yes]
    have S := ST.trans S2
    have on : H n = some (.dT (numK 0 (rowsS sw))) := h.nms.2
    refine Or.inl ⟨_, _, _, _, (S _ _ h.ins.2), Z.pf.cl, (Z.pf.na _ (by simp)), rfl, ⟨.inr (.inr (.inl ⟨rfl, .inr ⟨_, S _ _ on⟩⟩)), _, .inl ⟨S.seqL (SqL.of ha), fun u hu => ?_⟩⟩⟩
    have Su := Same.upd (o := tupO r) hu
    have eu : upd H2 u (tupO r) u = some (.tup ((r.map (Sum.inr : Str → Key)).map kV)) := by rw [upd_same, tup_key]
    generalize upd H2 u (tupO r) = H3 at Su eu ⊢
    have S3 := S.trans Su
    have hg : DGet H3 n (.ref u) (valV (numK 0 (rowsS sw)) (r.map .inr)) := DGet.t (S3 _ _ on) eu
    refine ⟨_, hg, ?_⟩
    have rows := rows_ok hw.sets
    have nd : ((numK 0 (rowsS sw)).map (·.1)).Nodup := by
      rw [numK_keys]
      exact List.Pairwise.map _ (fun a b ne e => ne (inrs_inj e)) rows.1
    rcases k with ⟨i, hi, k⟩ | ⟨hn, k⟩
    · rw [valV_mem nd (numK_get hi), Nat.zero_add]
      exact (k H3 S3)
    · have : valV (numK 0 (rowsS sw)) (r.map .inr) = none := by
        refine valV_none ?_
        rw [numK_keys]
        intro hm
        obtain ⟨r2, h1, h2⟩ := List.mem_map.mp hm
        rw [inrs_inj h2] at h1
        exact hn h1
      rw [this]
      exact bad_ok (Q := Q) (σ := [some (.ref p), some (.ref a), some .non]) Z (bad_up S3 k)
end
end K03
set_option maxRecDepth 100000
set_option maxHeartbeats 4000000
namespace K03
open PySem L2 Pn
section
variable {P : Program} {w : World} {K : PySem.W.Frag} {mg : Str → Option Value} {base : Heap} {t : Adr}
theorem fld_ok {f : Str} {p C dx : Addr} {fs fs' : List (Str × V)} {y : V} {H : Hp} {N : Hp → Prop} (hp : H p = some (.ins C dx fs)) (c : Cls K C) (n : NoAttr K C f) (l : fs.length < 1000) (e : putF f y fs = fs') (k : ∀ H', (∀ b, b ≠ p → H' b = H b) → H' p = some (.ins C dx fs') → N H') : rSetD K f (.ref p) y H N :=
  .inl ⟨C, dx, fs, hp, c, n, l, k _ (fun b hb => upd_ne hb) (by rw [upd_same, e])⟩
theorem Kp.but {ok : Addr → Prop} {p : Addr} {H H' : Hp} (h : ∀ b, b ≠ p → H' b = H b) (n : ¬ ok p) : Kp ok H ok H' := fun a o q => ⟨q.1, by rw [h a (fun e => n (e ▸ q.1))]; exact q.2⟩
theorem Off.but {p : Addr} {H H1 H2 : Hp} (h : Off p H H1) (e : ∀ b, b ≠ p → H2 b = H1 b) : Off p H H2 := fun b u n q => by rw [e b n]; exact h b u n q
theorem Off.fr {p : Addr} {u : HO} {H H1 : Hp} (h : Off p H H1) (e : H1 p = some u) : ∀ b, H1 b = none → H b = none := fun b q => h.free (fun z => by rw [z, e] at q; cases q) q
structure Pc (ok : Addr → Prop) (H : Hp) (d l n s : Addr) (sw : Sw) : Prop where
  sws : SwAt ok H d sw
  tps : TupsAt ok H l (rowsS sw)
  nms : NumAt ok H n (rowsS sw)
  sts : SetsAt ok H s sw
theorem Pc.mono {ok ok' : Addr → Prop} {H H' : Hp} {d l n s : Addr} {sw : Sw} (h : Pc ok H d l n s sw) (k : Kp ok H ok' H') : Pc ok' H' d l n s sw := ⟨h.sws.mono k, h.tps.mono k, h.nms.mono k, h.sts.mono k⟩
abbrev fl1 (d : Addr) : List (Str × V) := [("settings", .ref d)]
abbrev fl2 (d l : Addr) : List (Str × V) := [("settings", .ref d), ("tuples", .ref l)]
abbrev fl3 (d l n : Addr) : List (Str × V) := [("settings", .ref d), ("tuples", .ref l), ("numbers", .ref n)]
abbrev fl4 (d l n s : Addr) : List (Str × V) := [("settings", .ref d), ("tuples", .ref l), ("numbers", .ref n), ("sets", .ref s)]
abbrev fl5 (d l n s k : Addr) : List (Str × V) := [("settings", .ref d), ("tuples", .ref l), ("numbers", .ref n), ("sets", .ref s), ("kept_rules", .ref k)]
abbrev fl6 (d l n s k b : Addr) : List (Str × V) := [("settings", .ref d), ("tuples", .ref l), ("numbers", .ref n), ("sets", .ref s), ("kept_rules", .ref k), ("bars", .ref b)]
theorem no_meth {fs : List (Str × V)} (h : fs.lookup ("all_choices" : Str) = none ∧ fs.lookup ("box" : Str) = none ∧ fs.lookup ("many" : Str) = none ∧ fs.lookup ("term" : Str) = none ∧ fs.lookup ("read_rule" : Str) = none ∧ fs.lookup ("read_rules" : Str) = none) : ∀ m ∈ (["all_choices", "box", "many", "term", "read_rule", "read_rules"] : List Str), fs.lookup m = none := by
  intro m hm
  simp only [List.mem_cons, List.not_mem_nil, or_false] at hm
  rcases hm with rfl | rfl | rfl | rfl | rfl | rfl
  · exact h.1
  · exact h.2.1
  · exact h.2.2.1
  · exact h.2.2.2.1
  · exact h.2.2.2.2.1
  · exact h.2.2.2.2.2
theorem ok_zs {f : Addr} {fd : FuncData} (Z : Facts K t) (F : FunD K "__init__" "Panel.__init__" s_zs f fd t.dv_zs) (T : Tab P w K mg base 7 (gb_7 K t) bl) : FnOk P w K mg base CX0 8 f fd P_zs (sp_zs K t) := by
  refine F.okW0 sc_zs vi_zs T (rd_zs K t) (fun vs H Q E h => ?_) (fun vs H Q E h => ?_)
  · obtain ⟨p, a, dx, v, sw, rules, rfl, _⟩ := h; rfl
  · obtain ⟨p, a, dx, v, sw, rules, rfl, hp, hsw, hw, hrl, hr, h8, hf, k⟩ := h
    have cl := Z.pf.cl
    have na := Z.pf.na
    have nf : ¬ fresh H p := (not_fresh hp)
    refine ⟨a, sw, rfl, hsw.mono Kp.any, hw, fun H1 d S1 A1 => ?_⟩
    refine fld_ok (S1 _ _ hp) cl (na _ (by simp)) (Nat.le_of_ble_eq_true rfl) (fs' := fl1 d) rfl fun H2 b2 p2 => ?_
    have O2 : Off p H H2 := fun b u n e => by rw [b2 b n]; exact S1 _ _ e
    have A2 := A1.mono (Kp.but b2 nf)
    refine Or.inl ⟨_, _, _, _, p2, cl, (na _ (by simp)), rfl, ⟨d, sw, rfl, A2.mono Kp.any, hw, fun H3 l S3 T3 => ?_⟩⟩
    refine fld_ok (S3 _ _ p2) cl (na _ (by simp)) (Nat.le_of_ble_eq_true rfl) (fs' := fl2 d l) rfl fun H4 b4 p4 => ?_
    have O4 := (O2.up S3).but b4
    have A4 := A2.mono ((Kp.same S3).trans (Kp.but b4 nf))
    have T4 := T3.mono ((Kp.weak (O2.fr p2)).trans (Kp.but b4 nf))
    refine Or.inl ⟨_, _, _, _, p4, cl, (na _ (by simp)), rfl, ⟨l, rowsS sw, rfl, T4.mono Kp.any, (rows_ok hw.sets).1, hw.len, fun H5 n S5 N5 => ?_⟩⟩
    refine fld_ok (S5 _ _ p4) cl (na _ (by simp)) (Nat.le_of_ble_eq_true rfl) (fs' := fl3 d l n) rfl fun H6 b6 p6 => ?_
    have O6 := (O4.up S5).but b6
    have A6 := A4.mono ((Kp.same S5).trans (Kp.but b6 nf))
    have T6 := T4.mono ((Kp.same S5).trans (Kp.but b6 nf))
    have N6 := N5.mono ((Kp.weak (O4.fr p4)).trans (Kp.but b6 nf))
    refine Or.inl ⟨_, _, _, _, p6, cl, (na _ (by simp)), rfl, (Or.inl ⟨_, _, _, _, p6, cl, (na _ (by simp)), rfl, ⟨d, l, sw, rfl, A6.mono Kp.any, T6.mono Kp.any, hw, fun H7 s S7 E7 => ?_⟩⟩)⟩
    refine fld_ok (S7 _ _ p6) cl (na _ (by simp)) (Nat.le_of_ble_eq_true rfl) (fs' := fl4 d l n s) rfl fun H8 b8 p8 => ?_
    have O8 := (O6.up S7).but b8
    have k78 := (Kp.same (ok := fresh H) S7).trans (Kp.but b8 nf)
    have P8 : Pc (fresh H) H8 d l n s sw := ⟨A6.mono k78, T6.mono k78, N6.mono k78, E7.mono ((Kp.weak (O6.fr p6)).trans (Kp.but b8 nf))⟩
    have P8' : Pc (fun b => H b = none ∧ H8 b ≠ none) H8 d l n s sw := P8.mono fun b o q => ⟨⟨q.1, by rw [q.2]; exact fun z => nomatch z⟩, q.2⟩
    have w8 : Kp (fresh H) H8 (fun b => b = p ∨ H b = none) H8 := Kp.weak fun b e => .inr e
    have RI : RulesIn (fun b => ¬ (b = p ∨ H b = none)) H8 v rules := by
      rcases hrl with h | ⟨kk, e, R⟩
      · exact .inl h
      · refine .inr ⟨kk, e, R.mono fun b o q => ⟨fun z => ?_, O8 _ _ q.1 q.2⟩⟩
        rcases z with z | z
        · exact q.1 z
        · have := q.2; rw [z] at this; cases this
    refine ⟨p, dx, _, ⟨t.c_zax, i_ze K t⟩, rfl, .head _, p8, rfl, ⟨Nat.le_of_ble_eq_true rfl, Nat.le_of_ble_eq_true rfl⟩, p, l, s, (fun b => b = p ∨ H b = none), v, sw, rules, rfl, ⟨dx, _, ⟨.inl rfl, p8⟩, rfl, rfl, no_meth ⟨rfl, rfl, rfl, rfl, rfl, rfl⟩⟩, P8.tps.mono w8, P8.sts.mono w8, hw, RI, hr, h8, fun H9 kk S9 R9 => ?_⟩
    refine fld_ok (S9 _ _ p8) cl (na _ (by simp)) (Nat.le_of_ble_eq_true rfl) (fs' := fl5 d l n s kk) rfl fun H10 b10 p10 => ?_
    have O10 := (O8.up S9).but b10
    have n8 : ¬ fresh H8 p := (not_fresh p8)
    have R10 := R9.mono (Kp.but b10 n8)
    have P10 : Pc (fun b => H b = none ∧ H8 b ≠ none) H10 d l n s sw := P8'.mono ((Kp.same S9).trans (Kp.but b10 (fun e => nf e.1)))
    obtain ⟨rs, er, ⟨fk, ok⟩, hrs⟩ := id R10
    have lenr : (rs.map fun x => V.ref x.2).length = rules.length := by rw [← er]; simp
    refine Or.inl ⟨_, _, _, _, p10, cl, (na _ (by simp)), rfl, (.inl ⟨⟨_, SqL.of ok⟩, fun D hD => ?_⟩)⟩
    have fD : H D = none := O10.fr p10 D hD
    refine cmp_by (yl_list (rs.map fun x => V.ref x.2)) (fun m σ H' => (∃ v, σ = [v, some (.ref p)]) ∧ Same H10 H' ∧ H' D = some (.lst ((barsM sw (rules.take m)).map V.int))) ⟨⟨_, rfl⟩, Same.upd hD, upd_same⟩ (fun m σ H' _ q => q.2.1.seqL (SqL.of ok)) ?_ ?_
    · rintro m x σ H11 hx ⟨⟨v, rfl⟩, S11, eD⟩
      obtain ⟨⟨rule, r⟩, hm2, rfl⟩ := get_map hx
      have hm3 : rules[m]? = some rule := by rw [← er, List.getElem?_map, hm2]; rfl
      have hrl2 := hrs _ (List.mem_of_getElem? hm2)
      have nr : H8 r = none := by obtain ⟨_, _, o, _⟩ := hrl2; exact o.1
      have npr : p ≠ r := ne_of_none p8 nr
      have kw : Kp (fun b => H b = none ∧ H8 b ≠ none) H10 (· ≠ r) H11 := (Kp.same S11).trans (Kp.weak fun b h e => h.2 (e ▸ nr))
      refine ⟨p, dx, _, ⟨t.c_zax, i_zy K t⟩, rfl, .head _, S11 _ _ p10, rfl, ⟨Nat.le_of_ble_eq_true rfl, Nat.le_of_ble_eq_true rfl⟩, p, r, l, s, sw, rule, rfl, ⟨dx, _, ⟨npr, S11 _ _ p10⟩, rfl, rfl, no_meth ⟨rfl, rfl, rfl, rfl, rfl, rfl⟩⟩, P10.tps.mono kw, P10.sts.mono kw, hw, hrl2.mono ((Kp.same S11).trans Kp.any), hr rule (List.mem_of_getElem? hm3), fun H12 S12 => ?_⟩
      refine ⟨_, S12 _ _ eD, ?_, ⟨_, rfl⟩, (S11.trans S12).set hD, ?_⟩
      · rw [List.length_map]
        unfold barsM
        rw [List.length_map, List.length_take]
        exact Nat.lt_of_le_of_lt (show min m rules.length ≤ 8 by omega) (by decide)
      · rw [upd_same]
        unfold barsM
        rw [map_take_get hm3, List.map_append]
        rfl
    rintro σ H11 ⟨_, S11, eD⟩
    rw [lenr, List.take_length] at eD
    refine fld_ok (S11 _ _ p10) cl (na _ (by simp)) (Nat.le_of_ble_eq_true rfl) (fs' := fl6 d l n s kk D) rfl fun H12 b12 p12 => ?_
    have O12 := (O10.up S11).but b12
    have nDp : D ≠ p := (ne_of_none p10 hD).symm
    have B12 : H12 D = some (.lst ((barsM sw rules).map V.int)) := by rw [b12 D nDp]; exact eD
    have k12 : ∀ {ok : Addr → Prop}, ¬ ok p → Kp ok H10 ok H12 := fun h => (Kp.same S11).trans (Kp.but b12 h)
    have P12 := P10.mono (k12 fun e => nf e.1)
    have R12 := R10.mono (k12 n8)
    refine ⟨p, dx, _, ⟨t.c_zax, i_zc K t⟩, rfl, .head _, p12, rfl, ⟨Nat.le_of_ble_eq_true rfl, Nat.le_of_ble_eq_true rfl⟩, p, l, s, sw, rfl, ⟨dx, _, ⟨trivial, p12⟩, rfl, rfl, no_meth ⟨rfl, rfl, rfl, rfl, rfl, rfl⟩⟩, P12.tps.mono Kp.any, hw.len, Or.inl ⟨_, _, _, _, p12, cl, (na _ (by simp)), rfl, ⟨D, barsM sw rules, rfl, SqL.of B12, ?_⟩⟩⟩
    refine fld_ok p12 cl (na _ (by simp)) (Nat.le_of_ble_eq_true rfl) (fs' := flds d l n s kk D (freeM sw rules)) rfl fun H14 b14 p14 => ?_
    refine Or.inl ⟨_, _, _, _, p14, cl, (na _ (by simp)), rfl, (iteFe (decide_eq_false hf) ?_)⟩
    have kk14 : ∀ {ok : Addr → Prop}, ¬ ok p → (∀ b, ok b → H b = none) → Kp ok H12 (fun b => b = p ∨ H b = none) H14 := fun h g => (Kp.but b14 h).trans (Kp.weak fun b e => .inr (g b e))
    have P14 := P12.mono (kk14 (fun e => nf e.1) fun b e => e.1)
    refine k H14 ((O12.but b14)) ⟨dx, d, l, n, s, kk, D, ⟨.inl rfl, p14⟩, P14.sws, P14.tps, P14.nms, P14.sts, R12.mono (kk14 n8 (O8.fr p8)), ⟨.inr fD, ?_⟩⟩
    rw [b14 D nDp]; exact B12
end
end K03
set_option maxRecDepth 100000
set_option maxHeartbeats 4000000
namespace K03
open PySem L2 Pn
section
variable {P : Program} {w : World} {K : PySem.W.Frag} {mg : Str → Option Value} {base : Heap} {t : Adr}
theorem ok_zag {f : Addr} {fd : FuncData} (Z : Facts K t) (F : FunD K "_law_told" "_law_told" s_zag f fd .none) (T : Tab P w K mg base 3 (gb_3 K t) bl) : FnOk P w K mg base CX0 4 f fd P_zag (sp_zag K t) := by
  refine F.okW0 sc_zag vi_zag T (rd_zag K t) (fun vs H Q E h => ?_) (fun vs H Q E h => ?_)
  · obtain ⟨p, v, sw, rules, rfl, _⟩ := h; rfl
  · obtain ⟨p, v, sw, rules, rfl, hP, hb, k⟩ := h
    obtain ⟨dx, d, l, n, s, kk, b, h⟩ := id hP
    exact ⟨p, dx, _, ⟨t.c_zax, i_zv K t⟩, rfl, .head _, h.ins.2, rfl, ⟨Nat.le_of_ble_eq_true rfl, Nat.le_of_ble_eq_true rfl⟩, p, v, sw, rules, rfl, hP, .inr ⟨hb, fun H' e S q => ⟨e, rfl, t.c_zav, none, q, Z.pf.en, true, Z.pf.mn, (k H' S)⟩⟩⟩
theorem ok_zaj {f : Addr} {fd : FuncData} (Z : Facts K t) (F : FunD K "_law_bar" "_law_bar" s_zaj f fd .none) (T : Tab P w K mg base 3 (gb_3 K t) bl) : FnOk P w K mg base CX0 4 f fd P_zaj (sp_zaj K t) := by
  refine F.okW0 sc_zaj vi_zaj T (rd_zaj K t) (fun vs H Q E h => ?_) (fun vs H Q E h => ?_)
  · obtain ⟨p, v, sw, rfl, _⟩ := h; rfl
  · obtain ⟨p, v, sw, rfl, hP, hb, k⟩ := h
    obtain ⟨dx, d, l, n, s, kk, b, h⟩ := id hP
    exact ⟨p, dx, _, ⟨t.c_zax, i_zm K t⟩, rfl, .head _, h.ins.2, rfl, ⟨Nat.le_of_ble_eq_true rfl, Nat.le_of_ble_eq_true rfl⟩, p, v, sw, rfl, hP, .inr ⟨hb, fun H' e S q => ⟨e, rfl, t.c_zav, none, q, Z.pf.en, true, Z.pf.mn, (k H' S)⟩⟩⟩
theorem ok_zx {f : Addr} {fd : FuncData} (Z : Facts K t) (F : FunD K "_law_number" "_law_number" s_zx f fd .none) (T : Tab P w K mg base 1 (gb_1 K t) bl) : FnOk P w K mg base CX0 2 f fd P_zx (sp_zx K t) := by
  refine F.okW0 sc_zx vi_zx T (rd_zx K t) (fun vs H Q E h => ?_) (fun vs H Q E h => ?_)
  · obtain ⟨p, a, r, sw, rules, rfl, _⟩ := h; rfl
  · obtain ⟨p, a, r, sw, rules, rfl, hP, hw, ha, hl, hn, k⟩ := h
    obtain ⟨dx, d, l, n, s, kk, b, h⟩ := id hP
    exact ⟨p, dx, _, ⟨t.c_zax, i_zh K t⟩, rfl, .head _, h.ins.2, rfl, ⟨Nat.le_of_ble_eq_true rfl, Nat.le_of_ble_eq_true rfl⟩, p, a, r, sw, rules, rfl, hP, hw, ha, hl, .inr ⟨hn, fun H' e S q => ⟨e, rfl, t.c_zav, none, q, Z.pf.en, true, Z.pf.mn, (k H' S)⟩⟩⟩
theorem inV2 (x : Int) : inV (.int x) [.int 0, .int (-1)] = (decide (x = 0) || decide (x = -1)) := by
  unfold inV
  show ((0 == x) || ((-1 == x) || false)) = _
  rw [Bool.or_false]
  congr 1
  · rw [Bool.beq_eq_decide_eq]; exact decide_eq_decide.mpr ⟨Eq.symm, Eq.symm⟩
  · rw [Bool.beq_eq_decide_eq]; exact decide_eq_decide.mpr ⟨Eq.symm, Eq.symm⟩
theorem ok_zak {f : Addr} {fd : FuncData} (Z : Facts K t) (F : FunD K "_law_mix" "_law_mix" s_zak f fd .none) (T : Tab P w K mg base 0 (gb_0 K t) bl) : FnOk P w K mg base CX0 1 f fd P_zak (sp_zak K t) := by
  refine F.okW0 sc_zak vi_zak T (rd_zak K t) (fun vs H Q E h => ?_) (fun vs H Q E h => ?_)
  · obtain ⟨c, k, rfl, _⟩ := h; rfl
  · obtain ⟨c, k, rfl, hk, hk2, q⟩ := h
    have fin : ∀ H', Same H H' → ¬ (c % 2 = 0 ∧ c / 2 ^ (27 * k + 1).toNat ≠ 0 ∧ c / 2 ^ (27 * k + 1).toNat ≠ -1) → ∀ (D : Outs) (v : Option V), D.rt = Q →
        (dSeq (dSet 3 (dBin rModD (dBin rMulD (dBin (rAddD K) (dBin rModD (dVar 0) (dC (.int 1000000007))) (dBin rMulD (dC (.int 7919)) (dVar 1))) (dC (.int 48271))) (dC (.int 2147483647))))
  (dSeq (dSet 3 (dBin rModD (dBin rMulD (dVar 3) (dVar 3)) (dC (.int 2147483629))))
  (dSeq (dRet (dBin rModD (dBin rMulD (dVar 3) (dBin (rAddD K) (dVar 3) (dC (.int 3)))) (dC (.int 2147483587)))) dNext))) D [some (.int c), some (.int k), some (.int (c / 2 ^ (27 * k + 1).toNat)), v] H' := by
      intro H' S hn D v hD
      have q := q H' S
      unfold mixF at q
      rw [if_neg hn] at q
      have b1 : 0 ≤ (c % 1000000007 + 7919 * k) * 48271 % 2147483647 ∧ (c % 1000000007 + 7919 * k) * 48271 % 2147483647 < 2147483647 := ⟨Int.emod_nonneg _ (by decide), Int.emod_lt_of_pos _ (by decide)⟩
      refine ⟨by decide, .inl ⟨by decide, by decide⟩, .inr ⟨by decide, by decide⟩, by decide, ?_⟩
      dsimp only at q
      generalize (c % 1000000007 + 7919 * k) * 48271 % 2147483647 = n at b1 q ⊢
      have b2 : 0 ≤ n * n % 2147483629 ∧ n * n % 2147483629 < 2147483629 := ⟨Int.emod_nonneg _ (by decide), Int.emod_lt_of_pos _ (by decide)⟩
      refine ⟨.inl ⟨by omega, by omega⟩, by decide, ?_⟩
      generalize n * n % 2147483629 = m at b2 q ⊢
      refine ⟨.inl ⟨by omega, by omega⟩, by decide, ?_⟩
      rw [hD]
      exact q
    refine ⟨.inl ⟨by decide, by decide⟩, by omega, by decide, ?_⟩
    refine ite2 (fun e1 => ?_) (fun e1 => ?_)
    · have e1 : c % 2 = 0 := by simpa using e1
      refine ⟨by decide, fun T hT => .inl ⟨T, _, rfl, .inr (SqT.of upd_same), rfl, rfl, ?_⟩⟩
      have S := Same.upd (o := .tup [.int 0, .int (-1)]) hT
      show if (!inV (.int (c / 2 ^ (27 * k + 1).toNat)) [.int 0, .int (-1)]) = true then _ else _
      rw [inV2]
      refine ite2 (fun e2 => ?_) (fun e2 => ?_)
      · have e2 : c / 2 ^ (27 * k + 1).toNat ≠ 0 ∧ c / 2 ^ (27 * k + 1).toNat ≠ -1 := by simpa using e2
        have q := q _ S
        unfold mixF at q
        rw [if_pos ⟨e1, e2⟩] at q
        exact q
      · refine fin _ S (fun z => e2 ?_) _ _ rfl
        simp [z.2.1, z.2.2]
    · exact fin _ (Same.refl _) (fun z => e1 (by simp [z.1])) _ _ rfl
abbrev lettersS : Str := "abcdefghijklmnopqrstuvwxyz"
theorem letters26 : lettersS.cps.toList = (List.range 26).map (97 + ·) := by decide +kernel
theorem letter_at {i : Int} (h0 : 0 ≤ i) (h : i < 26) : atI lettersS.cps.toList i = some (97 + i.toNat) := by
  have e : i = ((i.toNat : Nat) : Int) := by omega
  rw [e, Int.toNat_natCast]
  refine atI_nat ?_
  rw [letters26, List.getElem?_map, List.getElem?_range (by omega)]
  rfl
theorem bitAnd_nonneg (x : Int) : 0 ≤ Builtin.bitAnd x 134217727 := by
  by_cases hx : 0 ≤ x
  · rw [PyProof.Rows.bitAnd_pp hx (by decide)]; exact Int.natCast_nonneg _
  · rw [PyProof.Rows.bitAnd_np hx (by decide)]
    have := Nat.and_le_left (n := (134217727 : Int).toNat) (m := (Builtin.bitNot x).toNat)
    have e : ((134217727 : Int).toNat : Int) = 134217727 := rfl
    omega
theorem bitAnd_all {x : Int} (hx : 0 ≤ x) : Builtin.bitAnd x (-1) = x := by
  rw [PyProof.Rows.bitAnd_pn hx (by decide), show (Builtin.bitNot (-1)).toNat = 0 from rfl, Nat.and_zero]
  omega
theorem mix_nonneg (c k : Int) : 0 ≤ mixF c k := by
  unfold mixF
  split
  · exact bitAnd_nonneg _
  · exact Int.emod_nonneg _ (by decide)
theorem join_singles (l : List Nat) : Txt.join (Str.ofString "") (l.map fun k => (⟨#[k]⟩ : Str)) = ⟨l.toArray⟩ := by
  show Builtin.Str.glued (Str.ofString "") _ = _
  rw [StrLaws.glued_eq_join, show Str.ofString "" = (⟨#[]⟩ : Str) from by decide +kernel]
  exact PyProof.Rows.join_ones l
theorem singles_len (l : List Nat) : ((l.map fun k => (⟨#[k]⟩ : Str)).map (·.length)).sum + (l.map fun k => (⟨#[k]⟩ : Str)).length * (Str.ofString "").length = l.length := by
  rw [show (Str.ofString "").length = 0 from by decide +kernel, Nat.mul_zero, Nat.add_zero]
  induction l with
  | nil => rfl
  | cons a l ih => rw [List.map_cons, List.map_cons, List.sum_cons, ih, List.length_cons, show (⟨#[a]⟩ : Str).length = 1 from rfl, Nat.add_comm]
theorem let_comp {te : DE} {n : Nat} {g : Nat → Nat} {rest : St} {H : Hp} {R : Hp → Addr → Prop} (hn : n ≤ 8) (he : ∀ (j : Nat) (H1 : Hp) (Q1 : VK), j < n → (∀ H2, Same H1 H2 → Q1 (.str ⟨#[g j]⟩) H2) → te (some (.int (j : Int)) :: rest) H1 Q1 (fun _ _ => False))
    (k : ∀ D H', Same H H' → H D = none → H' D = some (.lst ((((List.range n).map g).map fun c => (⟨#[c]⟩ : Str)).map V.str)) → R H' D) : ∀ D, H D = none → CmpW (Itr 0 n) (gdN 0) dYes te D (fun H' => R H' D) (none :: rest) (upd H D (.lst [])) := by
  intro D hD
  refine cmp_by (yl_range 0 n) (fun m σ H' => (∃ v, σ = v :: rest) ∧ Same H H' ∧ H' D = some (.lst ((((List.range m).map g).map fun c => (⟨#[c]⟩ : Str)).map V.str))) ⟨⟨_, rfl⟩, Same.upd hD, upd_same⟩ (fun _ _ _ _ _ => True.intro) ?_ ?_
  · rintro m x σ H1 hx ⟨⟨v, rfl⟩, S1, eD⟩
    obtain ⟨hm, rfl⟩ := rng_at hx
    refine (he m H1 _ hm fun H2 S2 => ⟨_, S2 _ _ eD, ?_, ⟨_, rfl⟩, (S1.trans S2).set hD, ?_⟩)
    · rw [List.length_map, List.length_map, List.length_map, List.length_range]
      exact Nat.lt_of_lt_of_le (show m < 8 by omega) (by decide)
    · rw [upd_same, List.range_succ, List.map_append, List.map_append, List.map_append]; rfl
  · rintro σ H1 ⟨_, S1, eD⟩
    rw [rngV_len] at eD
    exact k D H1 S1 hD eD
def sgA (c : Int) (j : Nat) : Nat := 97 + (mixF c (2 + (j : Int)) % 26).toNat
def lenA (n : Int) (k : Nat) : Nat := (1 + (n / 192 + 3 * (k : Int)) % 8).toNat
def wordA (c n : Int) (k : Nat) : Str := ⟨(((List.range 8).map (sgA c)).take (lenA n k)).toArray⟩
def sgB (c n : Int) (k j : Nat) : Nat := 97 + ((mixF c (2 + (j : Int)) + 5 * (k : Int) * (if decide ((j : Int) = n / 8 % (1 + n % 8)) = true then 1 else 0)) % 26).toNat
def wordB (c n : Int) (k : Nat) : Str := ⟨((List.range (1 + n % 8).toNat).map (sgB c n k)).toArray⟩
theorem letterC_of {i : Int} (h0 : 0 ≤ i) (h : i < 26) : letterC (97 + i.toNat) = true := by
  unfold letterC
  simp
  omega
theorem all_let {l : List Nat} {g : Nat → Nat} (h : ∀ j, letterC (g j) = true) : (l.map g).all letterC = true := by rw [List.all_map, List.all_eq_true]; exact fun _ _ => h _
theorem okA (c n : Int) (k : Nat) : okW (wordA c n k) ∧ (wordA c n k).length = lenA n k := by
  have hl : 1 ≤ lenA n k ∧ lenA n k ≤ 8 := by unfold lenA; omega
  have e : (wordA c n k).length = lenA n k := by
    show (((List.range 8).map (sgA c)).take (lenA n k)).toArray.size = _
    rw [List.size_toArray, List.length_take, List.length_map, List.length_range]
    omega
  refine ⟨⟨by omega, by omega, ?_⟩, e⟩
  show ((((List.range 8).map (sgA c)).take (lenA n k)).toArray.toList).all letterC = true
  rw [List.all_eq_true]
  intro x hx
  have hx : x ∈ ((List.range 8).map (sgA c)).take (lenA n k) := by simpa using hx
  exact List.all_eq_true.mp (all_let (l := List.range 8) (g := sgA c) fun j => letterC_of (Int.emod_nonneg _ (by decide)) (Int.emod_lt_of_pos _ (by decide))) x (List.mem_of_mem_take hx)
theorem okB (c n : Int) (k : Nat) (hn : 0 ≤ n) : okW (wordB c n k) := by
  have e : (wordB c n k).length = (1 + n % 8).toNat := by
    show ((List.range (1 + n % 8).toNat).map (sgB c n k)).toArray.size = _
    rw [List.size_toArray, List.length_map, List.length_range]
  refine ⟨by omega, by omega, ?_⟩
  show (((List.range (1 + n % 8).toNat).map (sgB c n k)).toArray.toList).all letterC = true
  exact all_let (l := List.range _) (g := sgB c n k) fun j => letterC_of (Int.emod_nonneg _ (by decide)) (Int.emod_lt_of_pos _ (by decide))
theorem nodup_range {f : Nat → Str} {m : Nat} (hm : m ≤ 5) (h : ∀ i j, i < 5 → j < 5 → f i = f j → i = j) : ((List.range m).map f).Nodup := by
  refine List.pairwise_iff_getElem.mpr fun i j hi hj hij => ?_
  rw [List.length_map, List.length_range] at hi hj
  rw [List.getElem_map, List.getElem_map, List.getElem_range, List.getElem_range]
  intro e
  have := h i j (by omega) (by omega) e
  omega
theorem ndA (c n : Int) {m : Nat} (hm : m ≤ 5) : ((List.range m).map (wordA c n)).Nodup := nodup_range hm fun i j hi hj e => by
  have h := congrArg Str.length e
  rw [(okA c n i).2, (okA c n j).2] at h
  unfold lenA at h
  omega
theorem ndB (c n : Int) (hn : 0 ≤ n) {m : Nat} (hm : m ≤ 5) : ((List.range m).map (wordB c n)).Nodup := nodup_range hm fun i j hi hj e => by
  have h : (List.range (1 + n % 8).toNat).map (sgB c n i) = (List.range (1 + n % 8).toNat).map (sgB c n j) := by
    have := congrArg (fun z : Str => z.cps.toList) e
    exact this
  have ha : 0 ≤ n / 8 % (1 + n % 8) ∧ n / 8 % (1 + n % 8) < 1 + n % 8 := ⟨Int.emod_nonneg _ (by omega), Int.emod_lt_of_pos _ (by omega)⟩
  have h2 := congrArg (fun l : List Nat => l[(n / 8 % (1 + n % 8)).toNat]?) h
  have hr : (n / 8 % (1 + n % 8)).toNat < (1 + n % 8).toNat := by omega
  simp only [List.getElem?_map, List.getElem?_range hr, Option.map_some, Option.some.injEq] at h2
  unfold sgB at h2
  have ea : (((n / 8 % (1 + n % 8)).toNat : Nat) : Int) = n / 8 % (1 + n % 8) := by omega
  rw [ea, decide_eq_true rfl, if_pos rfl] at h2
  generalize mixF c (2 + n / 8 % (1 + n % 8)) = x at h2
  omega
theorem ok_zad {f : Addr} {fd : FuncData} (Z : Facts K t) (F : FunD K "_law_words" "_law_words" s_zad f fd .none) (T : Tab P w K mg base 1 (gb_1 K t) bl) : FnOk P w K mg base CX0 2 f fd P_zad (sp_zad K t) := by
  refine F.okW0 sc_zad vi_zad T (rd_zad K t) (fun vs H Q E h => ?_) (fun vs H Q E h => ?_)
  · obtain ⟨c, n, rfl, _⟩ := h; rfl
  · obtain ⟨c, m, rfl, hm, k⟩ := h
    refine ⟨c, 1, rfl, by decide, by decide, fun H1 S1 => ?_⟩
    have hn := mix_nonneg c 1
    have big : (100 : Nat) ≤ sizeLine := by decide
    generalize mixF c 1 = n at hn ⊢
    refine ⟨⟨by decide, by decide⟩, by decide, ite2 (fun _ => ?_) (fun _ => ?_)⟩
    · refine ⟨rfl, ⟨by decide, by decide⟩, ?_⟩
      refine let_comp (n := 8) (g := sgA c) (rest := [some (.int c), some (.str lettersS)]) (by decide) (fun j H2 Q1 hj q => ?_) fun D H2 S2 hD eD => ?_
      · refine ⟨c, 2 + (j : Int), rfl, by omega, by omega, fun H3 S3 => ⟨by decide, by decide, _, letter_at (Int.emod_nonneg _ (by decide)) (Int.emod_lt_of_pos _ (by decide)), q H3 S3⟩⟩
      · refine ⟨_, D, _, rfl, rfl, SqL.of eD, ?_, ?_⟩
        · rw [singles_len, List.length_map, List.length_range]; decide
        rw [join_singles]
        refine ⟨⟨by omega, by omega⟩, ?_⟩
        intro L hL
        rw [Int.toNat_natCast]
        have S12 := S1.trans S2
        have fL := S12.free hL
        refine cmp_by (yl_range 0 m) (fun i σ H' => (∃ v, σ = [v, some (.str ⟨((List.range 8).map (sgA c)).toArray⟩), some (.int n)]) ∧ Same H2 H' ∧ H' L = some (.lst (((List.range i).map (wordA c n)).map V.str))) ⟨⟨_, rfl⟩, Same.upd hL, upd_same⟩ (fun _ _ _ _ _ => True.intro) ?_ ?_
        · rintro i x σ H3 hx ⟨⟨v, rfl⟩, S3, eL⟩
          obtain ⟨hi, rfl⟩ := rng_at hx
          refine ⟨⟨by decide, by decide⟩, .inl ⟨by decide, by decide⟩, by decide, (show 8 ≤ sizeLine by decide), _, eL, ?_, ⟨_, rfl⟩, S3.set hL, ?_⟩
          · rw [List.length_map, List.length_map, List.length_range]
            omega
          · have es : Txt.slice ⟨((List.range 8).map (sgA c)).toArray⟩ none (some (1 + (n / 192 + 3 * (i : Int)) % 8)) = wordA c n i := by
              have hb : 0 ≤ 1 + (n / 192 + 3 * (i : Int)) % 8 ∧ 1 + (n / 192 + 3 * (i : Int)) % 8 ≤ 8 := by omega
              have e := eq_of_beq (PyProof.Rows.slice_closes_to (x := ⟨((List.range 8).map (sgA c)).toArray⟩) (j := 1 + (n / 192 + 3 * (i : Int)) % 8) ⟨hb.1, hb.2⟩)
              rw [e, Int.sub_zero]
              rfl
            rw [upd_same, es, List.range_succ, List.map_append, List.map_append]
            rfl
        · rintro σ H3 ⟨_, S3, eL⟩
          rw [rngV_len] at eL
          refine k H3 L _ (S12.trans S3) fL eL (by simp) (ndA c n hm) fun z hz => ?_
          obtain ⟨i, _, rfl⟩ := List.mem_map.mp hz
          exact (okA c n i).1
    · refine ⟨by decide, ⟨by decide, by decide⟩, by omega, by decide, fun L hL => ⟨⟨by omega, by omega⟩, ?_⟩⟩
      have fL := S1.free hL
      show ForW (Itr 0 ((m : Int)).toNat) _ _ _ [some (.int c), some (.int (m : Int)), some (.str lettersS), some (.int n), none, none, some (.int (1 + n % 8)), some (.int (n / 8 % (1 + n % 8))), some (.ref L), none] _
      rw [Int.toNat_natCast]
      refine for_by (yl_range 0 m) (fun i σ H' => (∃ v5 v9, σ = [some (.int c), some (.int (m : Int)), some (.str lettersS), some (.int n), none, v5, some (.int (1 + n % 8)), some (.int (n / 8 % (1 + n % 8))), some (.ref L), v9]) ∧ Same H1 H' ∧ H' L = some (.lst (((List.range i).map (wordB c n)).map V.str))) ⟨⟨_, _, rfl⟩, Same.upd hL, upd_same⟩ (fun _ _ _ _ _ => True.intro) ?_ ?_
      · rintro i x σ H2 hx ⟨⟨v5, v9, rfl⟩, S2, eL⟩
        obtain ⟨hi, rfl⟩ := rng_at hx
        refine ⟨⟨by omega, by omega⟩, ?_⟩
        refine let_comp (n := (1 + n % 8).toNat) (g := sgB c n i) (rest := [some (.int (n / 8 % (1 + n % 8))), some (.int c), some (.int (i : Int)), some (.str lettersS)]) (by omega) (fun j H3 Q1 hj q => ?_) fun D H3 S3 hD eD => ?_
        · refine ⟨c, 2 + (j : Int), rfl, by omega, by omega, fun H4 S4 => ⟨.inl ⟨by decide, by decide⟩, .inl ⟨by omega, by omega⟩, by decide, by decide, _, letter_at (Int.emod_nonneg _ (by decide)) (Int.emod_lt_of_pos _ (by decide)), q H4 S4⟩⟩
        · have nDL : D ≠ L := (ne_of_none eL hD).symm
          refine ⟨.inl ⟨rfl, _, SqL.of (S3 _ _ eL)⟩, rfl, _, D, _, rfl, rfl, SqL.of eD, ?_, ?_⟩
          · rw [singles_len, List.length_map, List.length_range]; omega
          rw [join_singles]
          refine ⟨L, _, _, rfl, rfl, S3 _ _ eL, ?_, ⟨_, _, rfl⟩, (S2.trans S3).set hL, ?_⟩
          · rw [List.length_map, List.length_map, List.length_range]
            omega
          · rw [upd_same, List.range_succ, List.map_append, List.map_append]
            rfl
      · rintro σ H2 ⟨⟨v5, v9, rfl⟩, S2, eL⟩
        rw [rngV_len] at eL
        refine .inl (k H2 L _ (S1.trans S2) fL eL (by simp) (ndB c n hn hm) fun z hz => ?_)
        obtain ⟨i, _, rfl⟩ := List.mem_map.mp hz
        exact okB c n i hn
end
end K03
set_option maxRecDepth 100000
set_option maxHeartbeats 4000000
namespace K03
open PySem L2 Pn
section
variable {P : Program} {w : World} {K : PySem.W.Frag} {mg : Str → Option Value} {base : Heap} {t : Adr}
structure SwL (H H' : Hp) (ls : Addr) (ds : List (((Str × List Str) × Addr) × Addr)) : Prop where
  at_ : H' ls = some (.lst (ds.map fun x => .ref x.2))
  tup : ∀ x ∈ ds, H' x.2 = some (.tup [.str x.1.1.1, .ref x.1.2])
  lst : ∀ x ∈ ds, H' x.1.2 = some (lstO x.1.1.2)
  ne : ∀ x ∈ ds, x.1.2 ≠ ls ∧ H x.1.2 = none
theorem SwL.up {H H1 H2 : Hp} {ls : Addr} {ds : List (((Str × List Str) × Addr) × Addr)} (h : SwL H H1 ls ds) (S : Same H1 H2) : SwL H H2 ls ds := ⟨S _ _ h.at_, fun x hx => S _ _ (h.tup x hx), fun x hx => S _ _ (h.lst x hx), h.ne⟩
theorem SwL.snoc {H H1 : Hp} {ls : Addr} {ds : List (((Str × List Str) × Addr) × Addr)} (h : SwL H H1 ls ds) {e : Str × List Str} {la ta : Addr} (ht : H1 ta = some (.tup [.str e.1, .ref la])) (hl : H1 la = some (lstO e.2)) (nl : la ≠ ls) (fl : H la = none) :
    SwL H (upd H1 ls (.lst ((ds.map fun x => V.ref x.2) ++ [.ref ta]))) ls (ds ++ [((e, la), ta)]) := by
  have nt : ∀ {a : Addr} {xs : List V}, H1 a = some (.tup xs) → a ≠ ls := fun q z => by rw [z, h.at_] at q; cases q
  refine ⟨by rw [upd_same, List.map_append]; rfl, fun x hx => ?_, fun x hx => ?_, fun x hx => ?_⟩
  · rcases List.mem_append.mp hx with hx | hx
    · rw [upd_ne (nt (h.tup x hx))]; exact h.tup x hx
    · have : x = ((e, la), ta) := by simpa using hx
      subst this
      rw [upd_ne (nt ht)]; exact ht
  · rcases List.mem_append.mp hx with hx | hx
    · rw [upd_ne (h.ne x hx).1]; exact h.lst x hx
    · have : x = ((e, la), ta) := by simpa using hx
      subst this
      rw [upd_ne nl]; exact hl
  · rcases List.mem_append.mp hx with hx | hx
    · exact h.ne x hx
    · have : x = ((e, la), ta) := by simpa using hx
      subst this
      exact ⟨nl, fl⟩
theorem prodS_snoc (sw : Sw) (e : Str × List Str) : prodS (sw ++ [e]) = prodS sw * e.2.length := by unfold prodS; rw [List.foldl_append]; rfl
theorem ok_zn {f : Addr} {fd : FuncData} (Z : Facts K t) (F : FunD K "_law_switches" "_law_switches" s_zn f fd .none) (T : Tab P w K mg base 2 (gb_2 K t) bl) : FnOk P w K mg base CX0 3 f fd P_zn (sp_zn K t) := by
  refine F.okW0 sc_zn vi_zn T (rd_zn K t) (fun vs H Q E h => ?_) (fun vs H Q E h => ?_)
  · obtain ⟨c, m, rfl, _⟩ := h; rfl
  · obtain ⟨c, m, rfl, hm, hm2, k⟩ := h
    refine ⟨c, 5, rfl, Nat.le_refl 5, fun H1 lw ws S1 flw elw lws ndw okw => ⟨by decide, fun ls hls => ?_⟩⟩
    have fls := S1.free hls
    have nwl : lw ≠ ls := ne_of_none elw hls
    have S2 := S1.trans (Same.upd (o := .lst []) hls)
    have elw2 : upd H1 ls (.lst []) lw = some (lstO ws) := by rw [upd_ne nwl]; exact elw
    have L2 : SwL H (upd H1 ls (.lst [])) ls [] := ⟨upd_same, fun x hx => (by cases hx), fun x hx => (by cases hx), fun x hx => (by cases hx)⟩
    generalize upd H1 ls (.lst []) = H2 at S2 elw2 L2 ⊢
    refine ⟨c, 20, rfl, by decide, by decide, fun H3 S3 => ⟨by decide, ⟨by omega, by omega⟩, ?_⟩⟩
    have hN : 1 ≤ (1 + mixF c 20 % 5).toNat ∧ (1 + mixF c 20 % 5).toNat ≤ 5 := by omega
    generalize (1 + mixF c 20 % 5).toNat = N at hN ⊢
    refine for_by (yl_range 0 N) (fun i σ H' => ∃ ds : List (((Str × List Str) × Addr) × Addr), (∃ v5 v6, σ = [some (.int c), some (.int m), some (.ref lw), some (.ref ls), some (.int (prodS (ds.map (·.1.1)) : Nat)), v5, v6]) ∧ Same H H' ∧ H' lw = some (lstO ws) ∧ SwL H H' ls ds ∧
        (ds.map (·.1.1.1)).Sublist (ws.take i) ∧ (∀ x ∈ ds, okSet x.1.1.2) ∧ (prodS (ds.map (·.1.1)) : Int) ≤ m ∧ (i = 0 → ds = []) ∧ (1 ≤ i → ds ≠ []))
      ⟨[], ⟨_, _, rfl⟩, S2.trans S3, S3 _ _ elw2, L2.up S3, List.Sublist.refl _, fun x hx => (by cases hx), (show ((1 : Nat) : Int) ≤ m by omega), fun _ => rfl, fun h => (by omega)⟩ (fun _ _ _ _ _ => True.intro) ?_ ?_
    · rintro i x σ H4 hx ⟨ds, ⟨v5, v6, rfl⟩, S4, elw4, L4, sub, oks, pm, z0, z1⟩
      obtain ⟨hi, rfl⟩ := rng_at hx
      have hp0 : 1 ≤ prodS (ds.map (·.1.1)) := prodS_pos_acc (Nat.le_refl 1) (fun y hy => by obtain ⟨x, hx, rfl⟩ := List.mem_map.mp hy; exact oks x hx)
      refine ⟨c, 21 + (i : Int), rfl, by omega, by omega, fun H5 S5 => ⟨by decide, ?_⟩⟩
      have hs : 2 ≤ 2 + mixF c (21 + (i : Int)) % 3 ∧ 2 + mixF c (21 + (i : Int)) % 3 ≤ 4 := by omega
      have L5 := L4.up S5
      have elw5 := S5 _ _ elw4
      have S45 := S4.trans S5
      have rest : ∀ sz : Int, 2 ≤ sz → sz ≤ 4 → (i = 0 → (prodS (ds.map (·.1.1)) : Int) * sz ≤ m) → ∀ D : Outs, D.nx = (fun σ H' => ∃ ds : List (((Str × List Str) × Addr) × Addr), (∃ v5 v6, σ = [some (.int c), some (.int m), some (.ref lw), some (.ref ls), some (.int (prodS (ds.map (·.1.1)) : Nat)), v5, v6]) ∧ Same H H' ∧ H' lw = some (lstO ws) ∧ SwL H H' ls ds ∧
          (ds.map (·.1.1.1)).Sublist (ws.take (i + 1)) ∧ (∀ x ∈ ds, okSet x.1.1.2) ∧ (prodS (ds.map (·.1.1)) : Int) ≤ m ∧ (i + 1 = 0 → ds = []) ∧ (1 ≤ i + 1 → ds ≠ [])) →
          (dSeq (dIf (dTst (dBin rLeD (dBin rMulD (dVar 4) (dVar 6)) (dVar 1))) (dSeq (dSet 4 (dBin rMulD (dVar 4) (dVar 6)))
      (dSeq (dDrop (dMt (rMt K [⟨"list", "list.append", rAppend⟩]) (dVar 3) (dCons (dTup (dCons (dBin (rIxD K) (dVar 2) (dVar 5)) (dCons (dFn (spE (sp_zad K t) []) (dCons (dBin (rAddD K) (dBin (rAddD K) (dVar 0) (dVar 5)) (dC (.int 1))) (dCons (dVar 6) dNil))) dNil))) dNil)))
      dNext)) dNext) dNext) D [some (.int c), some (.int m), some (.ref lw), some (.ref ls), some (.int (prodS (ds.map (·.1.1)) : Nat)), some (.int (i : Int)), some (.int sz)] H5 := by
        intro sz h2 h4 hz D hD
        have cm : CMul (prodS (ds.map (·.1.1)) : Nat) sz := .inr ⟨by omega, by omega⟩
        refine ⟨cm, ite2 (fun e => ⟨cm, ?_⟩) (fun e => ?_)⟩
        · have e : ((prodS (ds.map (·.1.1)) : Nat) : Int) * sz ≤ m := by simpa using e
          have hiw : i < ws.length := by omega
          refine ⟨.inl ⟨rfl, _, SqL.of L5.at_⟩, _, _, .inl (SqL.of elw5), atI_nat (j := i) (by rw [List.getElem?_map, List.getElem?_eq_getElem hiw]; rfl), ?_⟩
          refine ⟨c + (i : Int) + 1, sz.toNat, by rw [show ((sz.toNat : Nat) : Int) = sz by omega]; rfl, by omega, fun H6 la ss S6 fla ela lss nds okss => ⟨(show 2 ≤ sizeLine by decide), fun ta hta => ?_⟩⟩
          have nla : la ≠ ls := (ne_of_none L5.at_ fla).symm
          have ST := Same.upd (o := .tup [.str ws[i], .ref la]) hta
          have et : upd H6 ta (.tup [.str ws[i], .ref la]) ta = some (.tup [.str ws[i], .ref la]) := upd_same
          generalize upd H6 ta (.tup [.str ws[i], .ref la]) = H7 at ST et ⊢
          have L7 := L5.up (S6.trans ST)
          have fl0 : H la = none := S45.free fla
          have lds : ds.length ≤ 5 := by
            have := sub.length_le
            rw [List.length_map, List.length_take] at this
            omega
          refine ⟨ls, _, _, rfl, rfl, L7.at_, ?_, ?_⟩
          · rw [List.length_map]; exact Nat.lt_of_le_of_lt lds (by decide)
          show D.nx _ _
          rw [hD]
          have pe : ((prodS ((ds ++ [(((ws[i], ss), la), ta)]).map (·.1.1)) : Nat) : Int) = (prodS (ds.map (·.1.1)) : Nat) * sz := by
            rw [List.map_append, show [(((ws[i], ss), la), ta)].map (fun x : ((Str × List Str) × Addr) × Addr => x.1.1) = [(ws[i], ss)] from rfl, prodS_snoc, Int.natCast_mul, lss, show ((sz.toNat : Nat) : Int) = sz by omega]
          refine ⟨ds ++ [(((ws[i], ss), la), ta)], ⟨_, _, congrArg (fun z => [some (V.int c), some (V.int m), some (V.ref lw), some (V.ref ls), some (V.int z), some (V.int (i : Int)), some (V.int sz)]) pe.symm⟩, (S45.trans (S6.trans ST)).set fls, ?_, L7.snoc et (ST _ _ ela) nla fl0, ?_, ?_, by rw [pe]; exact e, fun h => (by omega), fun _ h => by simp at h⟩
          · rw [upd_ne nwl]; exact (S6.trans ST) _ _ elw5
          · rw [List.map_append, List.take_add_one, List.getElem?_eq_getElem hiw]
            exact sub.append (List.Sublist.refl _)
          · intro x hx
            rcases List.mem_append.mp hx with hx | hx
            · exact oks x hx
            · have : x = (((ws[i], ss), la), ta) := by simpa using hx
              subst this
              exact ⟨⟨okss, nds, by rw [lss]; omega⟩, by rw [lss]; omega, by rw [lss]; omega⟩
        · have e : ¬ ((prodS (ds.map (·.1.1)) : Nat) : Int) * sz ≤ m := by simpa using e
          show D.nx _ _
          rw [hD]
          have hi0 : i ≠ 0 := fun z => e (hz z)
          refine ⟨ds, ⟨_, _, rfl⟩, S45, elw5, L5, sub.trans (List.take_sublist_take_left (by omega)), oks, pm, fun h => (by omega), fun _ => z1 (by omega)⟩
      refine ⟨.inr ⟨by omega, by omega⟩, ite2 (fun e => ?_) (fun e => ?_)⟩
      · refine rest 2 (by decide) (by decide) (fun hz => ?_) _ (by rfl)
        rw [z0 hz]
        show ((1 : Nat) : Int) * 2 ≤ m
        omega
      · refine rest (2 + mixF c (21 + (i : Int)) % 3) hs.1 hs.2 (fun hz => ?_) _ (by rfl)
        rw [z0 hz]
        show ((1 : Nat) : Int) * (2 + mixF c (21 + (i : Int)) % 3) ≤ m
        omega
    · rintro σ H4 ⟨ds, ⟨v5, v6, rfl⟩, S4, elw4, L4, sub, oks, pm, z0, z1⟩
      rw [rngV_len] at sub z0 z1
      have sub2 := sub.trans (List.take_sublist N ws)
      have hl := sub2.length_le
      rw [List.length_map] at hl
      have e1 : (ds.map (·.1.1)).map (·.1) = ds.map (·.1.1.1) := by rw [List.map_map]; rfl
      refine .inl (k H4 ls (ds.map (·.1.1)) S4 ⟨ds, rfl, ⟨trivial, L4.at_⟩, fun x hx => ⟨⟨trivial, L4.tup x hx⟩, trivial, L4.lst x hx⟩⟩ ⟨?_, ?_, ?_, ?_, ?_⟩)
      · rw [List.length_map]
        exact List.length_pos_iff.mpr (z1 hN.1)
      · rw [List.length_map]; omega
      · rw [e1]; exact ndw.sublist sub2
      · intro y hy
        obtain ⟨x, hx, rfl⟩ := List.mem_map.mp hy
        exact ⟨okw _ (sub2.subset (List.mem_map.mpr ⟨x, hx, rfl⟩)), oks x hx⟩
      · omega
theorem ok_zaf {f : Addr} {fd : FuncData} (Z : Facts K t) (F : FunD K "_law_rows" "_law_rows" s_zaf f fd .none) (T : Tab P w K mg base 0 (gb_0 K t) bl) : FnOk P w K mg base CX0 1 f fd P_zaf (sp_zaf K t) := by
  refine F.okW0 sc_zaf vi_zaf T (rd_zaf K t) (fun vs H Q E h => ?_) (fun vs H Q E h => ?_)
  · obtain ⟨l, sw, rfl, _⟩ := h; rfl
  · obtain ⟨l, sw, rfl, ⟨ds, ed, ⟨_, ol⟩, hd⟩, hw, k⟩ := h
    refine ⟨(show 0 ≤ sizeLine by decide), fun r0 h0 => ⟨(show 1 ≤ sizeLine by decide), fun l0 hl0 => ?_⟩⟩
    have Sr := Same.upd (o := .lst []) h0
    have Sl := Same.upd (o := .lst [.ref r0]) hl0
    have S0 := Sr.trans Sl
    have er : upd (upd H r0 (.lst [])) l0 (.lst [.ref r0]) r0 = some (lstO []) := Sl _ _ upd_same
    have el : upd (upd H r0 (.lst [])) l0 (.lst [.ref r0]) l0 = some (.lst [.ref r0]) := upd_same
    have len : (ds.map fun x => V.ref x.2).length = sw.length := by rw [← ed]; simp
    generalize upd (upd H r0 (.lst [])) l0 (.lst [.ref r0]) = H0 at S0 er el ⊢
    refine .inl ⟨⟨_, S0.seqL (SqL.of ol)⟩, ?_⟩
    have T0 : RowsAt any H0 l0 (rowsS (sw.take 0)) := ⟨[([], r0)], rfl, ⟨trivial, el⟩, fun x hx => by
      have : x = ([], r0) := by simpa using hx
      subst this
      exact ⟨trivial, er⟩⟩
    refine for_by (yl_list (ds.map fun x => V.ref x.2)) (fun i σ H' => (∃ l1 v2 v3 v4 v5 v6, σ = [some (.ref l), some (.ref l1), v2, v3, v4, v5, v6] ∧ RowsAt any H' l1 (rowsS (sw.take i))) ∧ Same H0 H') ⟨⟨_, _, _, _, _, _, rfl, T0⟩, Same.refl _⟩ (fun i σ H' _ q => (S0.trans q.2).seqL (SqL.of ol)) ?_ ?_
    · rintro i x σ H1 hx ⟨⟨l1, v2, v3, v4, v5, v6, rfl, ⟨es, ee, ⟨_, el1⟩, he⟩⟩, S1⟩
      obtain ⟨⟨⟨e, la⟩, ta⟩, hi, rfl⟩ := get_map hx
      have hi2 : sw[i]? = some e := by rw [← ed, List.getElem?_map, hi]; rfl
      obtain ⟨⟨_, h1⟩, _, h2⟩ := hd _ (List.mem_of_getElem? hi)
      have S01 := S0.trans S1
      have hoke := hw.sets e (List.mem_of_getElem? hi2)
      refine ⟨_, SqT.of (S01 _ _ h1), rfl, by decide, fun l2 hl2 => .inl ⟨⟨_, (Same.upd hl2).seqL (SqL.of el1)⟩, ?_⟩⟩
      have Sl2 := Same.upd (o := .lst []) hl2
      have lenr : es.length = (rowsS (sw.take i)).length := by rw [← ee]; simp
      have few : (rowsS (sw.take i)).length ≤ 256 := by rw [rows_len]; exact Nat.le_trans (prod_take hw i) hw.2.2.2.2
      have rl : ∀ r ∈ rowsS (sw.take i), r.length ≤ 100 := fun r hr => by
        have h1 := (rows_ok (sw := sw.take i) (fun x hx => hw.sets x (List.mem_of_mem_take hx))).2.1 r hr
        rw [h1, List.length_take]
        have := hw.2.1
        omega
      refine for_by (yl_list (es.map fun x => V.ref x.2)) (fun j σ H' => (∃ v5 v6, σ = [some (.ref l), some (.ref l1), some (.str e.1), some (.ref la), some (.ref l2), v5, v6]) ∧ Same H1 H' ∧ ∃ fs : List (List Str × Addr), fs.map (·.1) = stepR ((rowsS (sw.take i)).take j) e ∧
          H' l2 = some (.lst (fs.map fun x => .ref x.2)) ∧ ∀ x ∈ fs, x.2 ≠ l2 ∧ H' x.2 = some (lstO x.1))
        ⟨⟨_, _, rfl⟩, Sl2, [], rfl, upd_same, fun x hx => by cases hx⟩ (fun j σ H' _ q => q.2.1.seqL (SqL.of el1)) ?_ ?_
      · rintro j y σ H2 hy ⟨⟨v5, v6, rfl⟩, S2, fs, efs, e2l, hf⟩
        obtain ⟨⟨r, ra⟩, hj, rfl⟩ := get_map hy
        have hj2 : (rowsS (sw.take i))[j]? = some r := by rw [← ee, List.getElem?_map, hj]; rfl
        obtain ⟨_, hra⟩ := he _ (List.mem_of_getElem? hj)
        have rlr := rl r (List.mem_of_getElem? hj2)
        refine .inl ⟨⟨_, SqL.of ((S01.trans S2) _ _ h2)⟩, ?_⟩
        refine for_by (yl_list (e.2.map V.str)) (fun m σ H' => (∃ v6, σ = [some (.ref l), some (.ref l1), some (.str e.1), some (.ref la), some (.ref l2), some (.ref ra), v6]) ∧ Same H1 H' ∧ ∃ gs : List (List Str × Addr), gs.map (·.1) = stepR ((rowsS (sw.take i)).take j) e ++ (e.2.take m).map (fun z => r ++ [z]) ∧
            H' l2 = some (.lst (gs.map fun x => .ref x.2)) ∧ ∀ x ∈ gs, x.2 ≠ l2 ∧ H' x.2 = some (lstO x.1))
          ⟨⟨_, rfl⟩, S2, fs, by rw [efs]; simp, e2l, hf⟩ (fun m σ H' _ q => (S01.trans q.2.1).seqL (SqL.of h2)) ?_ ?_
        · rintro m u σ H3 hu ⟨⟨v6, rfl⟩, S3, gs, egs, e3l, hg⟩
          obtain ⟨z, hz, rfl⟩ := get_map hu
          refine ⟨.inl ⟨rfl, _, SqL.of e3l⟩, (show 1 ≤ sizeLine by decide), fun q hq => .inl ⟨ra, q, _, _, rfl, rfl, (Same.upd hq) _ _ (S3 _ _ hra), upd_same, ?_, fun u hu => ?_⟩⟩
          · rw [List.length_map]
            exact Nat.le_trans (show r.length + 1 ≤ 101 by omega) (by decide)
          have Sq := Same.upd (o := .lst [.str z]) hq
          have Su := Same.upd (o := .lst (r.map V.str ++ [.str z])) hu
          have eu : upd (upd H3 q (.lst [.str z])) u (.lst (r.map V.str ++ [.str z])) u = some (lstO (r ++ [z])) := by rw [upd_same, lstO, List.map_append]; rfl
          have S34 := Sq.trans Su
          have nul : u ≠ l2 := (ne_of_none (Sq _ _ e3l) hu).symm
          generalize upd (upd H3 q (.lst [.str z])) u (.lst (r.map V.str ++ [.str z])) = H4 at S34 eu ⊢
          have e4l := S34 _ _ e3l
          have lg : gs.length ≤ 2000 := by
            have := congrArg List.length egs
            rw [List.length_map, List.length_append, stepR_len, List.length_map, List.length_take, List.length_take] at this
            have h4 := hoke.2.2
            have : min j (rowsS (sw.take i)).length * e.2.length ≤ 256 * 4 := Nat.mul_le_mul (by omega) h4
            omega
          refine ⟨l2, _, _, rfl, rfl, e4l, by rw [List.length_map]; exact Nat.lt_of_le_of_lt lg (by decide), ⟨_, rfl⟩, (S3.trans S34).set hl2, gs ++ [(r ++ [z], u)], ?_, ?_, ?_⟩
          · rw [List.map_append, egs, map_take_get hz, List.append_assoc]; rfl
          · rw [upd_same, List.map_append]; rfl
          · intro x hx
            rcases List.mem_append.mp hx with hx | hx
            · exact ⟨(hg x hx).1, by rw [upd_ne (hg x hx).1]; exact S34 _ _ (hg x hx).2⟩
            · have : x = (r ++ [z], u) := by simpa using hx
              subst this
              exact ⟨nul, by rw [upd_ne nul]; exact eu⟩
        · rintro σ H3 ⟨⟨v6, rfl⟩, S3, gs, egs, e3l, hg⟩
          rw [List.length_map, List.take_length, ← step_take hj2] at egs
          exact .inl ⟨⟨_, _, rfl⟩, S3, gs, egs, e3l, hg⟩
      · rintro σ H2 ⟨⟨v5, v6, rfl⟩, S2, fs, efs, e2l, hf⟩
        rw [List.length_map, lenr, List.take_length] at efs
        refine .inl ⟨⟨_, _, _, _, _, _, rfl, fs, ?_, ⟨trivial, e2l⟩, fun x hx => ⟨trivial, (hf x hx).2⟩⟩, S1.trans S2⟩
        rw [efs]
        exact (foldl_take hi2 _ _).symm
    · rintro σ H1 ⟨⟨l1, v2, v3, v4, v5, v6, rfl, T1⟩, S1⟩
      rw [len, List.take_length] at T1
      exact .inl (k _ l1 (S0.trans S1) T1)
end
end K03
set_option maxRecDepth 100000
set_option maxHeartbeats 4000000
namespace K03
open PySem L2 Pn
section
variable {P : Program} {w : World} {K : PySem.W.Frag} {mg : Str → Option Value} {base : Heap} {t : Adr}
theorem mk_panel {H : Hp} {R : Addr → Hp → Prop} {E : EK} {a : Addr} {sw : Sw} {rules : List Sw} {v : V} (hs : SwIn any H a sw) (hw : okSw sw) (hr : RulesIn any H v rules) (ho : ∀ r ∈ rules, okRule sw r) (h8 : rules.length ≤ 8) (hf : freeM sw rules ≠ 0)
    (k : ∀ H' p, Same H H' → PanelAt t.c_zax (fresh H) H' p sw rules → R p H') :
    ∀ p dx, H p = none → H dx = none → dx ≠ p → sp_zs K t [.ref p, .ref a, v] (upd (upd H dx (.own p)) p (.ins t.c_zax dx [])) (fun v H2 => v = .non ∧ R p H2) (fun v _ H' => ∃ b, v = .ref b ∧ E b H') := by
  intro p dx hp hd ne
  have S1 : Same H (upd (upd H dx (.own p)) p (.ins t.c_zax dx [])) := fun b o e => by rw [upd_ne (ne_of_none e hp), upd_ne (ne_of_none e hd)]; exact e
  have ep : upd (upd H dx (.own p)) p (.ins t.c_zax dx []) p = some (.ins t.c_zax dx []) := upd_same
  generalize upd (upd H dx (.own p)) p (.ins t.c_zax dx []) = H1 at S1 ep ⊢
  have kp : Kp any H (· ≠ p) H1 := fun b o q => ⟨ne_of_none q.2 hp, S1 _ _ q.2⟩
  have RI : RulesIn (· ≠ p) H1 v rules := hr.imp id fun ⟨k, e, R⟩ => ⟨k, e, R.mono kp⟩
  refine ⟨p, a, dx, v, sw, rules, rfl, ep, hs.mono kp, hw, RI, ho, h8, hf, fun H2 O2 P2 => ⟨rfl, k H2 p (fun b o e => O2 b o (ne_of_none e hp) (S1 _ _ e)) (P2.mono (Kp.weak fun b h => ?_))⟩⟩
  rcases h with rfl | h
  · exact hp
  · exact S1.free h
theorem allM_pos {sw : Sw} (h : okSw sw) : 0 < allM sw := by
  unfold allM
  have h1 := h.pos
  have h2 := Nat.one_lt_two_pow (n := (rowsS sw).length) (by omega)
  have h3 : (2 : Int) ^ (rowsS sw).length = ((2 ^ (rowsS sw).length : Nat) : Int) := by simp
  rw [h3]
  omega
theorem free_nil {sw : Sw} (h : okSw sw) : freeM sw [] = allM sw := by
  unfold freeM
  rw [show Builtin.bitNot (unionM (barsM sw [])) = -1 from rfl]
  exact bitAnd_all (Int.le_of_lt (allM_pos h))
theorem free_ne {sw : Sw} (h : okSw sw) : freeM sw [] ≠ 0 := by
  rw [free_nil h]
  have := allM_pos h
  omega
theorem SwL.swIn {H H' : Hp} {ls : Addr} {ds : List (((Str × List Str) × Addr) × Addr)} (h : SwL H H' ls ds) : SwIn any H' ls (ds.map (·.1.1)) := ⟨ds, rfl, ⟨trivial, h.at_⟩, fun x hx => ⟨⟨trivial, h.tup x hx⟩, trivial, h.lst x hx⟩⟩
theorem ok_zab {f : Addr} {fd : FuncData} (Z : Facts K t) (F : FunD K "_law_panel" "_law_panel" s_zab f fd .none) (T : Tab P w K mg base 9 (gb_9 K t) bl) : FnOk P w K mg base CX0 10 f fd P_zab (sp_zab K t) := by
  refine F.okW0 sc_zab vi_zab T (rd_zab K t) (fun vs H Q E h => ?_) (fun vs H Q E h => ?_)
  · obtain ⟨l, c, sw, rfl, _⟩ := h; rfl
  · obtain ⟨l, c, sw, rfl, ⟨ds, ed, ⟨_, ol⟩, hd⟩, hw, k⟩ := h
    have len : (ds.map fun x => V.ref x.2).length = sw.length := by rw [← ed]; simp
    refine .inl ⟨⟨_, SqL.of ol⟩, fun D hD => ?_⟩
    refine cmp_by (yl_list (ds.map fun x => V.ref x.2)) (fun m σ H' => (∃ v0 v1, σ = [v0, v1]) ∧ Same H H' ∧ ∃ es : List (((Str × List Str) × Addr) × Addr), es.map (·.1.1) = sw.take m ∧ SwL H H' D es)
      ⟨⟨_, _, rfl⟩, Same.upd hD, [], rfl, upd_same, fun x hx => (by cases hx), fun x hx => (by cases hx), fun x hx => (by cases hx)⟩ (fun m σ H' _ q => q.2.1.seqL (SqL.of ol)) ?_ ?_
    · rintro m x σ H1 hx ⟨⟨v0, v1, rfl⟩, S1, es, ee, L1⟩
      obtain ⟨⟨⟨e, la⟩, ta⟩, hi, rfl⟩ := get_map hx
      have hi2 : sw[m]? = some e := by rw [← ed, List.getElem?_map, hi]; rfl
      obtain ⟨⟨_, h1⟩, _, h2⟩ := hd _ (List.mem_of_getElem? hi)
      refine ⟨_, SqT.of (S1 _ _ h1), rfl, ⟨_, .inl (SqL.of (S1 _ _ h2)), fun lb hlb => ⟨(show 2 ≤ sizeLine by decide), fun tb htb => ?_⟩⟩⟩
      have Sb := Same.upd (o := lstO e.2) hlb
      have eb : upd H1 lb (lstO e.2) lb = some (lstO e.2) := upd_same
      have fb := S1.free hlb
      have nb : lb ≠ D := (ne_of_none L1.at_ hlb).symm
      have St := Same.upd (o := .tup [.str e.1, .ref lb]) htb
      have et : upd (upd H1 lb (lstO e.2)) tb (.tup [.str e.1, .ref lb]) tb = some (.tup [.str e.1, .ref lb]) := upd_same
      have S2 := Sb.trans St
      have eb2 := St _ _ eb
      show ∃ ys, upd (upd H1 lb (lstO e.2)) tb (.tup [.str e.1, .ref lb]) D = some (.lst ys) ∧ _
      generalize upd (upd H1 lb (lstO e.2)) tb (.tup [.str e.1, .ref lb]) = H2 at S2 et eb2 ⊢
      have L2 := L1.up S2
      refine ⟨_, L2.at_, ?_, ⟨_, _, rfl⟩, (S1.trans S2).set hD, es ++ [((e, lb), tb)], ?_, L2.snoc et eb2 nb fb⟩
      · rw [List.length_map]
        have := congrArg List.length ee
        rw [List.length_map, List.length_take] at this
        have := hw.2.1
        exact Nat.lt_of_le_of_lt (show es.length ≤ 5 by omega) (by decide)
      · rw [List.map_append, ee, List.take_add_one, hi2]; rfl
    rintro σ Hh ⟨_, Sh, es, ee, Lh⟩
    rw [len, List.take_length] at ee
    have sin : ∀ {H'}, Same Hh H' → SwIn any H' D sw := fun S => ee ▸ (Lh.up S).swIn
    have tail : ∀ H' p (Du : Outs), Du.rt = Q → Same Hh H' → PanelAt t.c_zax (fresh Hh) H' p sw [] →
        (dSeq (dFor (iVal K (dVar 4)) (gdT K 2 [(gdN 2), (gdN 3)]) (dSeq (dDrop (dMt (rMt K [⟨"list", "list.clear", rClear⟩]) (dVar 3) dNil))
    dNext))
  (dSeq (dDrop (dMt (rMt K [⟨"list", "list.clear", rClear⟩]) (dVar 4) dNil))
  (dSeq (dRet (dVar 5))
  dNext))) Du [some (.ref l), some (.int c), none, none, some (.ref D), some (.ref p)] H' := by
      intro H1 p Du hDu S1 P1
      refine .inl ⟨⟨_, S1.seqL (SqL.of Lh.at_)⟩, ?_⟩
      refine for_by (yl_list (es.map fun x => V.ref x.2)) (fun i σ H' => (∃ v2 v3, σ = [some (.ref l), some (.int c), v2, v3, some (.ref D), some (.ref p)]) ∧ Same H H' ∧ PanelAt t.c_zax (fresh Hh) H' p sw [] ∧ H' D = some (.lst (es.map fun x => .ref x.2)) ∧ (∀ x ∈ es, H' x.2 = some (.tup [.str x.1.1.1, .ref x.1.2])) ∧ ∀ x ∈ es, ∃ ys, H' x.1.2 = some (.lst ys))
        ⟨⟨_, _, rfl⟩, Sh.trans S1, P1, S1 _ _ Lh.at_, fun x hx => S1 _ _ (Lh.tup x hx), fun x hx => ⟨_, S1 _ _ (Lh.lst x hx)⟩⟩ (fun i σ H' _ q => SqL.of q.2.2.2.1) ?_ ?_
      · rintro i x σ H2 hx ⟨⟨v2, v3, rfl⟩, S2, P2, eD, ht, hl⟩
        obtain ⟨⟨⟨e, lb⟩, tb⟩, hi, rfl⟩ := get_map hx
        have hm := List.mem_of_getElem? hi
        obtain ⟨ys, hy⟩ := hl _ hm
        have hne := Lh.ne _ hm
        refine ⟨_, SqT.of (ht _ hm), rfl, .inl ⟨rfl, _, SqL.of hy⟩, lb, ys, rfl, rfl, hy, ⟨_, _, rfl⟩, S2.set hne.2, P2.mono (Kp.off (not_fresh (Lh.lst _ hm))), ?_, fun x hx => ?_, fun x hx => ?_⟩
        · rw [upd_ne (Ne.symm hne.1)]; exact eD
        · rw [upd_ne (fun z => by have := ht x hx; rw [z, hy] at this; cases this)]; exact ht x hx
        · by_cases z : x.1.2 = lb
          · exact ⟨[], by rw [z, upd_same]⟩
          · rw [upd_ne z]; exact hl x hx
      · rintro σ H2 ⟨⟨v2, v3, rfl⟩, S2, P2, eD, ht, hl⟩
        refine .inl ⟨.inl ⟨rfl, _, SqL.of eD⟩, D, _, rfl, rfl, eD, ?_⟩
        show Du.rt _ _
        rw [hDu]
        exact k _ p (S2.set hD) ((P2.mono (Kp.off (not_fresh Lh.at_))).mono Kp.any)
    have mid : ∀ H' p (Du : Outs), Du.rt = Q → Same Hh H' → PanelAt t.c_zax (fresh Hh) H' p sw [] →
        (dSeq (dIf (dTst (dBin (rEqD K false) (dBin rModD (dVar 1) (dC (.int 3))) (dC (.int 2)))) (dSeq (dSet 5 (dFn (mkC t.c_zax (some (i_zs K t)) 1) (dCons (dVar 4) (dCons (dLst dNil) dNil))))
    dNext) dNext)
  (dSeq (dFor (iVal K (dVar 4)) (gdT K 2 [(gdN 2), (gdN 3)]) (dSeq (dDrop (dMt (rMt K [⟨"list", "list.clear", rClear⟩]) (dVar 3) dNil))
    dNext))
  (dSeq (dDrop (dMt (rMt K [⟨"list", "list.clear", rClear⟩]) (dVar 4) dNil))
  (dSeq (dRet (dVar 5))
  dNext)))) Du [some (.ref l), some (.int c), none, none, some (.ref D), some (.ref p)] H' := by
      intro H1 p Du hDu S1 P1
      refine ⟨by decide, ite2 (fun _ => ⟨by decide, fun q hq => ?_⟩) (fun _ => tail H1 p Du hDu S1 P1)⟩
      have Sq := Same.upd (o := .lst []) hq
      have eq : upd H1 q (.lst []) q = some (.lst []) := upd_same
      generalize upd H1 q (.lst []) = H2 at Sq eq ⊢
      have S2 := S1.trans Sq
      exact mk_panel (K := K) (E := fun _ _ => False) (v := .ref q) (sin S2) hw (.inr ⟨q, rfl, [], rfl, ⟨trivial, eq⟩, fun x hx => by cases hx⟩) (fun r hr => by cases hr) (by decide) (free_ne hw) fun H3 p2 S3 P3 => tail H3 p2 Du hDu (S2.trans S3) (P3.mono (Kp.fresh S2))
    refine mk_panel (K := K) (E := fun _ _ => False) (v := .non) (sin (Same.refl _)) hw (.inl ⟨rfl, rfl⟩) (fun r hr => by cases hr) (by decide) (free_ne hw) fun H1 p S1 P1 => ?_
    refine ⟨by decide, ite2 (fun _ => ?_) (fun _ => mid H1 p _ rfl S1 P1)⟩
    exact mk_panel (K := K) (E := fun _ _ => False) (v := .non) (sin S1) hw (.inl ⟨rfl, rfl⟩) (fun r hr => by cases hr) (by decide) (free_ne hw) fun H2 p2 S2 P2 => mid H2 p2 _ rfl (S1.trans S2) (P2.mono (Kp.fresh S1))
theorem cut_to (l : List Str) (n : Nat) : cutV (l.map V.str) none (some (n : Int)) = (l.take n).map V.str := by
  unfold cutV
  rw [HT.sIx_none, HT.sIx_nat, List.length_map, Nat.sub_zero, List.drop_zero, ← List.map_take]
  congr 1
  rw [Nat.min_comm]
  exact List.take_eq_take_iff.mpr (by omega)
theorem cut_from (l : List Str) (n : Nat) : cutV (l.map V.str) (some (n : Int)) none = (l.drop n).map V.str := by
  unfold cutV
  rw [HT.sIx_none, HT.sIx_nat, List.length_map, ← List.map_drop, ← List.map_take]
  congr 1
  by_cases h : n ≤ l.length
  · rw [Nat.min_eq_left h, List.take_of_length_le (by rw [List.length_drop]; omega)]
  · rw [Nat.min_eq_right (by omega), List.drop_of_length_le (Nat.le_refl _), List.drop_of_length_le (by omega), List.take_nil]
theorem cut_last (l : List Str) : cutV (l.map V.str) none (some (-1)) = (l.take (l.length - 1)).map V.str := by
  unfold cutV
  rw [HT.sIx_none, List.length_map, Nat.sub_zero, List.drop_zero, ← List.map_take]
  congr 2
  have e : ((HT.sIx l.length l.length (some (-1)) : Nat) : Int) = max (-1 + (l.length : Int)) 0 := by
    rw [← HT.clip_eq]; rfl
  omega
theorem not_word {z : Str} : ¬ okW (Str.ofString "no." ++ z) := by
  intro h
  have := List.all_eq_true.mp h.2.2 46 (by rw [PySem.Str.cps_append]; simp; left; decide +kernel)
  cases this
theorem swrow {sw : Sw} (hw : okSw sw) {r : List Str} (h : r ∈ rowsS sw) : r.length = sw.length ∧ ∀ z ∈ r, okW z := ⟨(rows_ok hw.sets).2.1 r h, (rows_ok hw.sets).2.2 r h⟩
theorem ok_zr {f : Addr} {fd : FuncData} (Z : Facts K t) (F : FunD K "_law_refused" "_law_refused" s_zr f fd .none) (T : Tab P w K mg base 4 (gb_4 K t) bl) : FnOk P w K mg base CX0 5 f fd P_zr (sp_zr K t) := by
  refine F.okW0 sc_zr vi_zr T (rd_zr K t) (fun vs H Q E h => ?_) (fun vs H Q E h => ?_)
  · obtain ⟨p, r, c, sw, rfl, _⟩ := h; rfl
  · obtain ⟨p, r, c, sw, rfl, hP, ⟨ds, ed, ⟨_, or⟩, hd⟩, hw, k⟩ := h
    have ql := SqL.of (K := K) or
    have len : (ds.map fun x => V.ref x.2).length = (rowsS sw).length := by rw [← ed]; simp
    have npos := hw.pos
    have nle := hw.len
    have big : (2000 : Nat) ≤ sizeLine := by decide
    generalize hn : (rowsS sw).length = n at len npos nle
    have hm : 0 ≤ c % (n : Int) ∧ c % (n : Int) < n := ⟨Int.emod_nonneg _ (by omega), Int.emod_lt_of_pos _ (by omega)⟩
    obtain ⟨i, hi⟩ : ∃ i : Nat, c % (n : Int) = (i : Int) := ⟨(c % (n : Int)).toNat, by omega⟩
    have hids : i < ds.length := by rw [List.length_map] at len; omega
    obtain ⟨⟨x, ra⟩, hx⟩ : ∃ z, ds[i]? = some z := ⟨_, List.getElem?_eq_getElem hids⟩
    have hxm : x ∈ rowsS sw := by rw [← ed]; exact List.mem_map.mpr ⟨(x, ra), List.mem_of_getElem? hx, rfl⟩
    obtain ⟨lx, okx⟩ := swrow hw hxm
    have l1 := hw.1
    have l5 := hw.2.1
    have hra : H ra = some (lstO x) := (hd _ (List.mem_of_getElem? hx)).2
    have qra := SqL.of (K := K) hra
    refine .inl ⟨_, .inl ql, ?_⟩
    rw [len]
    refine ⟨by omega, ?_⟩
    rw [hi]
    refine ⟨_, .ref ra, .inl ql, atI_nat (j := i) (by rw [List.getElem?_map, hx]; rfl), ?_⟩
    refine .inl ⟨_, .inl ql, ?_⟩
    rw [len]
    refine ⟨⟨by omega, by omega⟩, .inl ⟨_, .inl qra, ?_⟩⟩
    rw [List.length_map]
    have hm2 : 0 ≤ c / (n : Int) % (x.length : Int) ∧ c / (n : Int) % (x.length : Int) < x.length := ⟨Int.emod_nonneg _ (by omega), Int.emod_lt_of_pos _ (by omega)⟩
    obtain ⟨j, hj⟩ : ∃ j : Nat, c / (n : Int) % (x.length : Int) = (j : Int) := ⟨(c / (n : Int) % (x.length : Int)).toNat, by omega⟩
    have hjx : j < x.length := by omega
    refine ⟨by omega, ?_⟩
    rw [hj]
    refine .inl ⟨_, qra, fun p1 hp1 => ?_⟩
    rw [cut_last]
    have S1 := Same.upd (o := lstO (x.take (x.length - 1))) hp1
    have e1 : upd H p1 (lstO (x.take (x.length - 1))) p1 = some (lstO (x.take (x.length - 1))) := upd_same
    show dCons _ _ [some (.ref p), some (.ref r), some (.int c), some (.ref ra), some (.int (j : Int)), none, none, none] (upd H p1 (lstO (x.take (x.length - 1)))) _ _
    generalize upd H p1 (lstO (x.take (x.length - 1))) = H1 at S1 e1 ⊢
    refine .inl ⟨_, S1.seqL qra, fun q2 hq2 => ?_⟩
    have := cut_to x 1
    rw [show ((1 : Nat) : Int) = 1 from rfl] at this
    rw [this]
    refine .inl ⟨ra, q2, _, _, rfl, rfl, (S1.trans (Same.upd hq2)) _ _ hra, upd_same, ?_, fun p2 hp2 => ?_⟩
    · simp only [List.length_map, List.length_take]; omega
    rw [← List.map_append]
    have S2 := S1.trans ((Same.upd (o := lstO (x.take 1)) hq2).trans (Same.upd (o := lstO (x ++ x.take 1)) hp2))
    have e12 := ((Same.upd (o := lstO (x.take 1)) hq2).trans (Same.upd (o := lstO (x ++ x.take 1)) hp2)) _ _ e1
    have e2 : upd (upd H1 q2 (lstO (x.take 1))) p2 (lstO (x ++ x.take 1)) p2 = some (lstO (x ++ x.take 1)) := upd_same
    show dCons _ _ [some (.ref p), some (.ref r), some (.int c), some (.ref ra), some (.int (j : Int)), none, none, none] (upd (upd H1 q2 (lstO (x.take 1))) p2 (lstO (x ++ x.take 1))) _ _
    generalize upd (upd H1 q2 (lstO (x.take 1))) p2 (lstO (x ++ x.take 1)) = H2 at S2 e12 e2 ⊢
    refine .inl ⟨_, S2.seqL qra, fun q3 hq3 => ?_⟩
    rw [cut_to]
    have Sq3 := Same.upd (o := lstO (x.take j)) hq3
    have eq3 : upd H2 q3 (lstO (x.take j)) q3 = some (lstO (x.take j)) := upd_same
    show dLst _ [some (.ref p), some (.ref r), some (.int c), some (.ref ra), some (.int (j : Int)), none, none, none] (upd H2 q3 (lstO (x.take j))) _ _
    generalize upd H2 q3 (lstO (x.take j)) = H3 at Sq3 eq3 ⊢
    have S3 := S2.trans Sq3
    refine ⟨_, _, .inl (S3.seqL qra), atI_nat (j := j) (by rw [List.getElem?_map, List.getElem?_eq_getElem hjx]; rfl), ?_⟩
    have okj := okx _ (List.getElem_mem hjx)
    refine ⟨?_, (show 1 ≤ sizeLine by decide), fun q4 hq4 => .inl ⟨q3, q4, _, _, rfl, rfl, (Same.upd hq4) _ _ eq3, upd_same, ?_, fun q5 hq5 => ?_⟩⟩
    · have h8 := okj.2.1
      have h3 : (Str.ofString "no.").length = 3 := by decide +kernel
      exact Nat.le_trans (show (Str.ofString "no.").length + x[j].length ≤ 11 by omega) (by decide)
    · simp only [List.length_map, List.length_take, List.length_cons, List.length_nil]; omega
    have S45 := (Same.upd (o := .lst [.str (Str.ofString "no." ++ x[j])]) hq4).trans (Same.upd (o := .lst ((x.take j).map V.str ++ [.str (Str.ofString "no." ++ x[j])])) hq5)
    have e5 : upd (upd H3 q4 (.lst [.str (Str.ofString "no." ++ x[j])])) q5 (.lst ((x.take j).map V.str ++ [.str (Str.ofString "no." ++ x[j])])) q5 = some (lstO (x.take j ++ [Str.ofString "no." ++ x[j]])) := by rw [upd_same, lstO, List.map_append]; rfl
    show dSl K _ _ _ [some (.ref p), some (.ref r), some (.int c), some (.ref ra), some (.int (j : Int)), none, none, none] (upd (upd H3 q4 (.lst [.str (Str.ofString "no." ++ x[j])])) q5 (.lst ((x.take j).map V.str ++ [.str (Str.ofString "no." ++ x[j])]))) _ _
    generalize upd (upd H3 q4 (.lst [.str (Str.ofString "no." ++ x[j])])) q5 (.lst ((x.take j).map V.str ++ [.str (Str.ofString "no." ++ x[j])])) = H5 at S45 e5 ⊢
    have S5 := S3.trans S45
    refine .inl ⟨_, S5.seqL qra, fun q6 hq6 => ?_⟩
    rw [show ((j : Int) + 1) = ((j + 1 : Nat) : Int) by omega, cut_from]
    refine .inl ⟨q5, q6, _, _, rfl, rfl, (Same.upd hq6) _ _ e5, upd_same, ?_, fun p3 hp3 => ?_⟩
    · simp only [List.length_map, List.length_take, List.length_cons, List.length_nil, List.length_append, List.length_drop]; omega
    rw [← List.map_append]
    have S67 := (Same.upd (o := lstO (x.drop (j + 1))) hq6).trans (Same.upd (o := lstO (x.take j ++ [Str.ofString "no." ++ x[j]] ++ x.drop (j + 1))) hp3)
    have e3 : upd (upd H5 q6 (lstO (x.drop (j + 1)))) p3 (lstO (x.take j ++ [Str.ofString "no." ++ x[j]] ++ x.drop (j + 1))) p3 = some (lstO (x.take j ++ [Str.ofString "no." ++ x[j]] ++ x.drop (j + 1))) := upd_same
    show dCons _ _ [some (.ref p), some (.ref r), some (.int c), some (.ref ra), some (.int (j : Int)), none, none, none] (upd (upd H5 q6 (lstO (x.drop (j + 1)))) p3 (lstO (x.take j ++ [Str.ofString "no." ++ x[j]] ++ x.drop (j + 1)))) _ _
    generalize upd (upd H5 q6 (lstO (x.drop (j + 1)))) p3 (lstO (x.take j ++ [Str.ofString "no." ++ x[j]] ++ x.drop (j + 1))) = H7 at S67 e3 ⊢
    have S27 := Sq3.trans (S45.trans S67)
    have e17 := S27 _ _ e12
    have e27 := S27 _ _ e2
    have S7 := S2.trans S27
    refine ⟨by decide, fun p4 hp4 => ⟨(show 4 ≤ sizeLine by decide), fun p5 hp5 => ?_⟩⟩
    have S8 := (Same.upd (o := .lst []) hp4).trans (Same.upd (o := .lst [V.ref p1, V.ref p2, V.ref p3, V.ref p4]) hp5)
    have e48 : upd (upd H7 p4 (HO.lst [])) p5 (HO.lst [V.ref p1, V.ref p2, V.ref p3, V.ref p4]) p4 = some (lstO []) := (Same.upd (o := .lst [V.ref p1, V.ref p2, V.ref p3, V.ref p4]) hp5) _ _ upd_same
    have e58 : upd (upd H7 p4 (HO.lst [])) p5 (HO.lst [V.ref p1, V.ref p2, V.ref p3, V.ref p4]) p5 = some (.lst [V.ref p1, V.ref p2, V.ref p3, V.ref p4]) := upd_same
    have e18 := S8 _ _ e17
    have e28 := S8 _ _ e27
    have e38 := S8 _ _ e3
    generalize upd (upd H7 p4 (HO.lst [])) p5 (HO.lst [V.ref p1, V.ref p2, V.ref p3, V.ref p4]) = H8 at S8 e48 e58 e18 e28 e38 ⊢
    have S08 := S7.trans S8
    have four : ∀ (i : Nat) (v : V), ([.ref p1, .ref p2, .ref p3, .ref p4] : List V)[i]? = some v → ∃ (a : Addr) (y : List Str), v = V.ref a ∧ H8 a = some (lstO y) ∧ y.length ≤ 1000 ∧ y ∉ rowsS sw := by
      intro i v hv
      match i, hv with
      | 0, hv =>
        cases hv
        refine ⟨p1, _, rfl, e18, by rw [List.length_take]; omega, fun z => ?_⟩
        have := (swrow hw z).1
        rw [List.length_take] at this
        omega
      | 1, hv =>
        cases hv
        refine ⟨p2, _, rfl, e28, by rw [List.length_append, List.length_take]; omega, fun z => ?_⟩
        have := (swrow hw z).1
        rw [List.length_append, List.length_take] at this
        omega
      | 2, hv =>
        cases hv
        refine ⟨p3, _, rfl, e38, by simp only [List.length_append, List.length_take, List.length_drop, List.length_cons, List.length_nil]; omega, fun z => ?_⟩
        exact not_word ((swrow hw z).2 (Str.ofString "no." ++ x[j]) (by simp))
      | 3, hv =>
        cases hv
        refine ⟨p4, _, rfl, e48, by decide, fun z => ?_⟩
        have := (swrow hw z).1
        simp at this
        omega
      | i + 4, hv => simp at hv
    refine .inl ⟨⟨_, SqL.of e58⟩, ?_⟩
    refine for_by (yl_list [.ref p1, .ref p2, .ref p3, .ref p4]) (fun i σ H' => (∃ v6, σ = [some (.ref p), some (.ref r), some (.int c), some (.ref ra), some (.int (j : Int)), some (.ref p5), v6, none]) ∧ Same H8 H') ⟨⟨_, rfl⟩, Same.refl _⟩ (fun i σ H' _ q => q.2.seqL (SqL.of e58)) ?_ ?_
    · rintro i v σ H9 hv ⟨⟨v6, rfl⟩, S9⟩
      obtain ⟨a, y, rfl, hy1, hy2, hy3⟩ := four i v hv
      refine ⟨p, a, y, sw, [], rfl, hP.mono (Kp.same (S08.trans S9)), hw, S9 _ _ hy1, hy2, hy3, fun H10 S10 => ⟨⟨_, rfl⟩, S9.trans S10⟩⟩
    · rintro σ H9 ⟨⟨v6, rfl⟩, S9⟩
      have S09 := S08.trans S9
      refine .inl (.inl ⟨_, .inl (S09.seqL ql), .inl ⟨_, .inl (S09.seqL ql), ⟨by decide, by decide, by decide⟩, by decide, ⟨by decide, by decide, by decide⟩, by decide, (show 7 ≤ sizeLine by decide), fun q hq => ?_⟩⟩)
      rw [len]
      have S10 := Same.upd (o := .lst [.int (-1), .int (n : Int), .int ((n : Int) + c % 10 ^ 30), .bl true, .non, .str "0", .int (-1 - c % 10 ^ 9)]) hq
      have eq : upd H9 q (.lst [.int (-1), .int (n : Int), .int ((n : Int) + c % 10 ^ 30), .bl true, .non, .str "0", .int (-1 - c % 10 ^ 9)]) q = some (.lst [.int (-1), .int (n : Int), .int ((n : Int) + c % 10 ^ 30), .bl true, .non, .str "0", .int (-1 - c % 10 ^ 9)]) := upd_same
      refine .inl ⟨⟨_, SqL.of eq⟩, ?_⟩
      show ForW (Itl K q) _ _ _ [some (.ref p), some (.ref r), some (.int c), some (.ref ra), some (.int (j : Int)), some (.ref p5), v6, none] (upd H9 q (.lst [.int (-1), .int (n : Int), .int ((n : Int) + c % 10 ^ 30), .bl true, .non, .str "0", .int (-1 - c % 10 ^ 9)]))
      generalize upd H9 q (.lst [.int (-1), .int (n : Int), .int ((n : Int) + c % 10 ^ 30), .bl true, .non, .str "0", .int (-1 - c % 10 ^ 9)]) = Ha at S10 eq ⊢
      have S0a := S09.trans S10
      refine for_by (yl_list [.int (-1), .int (n : Int), .int ((n : Int) + c % 10 ^ 30), .bl true, .non, .str "0", .int (-1 - c % 10 ^ 9)]) (fun i σ H' => (∃ v7, σ = [some (.ref p), some (.ref r), some (.int c), some (.ref ra), some (.int (j : Int)), some (.ref p5), v6, v7]) ∧ Same Ha H') ⟨⟨_, rfl⟩, Same.refl _⟩ (fun i σ H' _ q => q.2.seqL (SqL.of eq)) ?_ ?_
      · rintro i v σ Hb hv ⟨⟨v7, rfl⟩, Sb⟩
        have hbad : badNum (rowsS sw).length v := by
          have c1 : 0 ≤ c % 10 ^ 30 := Int.emod_nonneg _ (by decide)
          have c2 : 0 ≤ c % 10 ^ 9 := Int.emod_nonneg _ (by decide)
          have hm := List.mem_of_getElem? hv
          simp only [List.mem_cons, List.not_mem_nil, or_false] at hm
          rw [hn]
          rcases hm with rfl | rfl | rfl | rfl | rfl | rfl | rfl
          · show ¬ (_ ∧ _); omega
          · show ¬ (_ ∧ _); omega
          · show ¬ (_ ∧ _); omega
          · trivial
          · trivial
          · trivial
          · show ¬ (_ ∧ _); omega
        have S0b := S0a.trans Sb
        refine ⟨p, v, sw, [], rfl, hP.mono (Kp.same S0b), hbad, fun Hc Sc => ⟨p, v, sw, rfl, hP.mono (Kp.same (S0b.trans Sc)), hbad, fun Hd Sd => ⟨⟨_, rfl⟩, Sb.trans (Sc.trans Sd)⟩⟩⟩
      · rintro σ Hb ⟨⟨v7, rfl⟩, Sb⟩
        exact .inl (k Hb (S0a.trans Sb))
end
end K03
set_option maxRecDepth 100000
set_option maxHeartbeats 4000000
namespace K03
open PySem L2 Pn
section
variable {P : Program} {w : World} {K : PySem.W.Frag} {mg : Str → Option Value} {base : Heap} {t : Adr}
theorem eqVs_refl (l : List Str) : eqVs (l.map V.str) (l.map V.str) = true := by
  unfold eqVs
  rw [decide_eq_true rfl, Bool.true_and, List.all_eq_true]
  intro j hj
  rw [List.length_map, List.mem_range] at hj
  rw [List.getD_eq_getElem?_getD, List.getElem?_map, List.getElem?_eq_getElem hj]
  show (l[j] == l[j]) = true
  exact beq_self_eq_true _
def entD (e : Str × List Str) : Dt := .tup [strD e.1, .tup (e.2.map strD)]
def swD (sw : Sw) : Dt := .lst (sw.map entD)
theorem deq_ent (a b : Str × List Str) : deq (entD a) (entD b) = decide (a = b) := by
  unfold entD
  unfold deq
  unfold deqs
  unfold deqs
  unfold deqs
  rw [deq_strD, show deq (.tup (a.2.map strD)) (.tup (b.2.map strD)) = deqs (a.2.map strD) (b.2.map strD) by conv => lhs; unfold deq, deqs_map deq_strD]
  obtain ⟨a1, a2⟩ := a
  obtain ⟨b1, b2⟩ := b
  rw [Bool.and_true, Bool.eq_iff_iff, Bool.and_eq_true, decide_eq_true_iff, decide_eq_true_iff, decide_eq_true_iff, Prod.mk.injEq]
theorem deq_sw (sw : Sw) : deq (swD sw) (swD sw) = true := by
  unfold swD
  unfold deq
  rw [deqs_map deq_ent]
  simp
theorem dep_sw (sw : Sw) : dep (swD sw) ≤ 40 := by
  have h1 : ∀ e : Str × List Str, dep (entD e) ≤ 5 := fun e => by
    unfold entD
    unfold dep
    have h2 : dep (.tup (e.2.map strD)) ≤ 1 := by
      unfold dep
      exact Nat.succ_le_succ (deps_map dep_strD _)
    unfold deps
    unfold deps
    unfold deps
    have h3 := dep_strD e.1
    exact Nat.succ_le_succ (Nat.max_le.mpr ⟨Nat.le_trans h3 (by decide), Nat.max_le.mpr ⟨Nat.le_trans h2 (by decide), Nat.zero_le _⟩⟩)
  unfold swD
  unfold dep
  exact Nat.le_trans (Nat.succ_le_succ (deps_map h1 sw)) (by decide)
theorem sw_atL {H : Hp} : ∀ {ds : List (((Str × List Str) × Addr) × Addr)}, (∀ x ∈ ds, H x.2 = some (.tup [.str x.1.1.1, .ref x.1.2]) ∧ H x.1.2 = some (tupO x.1.1.2)) → AtL K H ((ds.map (·.1.1)).map entD) (ds.map fun x => V.ref x.2)
  | [], _ => atL_nil
  | x :: ds, h => atL_cons (at_tup (SqT.of (h x List.mem_cons_self).1) (atL_cons at_strD (atL_cons (at_tupS (SqT.of (h x List.mem_cons_self).2)) atL_nil))) (sw_atL fun y hy => h y (List.mem_cons_of_mem _ hy))
theorem pairs_comp {H : Hp} {l : Addr} {sw : Sw} {R : Hp → Addr → Prop} (hw : okSw sw) (h : SwIn any H l sw) (k : ∀ D H', Same H H' → H D = none → At K H' (swD sw) (.ref D) → R H' D) :
    ∀ D, H D = none → CmpW (Itl K l) (gdT K 2 [gdN 0, gdN 1]) dYes (dTup (dCons (dVar 0) (dCons (dFn (fun vs H Q _ => (rTupOf K) vs H Q) (dCons (dVar 1) dNil)) dNil))) D (fun H' => R H' D) [none, none] (upd H D (.lst [])) := by
  obtain ⟨ds, ed, ⟨_, ol⟩, hd⟩ := h
  have len : (ds.map fun x => V.ref x.2).length = sw.length := by rw [← ed]; simp
  intro D hD
  refine cmp_by (yl_list (ds.map fun x => V.ref x.2)) (fun m σ H' => (∃ v0 v1, σ = [v0, v1]) ∧ Same H H' ∧ ∃ es : List (((Str × List Str) × Addr) × Addr), es.map (·.1.1) = sw.take m ∧ H' D = some (.lst (es.map fun x => .ref x.2)) ∧ ∀ x ∈ es, H' x.2 = some (.tup [.str x.1.1.1, .ref x.1.2]) ∧ H' x.1.2 = some (tupO x.1.1.2))
    ⟨⟨_, _, rfl⟩, Same.upd hD, [], rfl, upd_same, fun x hx => by cases hx⟩ (fun m σ H' _ q => q.2.1.seqL (SqL.of ol)) ?_ ?_
  · rintro m x σ H1 hx ⟨⟨v0, v1, rfl⟩, S1, es, ee, eD, he⟩
    obtain ⟨⟨⟨e, la⟩, ta⟩, hi, rfl⟩ := get_map hx
    have hi2 : sw[m]? = some e := by rw [← ed, List.getElem?_map, hi]; rfl
    obtain ⟨⟨_, h1⟩, _, h2⟩ := hd _ (List.mem_of_getElem? hi)
    refine ⟨_, SqT.of (S1 _ _ h1), rfl, ⟨_, .inl ⟨SqL.of (S1 _ _ h2), fun lb hlb => ⟨(show 2 ≤ sizeLine by decide), fun tb htb => ?_⟩⟩⟩⟩
    have Sb := Same.upd (o := tupO e.2) hlb
    have eb : upd H1 lb (tupO e.2) lb = some (tupO e.2) := upd_same
    have St := Same.upd (o := .tup [.str e.1, .ref lb]) htb
    have et : upd (upd H1 lb (tupO e.2)) tb (.tup [.str e.1, .ref lb]) tb = some (.tup [.str e.1, .ref lb]) := upd_same
    have S2 := Sb.trans St
    have eb2 := St _ _ eb
    show ∃ ys, upd (upd H1 lb (tupO e.2)) tb (.tup [.str e.1, .ref lb]) D = some (.lst ys) ∧ _
    generalize upd (upd H1 lb (tupO e.2)) tb (.tup [.str e.1, .ref lb]) = H2 at S2 et eb2 ⊢
    have eD2 := S2 _ _ eD
    have nt : ∀ {a : Addr} {xs : List V}, H2 a = some (.tup xs) → a ≠ D := fun q z => by rw [z, eD2] at q; cases q
    refine ⟨_, eD2, ?_, ⟨_, _, rfl⟩, (S1.trans S2).set hD, es ++ [((e, lb), tb)], ?_, ?_, fun x hx => ?_⟩
    · rw [List.length_map]
      have := congrArg List.length ee
      rw [List.length_map, List.length_take] at this
      have := hw.2.1
      exact Nat.lt_of_le_of_lt (show es.length ≤ 5 by omega) (by decide)
    · rw [List.map_append, ee, List.take_add_one, hi2]; rfl
    · rw [upd_same, List.map_append]; rfl
    · rcases List.mem_append.mp hx with hx | hx
      · have a1 := S2 _ _ (he x hx).1
        have a2 := S2 _ _ (he x hx).2
        rw [upd_ne (nt a1), upd_ne (nt a2)]
        exact ⟨a1, a2⟩
      · have : x = ((e, lb), tb) := by simpa using hx
        subst this
        rw [upd_ne (nt et), upd_ne (nt eb2)]
        exact ⟨et, eb2⟩
  · rintro σ H1 ⟨_, S1, es, ee, eD, he⟩
    rw [len, List.take_length] at ee
    refine k D H1 S1 hD (at_lst (SqL.of eD) ?_)
    rw [← ee]
    exact sw_atL he
def swX : Sw := [("x", ["a", "b"])]
def ruX : Sw := [("x", ["a"])]
theorem ok_a : okW "a" := ⟨by decide +kernel, by decide +kernel, by decide +kernel⟩
theorem ok_b : okW "b" := ⟨by decide +kernel, by decide +kernel, by decide +kernel⟩
theorem ok_x : okW "x" := ⟨by decide +kernel, by decide +kernel, by decide +kernel⟩
theorem ab_ne : (Str.ofString "a") ≠ Str.ofString "b" := by decide +kernel
theorem okX : okSw swX := by
  refine ⟨by decide, by decide, by simp [swX], fun x hx => ?_, by decide⟩
  have : x = (("x" : Str), (["a", "b"] : List Str)) := by simpa [swX] using hx
  subst this
  refine ⟨ok_x, ⟨fun z hz => ?_, ?_, by decide⟩, by decide, by decide⟩
  · have : z = "a" ∨ z = "b" := by simpa using hz
    rcases this with rfl | rfl
    · exact ok_a
    · exact ok_b
  · simp [ab_ne]
theorem okRX : okRule swX ruX := by
  refine ⟨by simp [ruX], by decide, by simp [ruX], fun e he => ?_⟩
  have : e = (("x" : Str), (["a"] : List Str)) := by simpa [ruX] using he
  subst this
  refine ⟨by simp, ⟨fun z hz => ?_, by simp, by decide⟩, (("x" : Str), (["a", "b"] : List Str)), by simp [swX], rfl, fun z hz => ?_⟩
  · have : z = "a" := by simpa using hz
    subst this; exact ok_a
  · have : z = "a" := by simpa using hz
    subst this; simp
theorem freeX : freeM swX [ruX] = 2 := by decide +kernel
theorem manyX : (rowsS swX).length = 2 := by decide
theorem mk_other {H : Hp} {σ : St} {Q : VK} {E : EK} (k : ∀ H' p, Same H H' → PanelAt t.c_zax any H' p swX [ruX] → Q (.ref p) H') :
    dFn (mkC t.c_zax (some (i_zs K t)) 1) (dCons (dLst (dCons (dTup (dCons (dC (.str "x")) (dCons (dLst (dCons (dC (.str "a")) (dCons (dC (.str "b")) dNil))) dNil))) dNil)) (dCons (dLst (dCons (dDisp [((dC (.str "x")), (dLst (dCons (dC (.str "a")) dNil)))]) dNil)) dNil)) σ H Q E := by
  refine ⟨(show 2 ≤ sizeLine by decide), fun la hla => ⟨(show 2 ≤ sizeLine by decide), fun ta hta => ⟨(show 1 ≤ sizeLine by decide), fun lx hlx => ?_⟩⟩⟩
  have Sa := Same.upd (o := HO.lst [V.str "a", V.str "b"]) hla
  have St := Same.upd (o := .tup [.str "x", .ref la]) hta
  have Sl := Same.upd (o := .lst [.ref ta]) hlx
  have S3 := Sa.trans (St.trans Sl)
  have ea : upd (upd (upd H la (HO.lst [V.str "a", V.str "b"])) ta (.tup [.str "x", .ref la])) lx (.lst [.ref ta]) la = some (HO.lst [V.str "a", V.str "b"]) := Sl _ _ (St _ _ upd_same)
  have et : upd (upd (upd H la (HO.lst [V.str "a", V.str "b"])) ta (.tup [.str "x", .ref la])) lx (.lst [.ref ta]) ta = some (.tup [.str "x", .ref la]) := Sl _ _ upd_same
  have el : upd (upd (upd H la (HO.lst [V.str "a", V.str "b"])) ta (.tup [.str "x", .ref la])) lx (.lst [.ref ta]) lx = some (.lst [.ref ta]) := upd_same
  generalize upd (upd (upd H la (HO.lst [V.str "a", V.str "b"])) ta (.tup [.str "x", .ref la])) lx (.lst [.ref ta]) = H3 at S3 ea et el ⊢
  intro dd hdd
  refine ⟨(show 1 ≤ sizeLine by decide), fun lb hlb => ?_⟩
  have Sd := Same.upd (o := .dK []) hdd
  have Sb := Same.upd (o := HO.lst [V.str "a"]) hlb
  have ed : upd (upd H3 dd (.dK [])) lb (HO.lst [V.str "a"]) dd = some (.dK []) := Sb _ _ upd_same
  have eb : upd (upd H3 dd (.dK [])) lb (HO.lst [V.str "a"]) lb = some (HO.lst [V.str "a"]) := upd_same
  have ndb : dd ≠ lb := ne_of_none upd_same hlb
  have S5 := Sd.trans Sb
  refine ⟨ed, [(.inr "x", .ref lb)], rfl, Nat.le_of_ble_eq_true rfl, (show 1 ≤ sizeLine by decide), fun lr hlr => ?_⟩
  have S6 : Same H3 (upd (upd (upd H3 dd (.dK [])) lb (HO.lst [V.str "a"])) dd (.dK (mergeK [] [(.inr "x", .ref lb)]))) := S5.set hdd
  have eb6 : upd (upd (upd H3 dd (.dK [])) lb (HO.lst [V.str "a"])) dd (.dK (mergeK [] [(.inr "x", .ref lb)])) lb = some (HO.lst [V.str "a"]) := by rw [upd_ne (Ne.symm ndb)]; exact eb
  have ed6 : upd (upd (upd H3 dd (.dK [])) lb (HO.lst [V.str "a"])) dd (.dK (mergeK [] [(.inr "x", .ref lb)])) dd = some (.dK [(.inr "x", .ref lb)]) := upd_same
  have Sr := Same.upd (o := .lst [.ref dd]) hlr
  have er : upd (upd (upd (upd H3 dd (.dK [])) lb (HO.lst [V.str "a"])) dd (.dK (mergeK [] [(.inr "x", .ref lb)]))) lr (.lst [.ref dd]) lr = some (.lst [.ref dd]) := upd_same
  have S7 := S6.trans Sr
  have eb7 := Sr _ _ eb6
  have ed7 := Sr _ _ ed6
  generalize upd (upd (upd (upd H3 dd (.dK [])) lb (HO.lst [V.str "a"])) dd (.dK (mergeK [] [(.inr "x", .ref lb)]))) lr (.lst [.ref dd]) = H7 at S7 eb7 ed7 er ⊢
  refine mk_panel (K := K) (E := fun _ _ => False) (v := .ref lr) (sw := swX) (rules := [ruX]) ⟨[(((("x" : Str), (["a", "b"] : List Str)), la), ta)], rfl, ⟨trivial, S7 _ _ el⟩, fun x hx => ?_⟩ okX (.inr ⟨lr, rfl, [(ruX, dd)], rfl, ⟨trivial, er⟩, fun x hx => ?_⟩) (fun r hr => ?_) (by decide) (by rw [freeX]; decide) fun H8 p S8 P8 => k H8 p (S3.trans (S7.trans S8)) (P8.mono Kp.any)
  · have : x = (((("x" : Str), (["a", "b"] : List Str)), la), ta) := by simpa using hx
    subst this
    exact ⟨⟨trivial, S7 _ _ et⟩, trivial, S7 _ _ ea⟩
  · have : x = (ruX, dd) := by simpa using hx
    subst this
    exact ⟨[((("x" : Str), (["a"] : List Str)), lb)], rfl, ⟨trivial, ed7⟩, fun y hy => by
      have : y = ((("x" : Str), (["a"] : List Str)), lb) := by simpa using hy
      subst this
      exact ⟨trivial, eb7⟩⟩
  · have : r = ruX := by simpa using hr
    subst this
    exact okRX
theorem which (b : Bool) : ∃ m : Int, atI [V.int 24, .int 256] (if b = true then 1 else 0) = some (.int m) ∧ 4 ≤ m ∧ m ≤ 256 := by
  cases b
  · exact ⟨24, rfl, by decide, by decide⟩
  · exact ⟨256, rfl, by decide, by decide⟩
theorem ok_zan {f : Addr} {fd : FuncData} (Z : Facts K t) (F : FunD K "law" "law" s_zan f fd .none) (T : Tab P w K mg base 10 (gb_10 K t) bl) : FnOk P w K mg base CX0 11 f fd P_zan (sp_zan K t) := by
  refine F.okW0 sc_zan vi_zan T (rd_zan K t) (fun vs H Q E h => ?_) (fun vs H Q E h => ?_)
  · obtain ⟨a, ns, rfl, _⟩ := h; rfl
  · obtain ⟨a, ns, rfl, hS, hn, k⟩ := h
    refine ⟨a, ns, 0, rfl, hS, fun c0 => ⟨(show 2 ≤ sizeLine by decide), fun q0 hq0 => ⟨a, ns, 1, rfl, (Same.upd hq0).seqL hS, fun c1 => ⟨by decide, ?_⟩⟩⟩⟩
    obtain ⟨m, hm, hm4, hm256⟩ := which (decide (c1 % 8 = 1))
    refine ⟨_, .int m, .inl (SqL.of upd_same), hm, c0, m, rfl, hm4, hm256, fun H1 l sw S1 W1 hw => ?_⟩
    have S01 := (Same.upd hq0).trans S1
    refine ⟨l, sw, rfl, W1, hw, fun H2 r S2 R2 => ?_⟩
    have S02 := S01.trans S2
    refine ⟨a, ns, 1, rfl, S02.seqL hS, fun c2 => ⟨⟨by decide, by decide⟩, l, _, sw, rfl, W1.mono (Kp.same S2), hw, fun H3 p S3 P3 => ?_⟩⟩
    have S03 := S02.trans S3
    refine mk_other fun H4 po S4 PO => ?_
    have S04 := S03.trans S4
    have W4 := W1.mono (Kp.same (S2.trans (S3.trans S4)))
    have R4 := R2.mono (Kp.same (S3.trans S4))
    have P4 := P3.mono (Kp.same S4)
    obtain ⟨ds, ed, ⟨_, or⟩, hd⟩ := id R4
    have len : (enumV 0 (ds.map fun x => V.ref x.2)).length = (rowsS sw).length := by rw [enumV_len, ← ed]; simp
    have nle := hw.len
    refine .inl ⟨⟨_, SqL.of or⟩, ?_⟩
    refine for_by2 (yl_enum (ds.map fun x => V.ref x.2)) (fun i σ H' => (∃ v7 v8 v9, σ = [some (.ref a), some (.int c0), some (.ref l), some (.ref r), some (.ref p), some (.ref po), some (.int (2 ^ i - 1)), v7, v8, v9, none]) ∧ Same H4 H') ⟨⟨_, _, _, rfl⟩, Same.refl _⟩ (fun i σ H' _ q => q.2.seqL (SqL.of or)) ?_ ?_
    · rintro i x y T σ H5 hxy hT ⟨⟨v7, v8, v9, rfl⟩, S5⟩
      obtain ⟨⟨x, ra⟩, hi, rfl, rfl⟩ := enum_at hxy
      have hi2 : (rowsS sw)[i]? = some x := by rw [← ed, List.getElem?_map, hi]; rfl
      have hilt := lt_of_get hi2
      have hra : H4 ra = some (lstO x) := (hd _ (List.mem_of_getElem? hi)).2
      obtain ⟨lx, okx⟩ := swrow hw (List.mem_of_getElem? hi2)
      have l5 := hw.2.1
      have ST := Same.upd (o := .tup [.int (i : Int), .ref ra]) hT
      refine ⟨_, SqT.of upd_same, rfl, ?_⟩
      show dSeq _ _ _ [some (.ref a), some (.int c0), some (.ref l), some (.ref r), some (.ref p), some (.ref po), some (.int (2 ^ i - 1)), some (.int (i : Int)), some (.ref ra), v9, none] (upd H5 T (.tup [.int (i : Int), .ref ra]))
      generalize upd H5 T (.tup [.int (i : Int), .ref ra]) = H6 at ST ⊢
      have S6 := S5.trans ST
      have P6 := P4.mono (Kp.same S6)
      obtain ⟨dx, d, lt, n, s, kk, b, h6⟩ := id P6
      have ev : (2 : Int) ^ i - 1 + 1 * 2 ^ ((i : Int)).toNat = 2 ^ (i + 1) - 1 := by
        rw [Int.one_mul, Int.toNat_natCast, Int.pow_succ]
        omega
      refine ⟨⟨by omega, by omega, by decide⟩, ?_⟩
      refine ⟨p, dx, _, ⟨t.c_zax, i_zv K t⟩, rfl, .head _, h6.ins.2, rfl, ⟨Nat.le_of_ble_eq_true rfl, Nat.le_of_ble_eq_true rfl⟩, p, .int (i : Int), sw, [], rfl, P6, .inl ⟨i, x, rfl, hi2, fun q hq => ?_⟩⟩
      refine ⟨_, true, .sqT rfl (SqT.of hq) rfl, rfl, ⟨_, .inr (SqT.of hq), fun lq hlq => .inl ⟨lq, ra, _, _, rfl, rfl, SqL.of upd_same, SqL.of ((S6.trans (Same.upd hlq)) _ _ hra), flat_strs x, flat_strs x, iteFe (by rw [eqVs_refl]; rfl) ?_⟩⟩⟩
      have S7 := S6.trans (Same.upd (o := lstO x) hlq)
      generalize upd H6 lq (lstO x) = H7 at S7 ⊢
      have P7 := P4.mono (Kp.same S7)
      obtain ⟨dx7, d7, l7, n7, s7, k7, b7, h7⟩ := id P7
      refine ⟨p, dx7, _, ⟨t.c_zax, i_zh K t⟩, rfl, .head _, h7.ins.2, rfl, ⟨Nat.le_of_ble_eq_true rfl, Nat.le_of_ble_eq_true rfl⟩, _, .inl (SqL.of (S7 _ _ hra)), fun l3 hl3 => ?_⟩
      have S8 := S7.trans (Same.upd (o := lstO x) hl3)
      have e3 : upd H7 l3 (lstO x) l3 = some (lstO x) := upd_same
      generalize upd H7 l3 (lstO x) = H8 at S8 e3 ⊢
      refine ⟨p, l3, x, sw, [], rfl, P4.mono (Kp.same S8), hw, e3, by omega, .inl ⟨i, hi2, fun H9 S9 => ?_⟩⟩
      refine ⟨(i : Int), (i : Int), rfl, iteFe (by simp) ?_⟩
      have S09 := S8.trans S9
      have P9 := P4.mono (Kp.same S09)
      obtain ⟨dx9, d9, l9, n9, s9, k9, b9, h9⟩ := id P9
      refine ⟨p, dx9, _, ⟨t.c_zax, i_zm K t⟩, rfl, .head _, h9.ins.2, rfl, ⟨Nat.le_of_ble_eq_true rfl, Nat.le_of_ble_eq_true rfl⟩, p, .int (i : Int), sw, rfl, P9, .inl ⟨i, rfl, hilt, ?_⟩⟩
      exact ⟨⟨_, _, _, congrArg (fun z => [some (V.ref a), some (V.int c0), some (V.ref l), some (V.ref r), some (V.ref p), some (V.ref po), some (V.int z), some (V.int (i : Int)), some (V.ref ra), some (V.ref q), none]) ev⟩, S09⟩
    · rintro σ H5 ⟨⟨v7, v8, v9, rfl⟩, S5⟩
      rw [len]
      have P5 := P4.mono (Kp.same S5)
      obtain ⟨dx, d, lt, n, s, kk, b, h5⟩ := id P5
      refine .inl ⟨p, dx, _, ⟨t.c_zax, i_zj K t⟩, rfl, .head _, h5.ins.2, rfl, ⟨Nat.le_of_ble_eq_true rfl, Nat.le_of_ble_eq_true rfl⟩, p, sw, [], rfl, P5, hw, fun H6 lf fs S6 hlf ef elf hf => ?_⟩
      have W6 := W4.mono (Kp.same (S5.trans S6))
      obtain ⟨ws, ew, ⟨_, ow⟩, hws⟩ := id W6
      refine ⟨_, true, .sqL rfl (SqL.of elf) rfl, rfl, (.inl ⟨⟨_, SqL.of ow⟩, ?_⟩)⟩
      refine pairs_comp hw W6 fun D H7 S7 hD AD => ?_
      refine .inr ⟨swD sw, swD sw, at_lst (SqL.of (S7 _ _ elf)) (by rw [← ef]; exact sw_atL fun x hx => ⟨S7 _ _ (hf x hx).1, S7 _ _ (hf x hx).2⟩), AD, dep_sw sw, iteFe (by rw [deq_sw]; rfl) ?_⟩
      refine ⟨.inl ⟨rfl, _, SqL.of (S7 _ _ elf)⟩, lf, _, rfl, rfl, S7 _ _ elf, ?_⟩
      have S58 : Same H5 (upd H7 lf (.lst [])) := (S6.trans S7).set hlf
      show dSeq _ _ _ [some (.ref a), some (.int c0), some (.ref l), some (.ref r), some (.ref p), some (.ref po), some (.int (2 ^ (rowsS sw).length - 1)), v7, v8, v9, some (.ref lf)] (upd H7 lf (.lst []))
      generalize upd H7 lf (.lst []) = H8 at S58 ⊢
      have S8 := S5.trans S58
      have P8 := P4.mono (Kp.same S8)
      obtain ⟨ws8, ew8, ⟨_, ow8⟩, _⟩ := W4.mono (Kp.same S8)
      obtain ⟨dx8, d8, l8, n8, s8, k8, b8, h8⟩ := id P8
      refine ⟨p, dx8, _, ⟨t.c_zax, i_zj K t⟩, rfl, .head _, h8.ins.2, rfl, ⟨Nat.le_of_ble_eq_true rfl, Nat.le_of_ble_eq_true rfl⟩, p, sw, [], rfl, P8, hw, fun H9 lg gs S9 hlg eg elg hg => ?_⟩
      have lg1 : (gs.map fun x => V.ref x.2).length = sw.length := by rw [← eg]; simp
      have lg2 : (ws8.map fun x => V.ref x.2).length = sw.length := by rw [← ew8]; simp
      have S89 := S8.trans S9
      refine .inl ⟨_, .inl (SqL.of elg), .inl ⟨_, .inl (SqL.of (S9 _ _ ow8)), iteFe (by rw [lg1, lg2]; simp) ?_⟩⟩
      have P9 := P4.mono (Kp.same S89)
      obtain ⟨dx9, d9, l9, n9, s9, k9, b9, h9⟩ := id P9
      refine ⟨p, dx9, _, ⟨t.c_zax, i_zo K t⟩, rfl, .head _, h9.ins.2, rfl, ⟨Nat.le_of_ble_eq_true rfl, Nat.le_of_ble_eq_true rfl⟩, p, sw, rfl, P9, fun Ha lk Sa elk => ⟨by decide, fun le hle => .inl ⟨lk, le, [], [], rfl, rfl, (Same.upd hle).seqL (SqL.of elk), SqL.of upd_same, rfl, rfl, ?_⟩⟩⟩
      have S4a := S89.trans (Sa.trans (Same.upd (o := .lst []) hle))
      generalize upd Ha le (.lst []) = Hb at S4a ⊢
      have Pb := P4.mono (Kp.same S4a)
      have POb := PO.mono (Kp.same S4a)
      have Rb := R4.mono (Kp.same S4a)
      obtain ⟨dsb, edb, ⟨_, orb⟩, _⟩ := id Rb
      have lenb : (dsb.map fun x => V.ref x.2).length = (rowsS sw).length := by rw [← edb]; simp
      obtain ⟨dxb, db, lb, nb, sb, kb, bb, hb⟩ := id Pb
      obtain ⟨dxo, d_o, lo, no, so, ko, bo, ho⟩ := id POb
      refine ⟨p, dxb, _, ⟨t.c_zax, i_zc K t⟩, rfl, .head _, hb.ins.2, rfl, ⟨Nat.le_of_ble_eq_true rfl, Nat.le_of_ble_eq_true rfl⟩, p, lb, sb, sw, rfl, hb.self, hb.tps, nle, allM sw, 2 ^ (rowsS sw).length - 1, rfl, iteFe (by simp [allM]) ?_⟩
      refine ⟨p, dxb, _, ⟨t.c_zax, i_zk K t⟩, rfl, .head _, hb.ins.2, rfl, ⟨Nat.le_of_ble_eq_true rfl, Nat.le_of_ble_eq_true rfl⟩, p, sw, [], rfl, Pb, freeM sw [], 2 ^ (rowsS sw).length - 1, rfl, iteFe (by rw [free_nil hw]; simp [allM]) ?_⟩
      refine ⟨p, dxb, _, ⟨t.c_zax, i_zt K t⟩, rfl, .head _, hb.ins.2, rfl, ⟨Nat.le_of_ble_eq_true rfl, Nat.le_of_ble_eq_true rfl⟩, p, lb, sb, sw, rfl, hb.self, hb.tps, .inl ⟨_, .inl (SqL.of orb), (rowsS sw).length, (dsb.map fun x => V.ref x.2).length, rfl, iteFe (by rw [lenb]; simp) ?_⟩⟩
      refine ⟨po, dxo, _, ⟨t.c_zax, i_zk K t⟩, rfl, .head _, ho.ins.2, rfl, ⟨Nat.le_of_ble_eq_true rfl, Nat.le_of_ble_eq_true rfl⟩, po, swX, [ruX], rfl, POb, ?_⟩
      rw [freeX]
      refine ⟨po, dxo, _, ⟨t.c_zax, i_zt K t⟩, rfl, .head _, ho.ins.2, rfl, ⟨Nat.le_of_ble_eq_true rfl, Nat.le_of_ble_eq_true rfl⟩, po, lo, so, swX, rfl, ho.self, ho.tps, ?_⟩
      rw [manyX]
      exact ⟨a, ns, 2, rfl, (S04.trans S4a).seqL hS, fun c3 => ⟨p, r, c3, sw, rfl, Pb, Rb, hw, fun H' _ => k H'⟩⟩
end
end K03
set_option maxRecDepth 100000
set_option maxHeartbeats 4000000
namespace K03
open PySem L2
structure AdrOk (K : PySem.W.Frag) (mg : Str → Option Value) (t : Adr) : Prop where
  F_zah : FunD K "union_of" "union_of" s_zah t.f_zah t.d_zah .none
  b_zah : ∀ j, j ≤ 0 → Binds K t.d_zah P_zah (([] : List Value).drop j)
  w_zah : Vals [] ([] : List Value)
  m_zah : mg "union_of" = some (.ref t.f_zah)
  F_zt : FunD K "many" "Panel.many" s_zt t.f_zt t.d_zt .none
  b_zt : ∀ j, j ≤ 0 → Binds K t.d_zt P_zt (([] : List Value).drop j)
  w_zt : Vals [] ([] : List Value)
  if_zt : PySem.W.isFn K (.ref t.f_zt) = true
  F_zc : FunD K "all_choices" "Panel.all_choices" s_zc t.f_zc t.d_zc .none
  b_zc : ∀ j, j ≤ 0 → Binds K t.d_zc P_zc (([] : List Value).drop j)
  w_zc : Vals [] ([] : List Value)
  if_zc : PySem.W.isFn K (.ref t.f_zc) = true
  F_zw : FunD K "has_length" "has_length" s_zw t.f_zw t.d_zw .none
  b_zw : ∀ j, j ≤ 0 → Binds K t.d_zw P_zw (([] : List Value).drop j)
  w_zw : Vals [] ([] : List Value)
  m_zw : mg "has_length" = some (.ref t.f_zw)
  F_zz : FunD K "is_letter" "is_letter" s_zz t.f_zz t.d_zz .none
  b_zz : ∀ j, j ≤ 0 → Binds K t.d_zz P_zz (([] : List Value).drop j)
  w_zz : Vals [] ([] : List Value)
  m_zz : mg "is_letter" = some (.ref t.f_zz)
  F_zai : FunD K "is_word" "is_word" s_zai t.f_zai t.d_zai .none
  b_zai : ∀ j, j ≤ 0 → Binds K t.d_zai P_zai (([] : List Value).drop j)
  w_zai : Vals [] ([] : List Value)
  m_zai : mg "is_word" = some (.ref t.f_zai)
  F_zf : FunD K "are_unlike_words" "are_unlike_words" s_zf t.f_zf t.d_zf .none
  b_zf : ∀ j, j ≤ 0 → Binds K t.d_zf P_zf (([] : List Value).drop j)
  w_zf : Vals [] ([] : List Value)
  m_zf : mg "are_unlike_words" = some (.ref t.f_zf)
  F_zu : FunD K "term" "Panel.term" s_zu t.f_zu t.d_zu .none
  b_zu : ∀ j, j ≤ 0 → Binds K t.d_zu P_zu (([] : List Value).drop j)
  w_zu : Vals [] ([] : List Value)
  if_zu : PySem.W.isFn K (.ref t.f_zu) = true
  F_zy : FunD K "box" "Panel.box" s_zy t.f_zy t.d_zy .none
  b_zy : ∀ j, j ≤ 0 → Binds K t.d_zy P_zy (([] : List Value).drop j)
  w_zy : Vals [] ([] : List Value)
  if_zy : PySem.W.isFn K (.ref t.f_zy) = true
  F_zp : FunD K "copied_rule" "copied_rule" s_zp t.f_zp t.d_zp .none
  b_zp : ∀ j, j ≤ 0 → Binds K t.d_zp P_zp (([] : List Value).drop j)
  w_zp : Vals [] ([] : List Value)
  m_zp : mg "copied_rule" = some (.ref t.f_zp)
  F_zi : FunD K "read_rule" "Panel.read_rule" s_zi t.f_zi t.d_zi .none
  b_zi : ∀ j, j ≤ 0 → Binds K t.d_zi P_zi (([] : List Value).drop j)
  w_zi : Vals [] ([] : List Value)
  if_zi : PySem.W.isFn K (.ref t.f_zi) = true
  F_ze : FunD K "read_rules" "Panel.read_rules" s_ze t.f_ze t.d_ze .none
  b_ze : ∀ j, j ≤ 0 → Binds K t.d_ze P_ze (([] : List Value).drop j)
  w_ze : Vals [] ([] : List Value)
  if_ze : PySem.W.isFn K (.ref t.f_ze) = true
  F_zaa : FunD K "is_switch" "is_switch" s_zaa t.f_zaa t.d_zaa .none
  b_zaa : ∀ j, j ≤ 0 → Binds K t.d_zaa P_zaa (([] : List Value).drop j)
  w_zaa : Vals [] ([] : List Value)
  m_zaa : mg "is_switch" = some (.ref t.f_zaa)
  F_zl : FunD K "read_switches" "read_switches" s_zl t.f_zl t.d_zl .none
  b_zl : ∀ j, j ≤ 0 → Binds K t.d_zl P_zl (([] : List Value).drop j)
  w_zl : Vals [] ([] : List Value)
  m_zl : mg "read_switches" = some (.ref t.f_zl)
  F_zb : FunD K "settings_of_choices" "settings_of_choices" s_zb t.f_zb t.d_zb .none
  b_zb : ∀ j, j ≤ 0 → Binds K t.d_zb P_zb (([] : List Value).drop j)
  w_zb : Vals [] ([] : List Value)
  m_zb : mg "settings_of_choices" = some (.ref t.f_zb)
  F_za : FunD K "numbers_by_settings" "numbers_by_settings" s_za t.f_za t.d_za .none
  b_za : ∀ j, j ≤ 0 → Binds K t.d_za P_za (([] : List Value).drop j)
  w_za : Vals [] ([] : List Value)
  m_za : mg "numbers_by_settings" = some (.ref t.f_za)
  F_zam : FunD K "set_of" "set_of" s_zam t.f_zam t.d_zam .none
  b_zam : ∀ j, j ≤ 0 → Binds K t.d_zam P_zam (([] : List Value).drop j)
  w_zam : Vals [] ([] : List Value)
  m_zam : mg "set_of" = some (.ref t.f_zam)
  F_zg : FunD K "sets_of_settings" "sets_of_settings" s_zg t.f_zg t.d_zg .none
  b_zg : ∀ j, j ≤ 0 → Binds K t.d_zg P_zg (([] : List Value).drop j)
  w_zg : Vals [] ([] : List Value)
  m_zg : mg "sets_of_settings" = some (.ref t.f_zg)
  F_zs : FunD K "__init__" "Panel.__init__" s_zs t.f_zs t.d_zs t.dv_zs
  b_zs : ∀ j, j ≤ 1 → Binds K t.d_zs P_zs (t.du_zs.drop j)
  w_zs : Vals [.non] t.du_zs
  if_zs : PySem.W.isFn K (.ref t.f_zs) = true
  F_zj : FunD K "switches" "Panel.switches" s_zj t.f_zj t.d_zj .none
  b_zj : ∀ j, j ≤ 0 → Binds K t.d_zj P_zj (([] : List Value).drop j)
  w_zj : Vals [] ([] : List Value)
  if_zj : PySem.W.isFn K (.ref t.f_zj) = true
  F_zo : FunD K "rules" "Panel.rules" s_zo t.f_zo t.d_zo .none
  b_zo : ∀ j, j ≤ 0 → Binds K t.d_zo P_zo (([] : List Value).drop j)
  w_zo : Vals [] ([] : List Value)
  if_zo : PySem.W.isFn K (.ref t.f_zo) = true
  F_zh : FunD K "number_of" "Panel.number_of" s_zh t.f_zh t.d_zh .none
  b_zh : ∀ j, j ≤ 0 → Binds K t.d_zh P_zh (([] : List Value).drop j)
  w_zh : Vals [] ([] : List Value)
  if_zh : PySem.W.isFn K (.ref t.f_zh) = true
  F_zae : FunD K "is_whole" "is_whole" s_zae t.f_zae t.d_zae .none
  b_zae : ∀ j, j ≤ 0 → Binds K t.d_zae P_zae (([] : List Value).drop j)
  w_zae : Vals [] ([] : List Value)
  m_zae : mg "is_whole" = some (.ref t.f_zae)
  F_zd : FunD K "need_number" "Panel.need_number" s_zd t.f_zd t.d_zd .none
  b_zd : ∀ j, j ≤ 0 → Binds K t.d_zd P_zd (([] : List Value).drop j)
  w_zd : Vals [] ([] : List Value)
  if_zd : PySem.W.isFn K (.ref t.f_zd) = true
  F_zv : FunD K "told" "Panel.told" s_zv t.f_zv t.d_zv .none
  b_zv : ∀ j, j ≤ 0 → Binds K t.d_zv P_zv (([] : List Value).drop j)
  w_zv : Vals [] ([] : List Value)
  if_zv : PySem.W.isFn K (.ref t.f_zv) = true
  F_zk : FunD K "allowed" "Panel.allowed" s_zk t.f_zk t.d_zk .none
  b_zk : ∀ j, j ≤ 0 → Binds K t.d_zk P_zk (([] : List Value).drop j)
  w_zk : Vals [] ([] : List Value)
  if_zk : PySem.W.isFn K (.ref t.f_zk) = true
  F_zal : FunD K "in_set" "in_set" s_zal t.f_zal t.d_zal .none
  b_zal : ∀ j, j ≤ 0 → Binds K t.d_zal P_zal (([] : List Value).drop j)
  w_zal : Vals [] ([] : List Value)
  m_zal : mg "in_set" = some (.ref t.f_zal)
  F_zm : FunD K "barred" "Panel.barred" s_zm t.f_zm t.d_zm .none
  b_zm : ∀ j, j ≤ 0 → Binds K t.d_zm P_zm (([] : List Value).drop j)
  w_zm : Vals [] ([] : List Value)
  if_zm : PySem.W.isFn K (.ref t.f_zm) = true
  F_zq : FunD K "_law_cell_at" "_law_cell_at" s_zq t.f_zq t.d_zq .none
  b_zq : ∀ j, j ≤ 0 → Binds K t.d_zq P_zq (([] : List Value).drop j)
  w_zq : Vals [] ([] : List Value)
  m_zq : mg "_law_cell_at" = some (.ref t.f_zq)
  F_zak : FunD K "_law_mix" "_law_mix" s_zak t.f_zak t.d_zak .none
  b_zak : ∀ j, j ≤ 0 → Binds K t.d_zak P_zak (([] : List Value).drop j)
  w_zak : Vals [] ([] : List Value)
  m_zak : mg "_law_mix" = some (.ref t.f_zak)
  F_zad : FunD K "_law_words" "_law_words" s_zad t.f_zad t.d_zad .none
  b_zad : ∀ j, j ≤ 0 → Binds K t.d_zad P_zad (([] : List Value).drop j)
  w_zad : Vals [] ([] : List Value)
  m_zad : mg "_law_words" = some (.ref t.f_zad)
  F_zn : FunD K "_law_switches" "_law_switches" s_zn t.f_zn t.d_zn .none
  b_zn : ∀ j, j ≤ 0 → Binds K t.d_zn P_zn (([] : List Value).drop j)
  w_zn : Vals [] ([] : List Value)
  m_zn : mg "_law_switches" = some (.ref t.f_zn)
  F_zaf : FunD K "_law_rows" "_law_rows" s_zaf t.f_zaf t.d_zaf .none
  b_zaf : ∀ j, j ≤ 0 → Binds K t.d_zaf P_zaf (([] : List Value).drop j)
  w_zaf : Vals [] ([] : List Value)
  m_zaf : mg "_law_rows" = some (.ref t.f_zaf)
  F_zab : FunD K "_law_panel" "_law_panel" s_zab t.f_zab t.d_zab .none
  b_zab : ∀ j, j ≤ 0 → Binds K t.d_zab P_zab (([] : List Value).drop j)
  w_zab : Vals [] ([] : List Value)
  m_zab : mg "_law_panel" = some (.ref t.f_zab)
  F_zag : FunD K "_law_told" "_law_told" s_zag t.f_zag t.d_zag .none
  b_zag : ∀ j, j ≤ 0 → Binds K t.d_zag P_zag (([] : List Value).drop j)
  w_zag : Vals [] ([] : List Value)
  m_zag : mg "_law_told" = some (.ref t.f_zag)
  F_zaj : FunD K "_law_bar" "_law_bar" s_zaj t.f_zaj t.d_zaj .none
  b_zaj : ∀ j, j ≤ 0 → Binds K t.d_zaj P_zaj (([] : List Value).drop j)
  w_zaj : Vals [] ([] : List Value)
  m_zaj : mg "_law_bar" = some (.ref t.f_zaj)
  F_zx : FunD K "_law_number" "_law_number" s_zx t.f_zx t.d_zx .none
  b_zx : ∀ j, j ≤ 0 → Binds K t.d_zx P_zx (([] : List Value).drop j)
  w_zx : Vals [] ([] : List Value)
  m_zx : mg "_law_number" = some (.ref t.f_zx)
  F_zr : FunD K "_law_refused" "_law_refused" s_zr t.f_zr t.d_zr .none
  b_zr : ∀ j, j ≤ 0 → Binds K t.d_zr P_zr (([] : List Value).drop j)
  w_zr : Vals [] ([] : List Value)
  m_zr : mg "_law_refused" = some (.ref t.f_zr)
  F_zac : FunD K "_law_whole" "_law_whole" s_zac t.f_zac t.d_zac .none
  b_zac : ∀ j, j ≤ 0 → Binds K t.d_zac P_zac (([] : List Value).drop j)
  w_zac : Vals [] ([] : List Value)
  m_zac : mg "_law_whole" = some (.ref t.f_zac)
  F_zan : FunD K "law" "law" s_zan t.f_zan t.d_zan .none
  b_zan : ∀ j, j ≤ 0 → Binds K t.d_zan P_zan (([] : List Value).drop j)
  w_zan : Vals [] ([] : List Value)
  m_zan : mg "law" = some (.ref t.f_zan)
  at_zat : mg "LeafError" = some (.ref t.c_zat)
  kp_zat : PySem.W.keepIn K (.ref t.c_zat) = true
  ec_zat : ECls K t.c_zat
  in_zat : PySem.W.findIn K (.ref t.c_zat) "__init__" = some (some (.builtin "ValueError.__init__"))
  at_zau : mg "BadPanel" = some (.ref t.c_zau)
  kp_zau : PySem.W.keepIn K (.ref t.c_zau) = true
  ec_zau : ECls K t.c_zau
  in_zau : PySem.W.findIn K (.ref t.c_zau) "__init__" = some (some (.builtin "ValueError.__init__"))
  at_zav : mg "NoChoice" = some (.ref t.c_zav)
  kp_zav : PySem.W.keepIn K (.ref t.c_zav) = true
  ec_zav : ECls K t.c_zav
  in_zav : PySem.W.findIn K (.ref t.c_zav) "__init__" = some (some (.builtin "ValueError.__init__"))
  at_zaw : mg "BadCond" = some (.ref t.c_zaw)
  kp_zaw : PySem.W.keepIn K (.ref t.c_zaw) = true
  ec_zaw : ECls K t.c_zaw
  in_zaw : PySem.W.findIn K (.ref t.c_zaw) "__init__" = some (some (.builtin "ValueError.__init__"))
  at_zax : mg "Panel" = some (.ref t.c_zax)
  kp_zax : PySem.W.keepIn K (.ref t.c_zax) = true
  mk_zax : PySem.W.makesIn K t.c_zax = true
  in_zax : PySem.W.findIn K (.ref t.c_zax) "__init__" = some (some (.ref t.f_zs))
  cl_zax : Cls K t.c_zax
  mt_zc : Meth K t.c_zax "all_choices" t.f_zc
  mt_zk : Meth K t.c_zax "allowed" t.f_zk
  mt_zm : Meth K t.c_zax "barred" t.f_zm
  mt_zy : Meth K t.c_zax "box" t.f_zy
  mt_zt : Meth K t.c_zax "many" t.f_zt
  mt_zd : Meth K t.c_zax "need_number" t.f_zd
  mt_zh : Meth K t.c_zax "number_of" t.f_zh
  mt_zi : Meth K t.c_zax "read_rule" t.f_zi
  mt_ze : Meth K t.c_zax "read_rules" t.f_ze
  mt_zo : Meth K t.c_zax "rules" t.f_zo
  mt_zj : Meth K t.c_zax "switches" t.f_zj
  mt_zu : Meth K t.c_zax "term" t.f_zu
  mt_zv : Meth K t.c_zax "told" t.f_zv
  v_zaq : mg "MOST_SWITCHES" = some t.u_zaq
  r_zaq : RelV (.int 5) t.u_zaq
  v_zao : mg "LEAST_SETTINGS" = some t.u_zao
  r_zao : RelV (.int 2) t.u_zao
  v_zap : mg "MOST_SETTINGS" = some t.u_zap
  r_zap : RelV (.int 4) t.u_zap
  v_zar : mg "MOST_CHOICES" = some t.u_zar
  r_zar : RelV (.int 256) t.u_zar
  v_zas : mg "MOST_RULES" = some t.u_zas
  r_zas : RelV (.int 8) t.u_zas
  z_all : mg "all" = none
  z_bool : mg "bool" = none
  z_dict : mg "dict" = none
  z_enumerate : mg "enumerate" = none
  z_int : mg "int" = none
  z_isinstance : mg "isinstance" = none
  z_len : mg "len" = none
  z_list : mg "list" = none
  z_range : mg "range" = none
  z_set : mg "set" = none
  z_str : mg "str" = none
  z_tuple : mg "tuple" = none
  Z : Facts K t
theorem law_ok {P : Program} {w : World} {K : PySem.W.Frag} {mg : Str → Option Value} {base : Heap} {t : Adr} (A : AdrOk K mg t) : FnOk P w K mg base CX0 11 t.f_zan t.d_zan P_zan (sp_zan K t) := by
  have T0 : Tab P w K mg base 0 (gb_0 K t) bl := ((((((((((Tab.nil (fun x hx => by
    simp only [bl, List.mem_cons, List.not_mem_nil, or_false] at hx
    rcases hx with rfl | rfl | rfl | rfl | rfl | rfl | rfl | rfl | rfl | rfl | rfl | rfl
    · exact A.z_all
    · exact A.z_bool
    · exact A.z_dict
    · exact A.z_enumerate
    · exact A.z_int
    · exact A.z_isinstance
    · exact A.z_len
    · exact A.z_list
    · exact A.z_range
    · exact A.z_set
    · exact A.z_str
    · exact A.z_tuple)).consV A.v_zas A.r_zas).consV A.v_zar A.r_zar).consV A.v_zap A.r_zap).consV A.v_zao A.r_zao).consV A.v_zaq A.r_zaq).consV (v := .ref t.c_zax) A.at_zax rfl).consX (oi := none) ⟨A.at_zaw, A.kp_zaw, A.ec_zaw, A.in_zaw⟩).consX (oi := none) ⟨A.at_zav, A.kp_zav, A.ec_zav, A.in_zav⟩).consX (oi := none) ⟨A.at_zau, A.kp_zau, A.ec_zau, A.in_zau⟩).consX (oi := none) ⟨A.at_zat, A.kp_zat, A.ec_zat, A.in_zat⟩
  have T1 : Tab P w K mg base 1 (gb_1 K t) bl := (((((((((((((((((T0.mono (show 0 ≤ 1 by decide)).cons (i := i_zac K t) ⟨A.m_zac, A.F_zac.kp, ⟨CX0, fun X' _ _ => pass_CX0 X', ok_zac (t := t) A.Z A.F_zac T0⟩, Nat.le_refl 1, A.b_zac, A.w_zac⟩).cons (i := i_zaf K t) ⟨A.m_zaf, A.F_zaf.kp, ⟨CX0, fun X' _ _ => pass_CX0 X', ok_zaf (t := t) A.Z A.F_zaf T0⟩, Nat.le_refl 1, A.b_zaf, A.w_zaf⟩).cons (i := i_zak K t) ⟨A.m_zak, A.F_zak.kp, ⟨CX0, fun X' _ _ => pass_CX0 X', ok_zak (t := t) A.Z A.F_zak T0⟩, Nat.le_refl 1, A.b_zak, A.w_zak⟩).cons (i := i_zq K t) ⟨A.m_zq, A.F_zq.kp, ⟨CX0, fun X' _ _ => pass_CX0 X', ok_zq (t := t) A.Z A.F_zq T0⟩, Nat.le_refl 1, A.b_zq, A.w_zq⟩).cons (i := i_zal K t) ⟨A.m_zal, A.F_zal.kp, ⟨CX0, fun X' _ _ => pass_CX0 X', ok_zal (t := t) A.Z A.F_zal T0⟩, Nat.le_refl 1, A.b_zal, A.w_zal⟩).cons (i := i_zae K t) ⟨A.m_zae, A.F_zae.kp, ⟨CX0, fun X' _ _ => pass_CX0 X', ok_zae (t := t) A.Z A.F_zae T0⟩, Nat.le_refl 1, A.b_zae, A.w_zae⟩).cons (i := i_zam K t) ⟨A.m_zam, A.F_zam.kp, ⟨CX0, fun X' _ _ => pass_CX0 X', ok_zam (t := t) A.Z A.F_zam T0⟩, Nat.le_refl 1, A.b_zam, A.w_zam⟩).cons (i := i_za K t) ⟨A.m_za, A.F_za.kp, ⟨CX0, fun X' _ _ => pass_CX0 X', ok_za (t := t) A.Z A.F_za T0⟩, Nat.le_refl 1, A.b_za, A.w_za⟩).cons (i := i_zb K t) ⟨A.m_zb, A.F_zb.kp, ⟨CX0, fun X' _ _ => pass_CX0 X', ok_zb (t := t) A.Z A.F_zb T0⟩, Nat.le_refl 1, A.b_zb, A.w_zb⟩).cons (i := i_zp K t) ⟨A.m_zp, A.F_zp.kp, ⟨CX0, fun X' _ _ => pass_CX0 X', ok_zp (t := t) A.Z A.F_zp T0⟩, Nat.le_refl 1, A.b_zp, A.w_zp⟩).cons (i := i_zz K t) ⟨A.m_zz, A.F_zz.kp, ⟨CX0, fun X' _ _ => pass_CX0 X', ok_zz (t := t) A.Z A.F_zz T0⟩, Nat.le_refl 1, A.b_zz, A.w_zz⟩).cons (i := i_zw K t) ⟨A.m_zw, A.F_zw.kp, ⟨CX0, fun X' _ _ => pass_CX0 X', ok_zw (t := t) A.Z A.F_zw T0⟩, Nat.le_refl 1, A.b_zw, A.w_zw⟩).cons (i := i_zah K t) ⟨A.m_zah, A.F_zah.kp, ⟨CX0, fun X' _ _ => pass_CX0 X', ok_zah (t := t) A.Z A.F_zah T0⟩, Nat.le_refl 1, A.b_zah, A.w_zah⟩).consM (m := "switches") (l := mt_switches K t) (fun mi hm => by
    simp only [mt_switches, List.mem_cons, List.not_mem_nil, or_false] at hm
    rcases hm with rfl
    · exact ⟨A.cl_zax, A.mt_zj, ⟨A.F_zj.kp, ⟨CX0, fun X' _ _ => pass_CX0 X', ok_zj (t := t) A.Z A.F_zj T0⟩, (show 1 ≤ 1 by decide), A.b_zj, A.w_zj⟩⟩)).consM (m := "number_of") (l := mt_number_of K t) (fun mi hm => by
    simp only [mt_number_of, List.mem_cons, List.not_mem_nil, or_false] at hm
    rcases hm with rfl
    · exact ⟨A.cl_zax, A.mt_zh, ⟨A.F_zh.kp, ⟨CXE P w, fun X' e1 e2 => e1 ▸ e2 ▸ pass_CXE X', ok_zh (t := t) A.Z A.F_zh T0⟩, (show 1 ≤ 1 by decide), A.b_zh, A.w_zh⟩⟩)).consM (m := "many") (l := mt_many K t) (fun mi hm => by
    simp only [mt_many, List.mem_cons, List.not_mem_nil, or_false] at hm
    rcases hm with rfl
    · exact ⟨A.cl_zax, A.mt_zt, ⟨A.F_zt.kp, ⟨CX0, fun X' _ _ => pass_CX0 X', ok_zt (t := t) A.Z A.F_zt T0⟩, (show 1 ≤ 1 by decide), A.b_zt, A.w_zt⟩⟩)).consM (m := "allowed") (l := mt_allowed K t) (fun mi hm => by
    simp only [mt_allowed, List.mem_cons, List.not_mem_nil, or_false] at hm
    rcases hm with rfl
    · exact ⟨A.cl_zax, A.mt_zk, ⟨A.F_zk.kp, ⟨CX0, fun X' _ _ => pass_CX0 X', ok_zk (t := t) A.Z A.F_zk T0⟩, (show 1 ≤ 1 by decide), A.b_zk, A.w_zk⟩⟩)
  have T2 : Tab P w K mg base 2 (gb_2 K t) bl := (((((((T1.mono (show 1 ≤ 2 by decide)).cons (i := i_zx K t) ⟨A.m_zx, A.F_zx.kp, ⟨CX0, fun X' _ _ => pass_CX0 X', ok_zx (t := t) A.Z A.F_zx T1⟩, Nat.le_refl 2, A.b_zx, A.w_zx⟩).cons (i := i_zad K t) ⟨A.m_zad, A.F_zad.kp, ⟨CX0, fun X' _ _ => pass_CX0 X', ok_zad (t := t) A.Z A.F_zad T1⟩, Nat.le_refl 2, A.b_zad, A.w_zad⟩).cons (i := i_zg K t) ⟨A.m_zg, A.F_zg.kp, ⟨CX0, fun X' _ _ => pass_CX0 X', ok_zg (t := t) A.Z A.F_zg T1⟩, Nat.le_refl 2, A.b_zg, A.w_zg⟩).cons (i := i_zai K t) ⟨A.m_zai, A.F_zai.kp, ⟨CX0, fun X' _ _ => pass_CX0 X', ok_zai (t := t) A.Z A.F_zai T1⟩, Nat.le_refl 2, A.b_zai, A.w_zai⟩).consM (m := "rules") (l := mt_rules K t) (fun mi hm => by
    simp only [mt_rules, List.mem_cons, List.not_mem_nil, or_false] at hm
    rcases hm with rfl
    · exact ⟨A.cl_zax, A.mt_zo, ⟨A.F_zo.kp, ⟨CX0, fun X' _ _ => pass_CX0 X', ok_zo (t := t) A.Z A.F_zo T1⟩, (show 2 ≤ 2 by decide), A.b_zo, A.w_zo⟩⟩)).consM (m := "need_number") (l := mt_need_number K t) (fun mi hm => by
    simp only [mt_need_number, List.mem_cons, List.not_mem_nil, or_false] at hm
    rcases hm with rfl
    · exact ⟨A.cl_zax, A.mt_zd, ⟨A.F_zd.kp, ⟨CXE P w, fun X' e1 e2 => e1 ▸ e2 ▸ pass_CXE X', ok_zd (t := t) A.Z A.F_zd T1⟩, (show 2 ≤ 2 by decide), A.b_zd, A.w_zd⟩⟩)).consM (m := "all_choices") (l := mt_all_choices K t) (fun mi hm => by
    simp only [mt_all_choices, List.mem_cons, List.not_mem_nil, or_false] at hm
    rcases hm with rfl
    · exact ⟨A.cl_zax, A.mt_zc, ⟨A.F_zc.kp, ⟨CX0, fun X' _ _ => pass_CX0 X', ok_zc (t := t) A.Z A.F_zc T1⟩, (show 2 ≤ 2 by decide), A.b_zc, A.w_zc⟩⟩)
  have T3 : Tab P w K mg base 3 (gb_3 K t) bl := ((((T2.mono (show 2 ≤ 3 by decide)).cons (i := i_zn K t) ⟨A.m_zn, A.F_zn.kp, ⟨CX0, fun X' _ _ => pass_CX0 X', ok_zn (t := t) A.Z A.F_zn T2⟩, Nat.le_refl 3, A.b_zn, A.w_zn⟩).cons (i := i_zf K t) ⟨A.m_zf, A.F_zf.kp, ⟨CX0, fun X' _ _ => pass_CX0 X', ok_zf (t := t) A.Z A.F_zf T2⟩, Nat.le_refl 3, A.b_zf, A.w_zf⟩).consM (m := "told") (l := mt_told K t) (fun mi hm => by
    simp only [mt_told, List.mem_cons, List.not_mem_nil, or_false] at hm
    rcases hm with rfl
    · exact ⟨A.cl_zax, A.mt_zv, ⟨A.F_zv.kp, ⟨CXE P w, fun X' e1 e2 => e1 ▸ e2 ▸ pass_CXE X', ok_zv (t := t) A.Z A.F_zv T2⟩, (show 3 ≤ 3 by decide), A.b_zv, A.w_zv⟩⟩)).consM (m := "barred") (l := mt_barred K t) (fun mi hm => by
    simp only [mt_barred, List.mem_cons, List.not_mem_nil, or_false] at hm
    rcases hm with rfl
    · exact ⟨A.cl_zax, A.mt_zm, ⟨A.F_zm.kp, ⟨CXE P w, fun X' e1 e2 => e1 ▸ e2 ▸ pass_CXE X', ok_zm (t := t) A.Z A.F_zm T2⟩, (show 3 ≤ 3 by decide), A.b_zm, A.w_zm⟩⟩)
  have T4 : Tab P w K mg base 4 (gb_4 K t) bl := ((((T3.mono (show 3 ≤ 4 by decide)).cons (i := i_zaj K t) ⟨A.m_zaj, A.F_zaj.kp, ⟨CX0, fun X' _ _ => pass_CX0 X', ok_zaj (t := t) A.Z A.F_zaj T3⟩, Nat.le_refl 4, A.b_zaj, A.w_zaj⟩).cons (i := i_zag K t) ⟨A.m_zag, A.F_zag.kp, ⟨CX0, fun X' _ _ => pass_CX0 X', ok_zag (t := t) A.Z A.F_zag T3⟩, Nat.le_refl 4, A.b_zag, A.w_zag⟩).cons (i := i_zaa K t) ⟨A.m_zaa, A.F_zaa.kp, ⟨CX0, fun X' _ _ => pass_CX0 X', ok_zaa (t := t) A.Z A.F_zaa T3⟩, Nat.le_refl 4, A.b_zaa, A.w_zaa⟩).consM (m := "term") (l := mt_term K t) (fun mi hm => by
    simp only [mt_term, List.mem_cons, List.not_mem_nil, or_false] at hm
    rcases hm with rfl
    · exact ⟨A.cl_zax, A.mt_zu, ⟨A.F_zu.kp, ⟨CX0, fun X' _ _ => pass_CX0 X', ok_zu (t := t) A.Z A.F_zu T3⟩, (show 4 ≤ 4 by decide), A.b_zu, A.w_zu⟩⟩)
  have T5 : Tab P w K mg base 5 (gb_5 K t) bl := (((T4.mono (show 4 ≤ 5 by decide)).cons (i := i_zr K t) ⟨A.m_zr, A.F_zr.kp, ⟨CX0, fun X' _ _ => pass_CX0 X', ok_zr (t := t) A.Z A.F_zr T4⟩, Nat.le_refl 5, A.b_zr, A.w_zr⟩).cons (i := i_zl K t) ⟨A.m_zl, A.F_zl.kp, ⟨CX0, fun X' _ _ => pass_CX0 X', ok_zl (t := t) A.Z A.F_zl T4⟩, Nat.le_refl 5, A.b_zl, A.w_zl⟩).consM (m := "box") (l := mt_box K t) (fun mi hm => by
    simp only [mt_box, List.mem_cons, List.not_mem_nil, or_false] at hm
    rcases hm with rfl
    · exact ⟨A.cl_zax, A.mt_zy, ⟨A.F_zy.kp, ⟨CX0, fun X' _ _ => pass_CX0 X', ok_zy (t := t) A.Z A.F_zy T4⟩, (show 5 ≤ 5 by decide), A.b_zy, A.w_zy⟩⟩)
  have T6 : Tab P w K mg base 6 (gb_6 K t) bl := (T5.mono (show 5 ≤ 6 by decide)).consM (m := "read_rule") (l := mt_read_rule K t) (fun mi hm => by
    simp only [mt_read_rule, List.mem_cons, List.not_mem_nil, or_false] at hm
    rcases hm with rfl
    · exact ⟨A.cl_zax, A.mt_zi, ⟨A.F_zi.kp, ⟨CX0, fun X' _ _ => pass_CX0 X', ok_zi (t := t) A.Z A.F_zi T5⟩, (show 6 ≤ 6 by decide), A.b_zi, A.w_zi⟩⟩)
  have T7 : Tab P w K mg base 7 (gb_7 K t) bl := (T6.mono (show 6 ≤ 7 by decide)).consM (m := "read_rules") (l := mt_read_rules K t) (fun mi hm => by
    simp only [mt_read_rules, List.mem_cons, List.not_mem_nil, or_false] at hm
    rcases hm with rfl
    · exact ⟨A.cl_zax, A.mt_ze, ⟨A.F_ze.kp, ⟨CX0, fun X' _ _ => pass_CX0 X', ok_ze (t := t) A.Z A.F_ze T6⟩, (show 7 ≤ 7 by decide), A.b_ze, A.w_ze⟩⟩)
  have T8 : Tab P w K mg base 8 (gb_8 K t) bl := T7.mono (show 7 ≤ 8 by decide)
  have T9 : Tab P w K mg base 9 (gb_9 K t) bl := (T8.mono (show 8 ≤ 9 by decide)).consC (oi := some (i_zs K t)) ⟨A.at_zax, A.kp_zax, A.mk_zax, A.in_zax, A.if_zs, ⟨A.F_zs.kp, ⟨CX0, fun X' _ _ => pass_CX0 X', ok_zs (t := t) A.Z A.F_zs T7⟩, Nat.le_succ 8, A.b_zs, A.w_zs⟩, Nat.le_refl 9⟩
  have T10 : Tab P w K mg base 10 (gb_10 K t) bl := (T9.mono (show 9 ≤ 10 by decide)).cons (i := i_zab K t) ⟨A.m_zab, A.F_zab.kp, ⟨CX0, fun X' _ _ => pass_CX0 X', ok_zab (t := t) A.Z A.F_zab T9⟩, Nat.le_refl 10, A.b_zab, A.w_zab⟩
  exact ok_zan (t := t) A.Z A.F_zan T10
theorem all_mk {l : PySem.W.OpenLaw} {w : World} {K : PySem.W.Frag} {h : Heap} {mg : Str → Option Value} {fa f_zah f_zt f_zc f_zw f_zz f_zai f_zf f_zu f_zy f_zp f_zi f_ze f_zaa f_zl f_zb f_za f_zam f_zg f_zs f_zj f_zo f_zh f_zae f_zd f_zv f_zk f_zal f_zm f_zq f_zak f_zad f_zn f_zaf f_zab f_zag f_zaj f_zx f_zr f_zac f_zan c_zat c_zau c_zav c_zaw c_zax Td_zs : Addr} (X : K.In h) (G : h.Ns mainGlobals mg) (hfa : mg "law" = some (.ref fa))
    {od_zah an_zah od_zt an_zt od_zc an_zc od_zw an_zw od_zz an_zz od_zai an_zai od_zf an_zf od_zu an_zu od_zy an_zy od_zp an_zp od_zi an_zi od_ze an_ze od_zaa an_zaa od_zl an_zl od_zb an_zb od_za an_za od_zam an_zam od_zg an_zg od_zs an_zs od_zj an_zj od_zo an_zo od_zh an_zh od_zae an_zae od_zd an_zd od_zv an_zv od_zk an_zk od_zal an_zal od_zm an_zm od_zq an_zq od_zak an_zak od_zad an_zad od_zn an_zn od_zaf an_zaf od_zab an_zab od_zag an_zag od_zaj an_zaj od_zx an_zx od_zr an_zr od_zac an_zac od_zan an_zan td_zs : Option Addr} {sl_zah sl_zt sl_zc sl_zw sl_zz sl_zai sl_zf sl_zu sl_zy sl_zp sl_zi sl_ze sl_zaa sl_zl sl_zb sl_za sl_zam sl_zg sl_zs sl_zj sl_zo sl_zh sl_zae sl_zd sl_zv sl_zk sl_zal sl_zm sl_zq sl_zak sl_zad sl_zn sl_zaf sl_zab sl_zag sl_zaj sl_zx sl_zr sl_zac sl_zan ts_zs : Array (Option Value)}
    {oc_zah kV_zah dc_zah pm_zah cd_zah ct_zah oc_zt kV_zt dc_zt pm_zt cd_zt ct_zt oc_zc kV_zc dc_zc pm_zc cd_zc ct_zc oc_zw kV_zw dc_zw pm_zw cd_zw ct_zw oc_zz kV_zz dc_zz pm_zz cd_zz ct_zz oc_zai kV_zai dc_zai pm_zai cd_zai ct_zai oc_zf kV_zf dc_zf pm_zf cd_zf ct_zf oc_zu kV_zu dc_zu pm_zu cd_zu ct_zu oc_zy kV_zy dc_zy pm_zy cd_zy ct_zy oc_zp kV_zp dc_zp pm_zp cd_zp ct_zp oc_zi kV_zi dc_zi pm_zi cd_zi ct_zi oc_ze kV_ze dc_ze pm_ze cd_ze ct_ze oc_zaa kV_zaa dc_zaa pm_zaa cd_zaa ct_zaa oc_zl kV_zl dc_zl pm_zl cd_zl ct_zl oc_zb kV_zb dc_zb pm_zb cd_zb ct_zb oc_za kV_za dc_za pm_za cd_za ct_za oc_zam kV_zam dc_zam pm_zam cd_zam ct_zam oc_zg kV_zg dc_zg pm_zg cd_zg ct_zg oc_zs kV_zs dc_zs pm_zs cd_zs ct_zs oc_zj kV_zj dc_zj pm_zj cd_zj ct_zj oc_zo kV_zo dc_zo pm_zo cd_zo ct_zo oc_zh kV_zh dc_zh pm_zh cd_zh ct_zh oc_zae kV_zae dc_zae pm_zae cd_zae ct_zae oc_zd kV_zd dc_zd pm_zd cd_zd ct_zd oc_zv kV_zv dc_zv pm_zv cd_zv ct_zv oc_zk kV_zk dc_zk pm_zk cd_zk ct_zk oc_zal kV_zal dc_zal pm_zal cd_zal ct_zal oc_zm kV_zm dc_zm pm_zm cd_zm ct_zm oc_zq kV_zq dc_zq pm_zq cd_zq ct_zq oc_zak kV_zak dc_zak pm_zak cd_zak ct_zak oc_zad kV_zad dc_zad pm_zad cd_zad ct_zad oc_zn kV_zn dc_zn pm_zn cd_zn ct_zn oc_zaf kV_zaf dc_zaf pm_zaf cd_zaf ct_zaf oc_zab kV_zab dc_zab pm_zab cd_zab ct_zab oc_zag kV_zag dc_zag pm_zag cd_zag ct_zag oc_zaj kV_zaj dc_zaj pm_zaj cd_zaj ct_zaj oc_zx kV_zx dc_zx pm_zx cd_zx ct_zx oc_zr kV_zr dc_zr pm_zr cd_zr ct_zr oc_zac kV_zac dc_zac pm_zac cd_zac ct_zac oc_zan kV_zan dc_zan pm_zan cd_zan ct_zan tc_zs : Value}
    {tn_zs : Nat}
    {u_zaq u_zao u_zap u_zar u_zas : Value}
    (a_zat : PySem.W.nsIn K mainGlobals "LeafError" = some (some (.ref c_zat)))
    (a_zau : PySem.W.nsIn K mainGlobals "BadPanel" = some (some (.ref c_zau)))
    (a_zav : PySem.W.nsIn K mainGlobals "NoChoice" = some (some (.ref c_zav)))
    (a_zaw : PySem.W.nsIn K mainGlobals "BadCond" = some (some (.ref c_zaw)))
    (in_zat : PySem.W.findIn K (.ref c_zat) "__init__" = some (some (.builtin "ValueError.__init__")))
    (kp_zat : PySem.W.keepIn K (.ref c_zat) = true)
    (in_zau : PySem.W.findIn K (.ref c_zau) "__init__" = some (some (.builtin "ValueError.__init__")))
    (kp_zau : PySem.W.keepIn K (.ref c_zau) = true)
    (in_zav : PySem.W.findIn K (.ref c_zav) "__init__" = some (some (.builtin "ValueError.__init__")))
    (kp_zav : PySem.W.keepIn K (.ref c_zav) = true)
    (in_zaw : PySem.W.findIn K (.ref c_zaw) "__init__" = some (some (.builtin "ValueError.__init__")))
    (kp_zaw : PySem.W.keepIn K (.ref c_zaw) = true)
    (a_zax : PySem.W.nsIn K mainGlobals "Panel" = some (some (.ref c_zax)))
    (in_zax : PySem.W.findIn K (.ref c_zax) "__init__" = some (some (.ref f_zs)))
    (kp_zax : PySem.W.keepIn K (.ref c_zax) = true)
    (mk_zax : PySem.W.makesIn K c_zax = true)
    (pg_zax : PySem.W.plainGet K c_zax Str.empty = true)
    (hd_zax : PySem.W.hasDictIn K c_zax = true)
    (po_zax : PySem.W.plainOver K c_zax = true)
    (sa_zax : PySem.W.findIn K (.ref c_zax) "__setattr__" = some (some (.builtin "object.__setattr__")))
    (mt_zc : PySem.W.findIn K (.ref c_zax) "all_choices" = some (some (.ref f_zc)))
    (mt_zk : PySem.W.findIn K (.ref c_zax) "allowed" = some (some (.ref f_zk)))
    (mt_zm : PySem.W.findIn K (.ref c_zax) "barred" = some (some (.ref f_zm)))
    (mt_zy : PySem.W.findIn K (.ref c_zax) "box" = some (some (.ref f_zy)))
    (mt_zt : PySem.W.findIn K (.ref c_zax) "many" = some (some (.ref f_zt)))
    (mt_zd : PySem.W.findIn K (.ref c_zax) "need_number" = some (some (.ref f_zd)))
    (mt_zh : PySem.W.findIn K (.ref c_zax) "number_of" = some (some (.ref f_zh)))
    (mt_zi : PySem.W.findIn K (.ref c_zax) "read_rule" = some (some (.ref f_zi)))
    (mt_ze : PySem.W.findIn K (.ref c_zax) "read_rules" = some (some (.ref f_ze)))
    (mt_zo : PySem.W.findIn K (.ref c_zax) "rules" = some (some (.ref f_zo)))
    (mt_zj : PySem.W.findIn K (.ref c_zax) "switches" = some (some (.ref f_zj)))
    (mt_zu : PySem.W.findIn K (.ref c_zax) "term" = some (some (.ref f_zu)))
    (mt_zv : PySem.W.findIn K (.ref c_zax) "told" = some (some (.ref f_zv)))
    (a_zah : PySem.W.nsIn K mainGlobals "union_of" = some (some (.ref f_zah)))
    (l_zah : K.lookup f_zah = some ⟨oc_zah, od_zah, .func (PySem.W.fnOf "union_of" "union_of" (defArgs s_zah) (defBody s_zah) (defScope s_zah) .none kV_zah dc_zah pm_zah an_zah cd_zah ct_zah), sl_zah⟩)
    (c_zah : PySem.W.codeIn K cd_zah "union_of" = true)
    (k_zah : PySem.W.keepIn K (.ref f_zah) = true)
    (l_zt : K.lookup f_zt = some ⟨oc_zt, od_zt, .func (PySem.W.fnOf "many" "Panel.many" (defArgs s_zt) (defBody s_zt) (defScope s_zt) .none kV_zt dc_zt pm_zt an_zt cd_zt ct_zt), sl_zt⟩)
    (c_zt : PySem.W.codeIn K cd_zt "Panel.many" = true)
    (k_zt : PySem.W.keepIn K (.ref f_zt) = true)
    (if_zt : PySem.W.isFn K (.ref f_zt) = true)
    (l_zc : K.lookup f_zc = some ⟨oc_zc, od_zc, .func (PySem.W.fnOf "all_choices" "Panel.all_choices" (defArgs s_zc) (defBody s_zc) (defScope s_zc) .none kV_zc dc_zc pm_zc an_zc cd_zc ct_zc), sl_zc⟩)
    (c_zc : PySem.W.codeIn K cd_zc "Panel.all_choices" = true)
    (k_zc : PySem.W.keepIn K (.ref f_zc) = true)
    (if_zc : PySem.W.isFn K (.ref f_zc) = true)
    (a_zw : PySem.W.nsIn K mainGlobals "has_length" = some (some (.ref f_zw)))
    (l_zw : K.lookup f_zw = some ⟨oc_zw, od_zw, .func (PySem.W.fnOf "has_length" "has_length" (defArgs s_zw) (defBody s_zw) (defScope s_zw) .none kV_zw dc_zw pm_zw an_zw cd_zw ct_zw), sl_zw⟩)
    (c_zw : PySem.W.codeIn K cd_zw "has_length" = true)
    (k_zw : PySem.W.keepIn K (.ref f_zw) = true)
    (a_zz : PySem.W.nsIn K mainGlobals "is_letter" = some (some (.ref f_zz)))
    (l_zz : K.lookup f_zz = some ⟨oc_zz, od_zz, .func (PySem.W.fnOf "is_letter" "is_letter" (defArgs s_zz) (defBody s_zz) (defScope s_zz) .none kV_zz dc_zz pm_zz an_zz cd_zz ct_zz), sl_zz⟩)
    (c_zz : PySem.W.codeIn K cd_zz "is_letter" = true)
    (k_zz : PySem.W.keepIn K (.ref f_zz) = true)
    (a_zai : PySem.W.nsIn K mainGlobals "is_word" = some (some (.ref f_zai)))
    (l_zai : K.lookup f_zai = some ⟨oc_zai, od_zai, .func (PySem.W.fnOf "is_word" "is_word" (defArgs s_zai) (defBody s_zai) (defScope s_zai) .none kV_zai dc_zai pm_zai an_zai cd_zai ct_zai), sl_zai⟩)
    (c_zai : PySem.W.codeIn K cd_zai "is_word" = true)
    (k_zai : PySem.W.keepIn K (.ref f_zai) = true)
    (a_zf : PySem.W.nsIn K mainGlobals "are_unlike_words" = some (some (.ref f_zf)))
    (l_zf : K.lookup f_zf = some ⟨oc_zf, od_zf, .func (PySem.W.fnOf "are_unlike_words" "are_unlike_words" (defArgs s_zf) (defBody s_zf) (defScope s_zf) .none kV_zf dc_zf pm_zf an_zf cd_zf ct_zf), sl_zf⟩)
    (c_zf : PySem.W.codeIn K cd_zf "are_unlike_words" = true)
    (k_zf : PySem.W.keepIn K (.ref f_zf) = true)
    (l_zu : K.lookup f_zu = some ⟨oc_zu, od_zu, .func (PySem.W.fnOf "term" "Panel.term" (defArgs s_zu) (defBody s_zu) (defScope s_zu) .none kV_zu dc_zu pm_zu an_zu cd_zu ct_zu), sl_zu⟩)
    (c_zu : PySem.W.codeIn K cd_zu "Panel.term" = true)
    (k_zu : PySem.W.keepIn K (.ref f_zu) = true)
    (if_zu : PySem.W.isFn K (.ref f_zu) = true)
    (l_zy : K.lookup f_zy = some ⟨oc_zy, od_zy, .func (PySem.W.fnOf "box" "Panel.box" (defArgs s_zy) (defBody s_zy) (defScope s_zy) .none kV_zy dc_zy pm_zy an_zy cd_zy ct_zy), sl_zy⟩)
    (c_zy : PySem.W.codeIn K cd_zy "Panel.box" = true)
    (k_zy : PySem.W.keepIn K (.ref f_zy) = true)
    (if_zy : PySem.W.isFn K (.ref f_zy) = true)
    (a_zp : PySem.W.nsIn K mainGlobals "copied_rule" = some (some (.ref f_zp)))
    (l_zp : K.lookup f_zp = some ⟨oc_zp, od_zp, .func (PySem.W.fnOf "copied_rule" "copied_rule" (defArgs s_zp) (defBody s_zp) (defScope s_zp) .none kV_zp dc_zp pm_zp an_zp cd_zp ct_zp), sl_zp⟩)
    (c_zp : PySem.W.codeIn K cd_zp "copied_rule" = true)
    (k_zp : PySem.W.keepIn K (.ref f_zp) = true)
    (l_zi : K.lookup f_zi = some ⟨oc_zi, od_zi, .func (PySem.W.fnOf "read_rule" "Panel.read_rule" (defArgs s_zi) (defBody s_zi) (defScope s_zi) .none kV_zi dc_zi pm_zi an_zi cd_zi ct_zi), sl_zi⟩)
    (c_zi : PySem.W.codeIn K cd_zi "Panel.read_rule" = true)
    (k_zi : PySem.W.keepIn K (.ref f_zi) = true)
    (if_zi : PySem.W.isFn K (.ref f_zi) = true)
    (l_ze : K.lookup f_ze = some ⟨oc_ze, od_ze, .func (PySem.W.fnOf "read_rules" "Panel.read_rules" (defArgs s_ze) (defBody s_ze) (defScope s_ze) .none kV_ze dc_ze pm_ze an_ze cd_ze ct_ze), sl_ze⟩)
    (c_ze : PySem.W.codeIn K cd_ze "Panel.read_rules" = true)
    (k_ze : PySem.W.keepIn K (.ref f_ze) = true)
    (if_ze : PySem.W.isFn K (.ref f_ze) = true)
    (a_zaa : PySem.W.nsIn K mainGlobals "is_switch" = some (some (.ref f_zaa)))
    (l_zaa : K.lookup f_zaa = some ⟨oc_zaa, od_zaa, .func (PySem.W.fnOf "is_switch" "is_switch" (defArgs s_zaa) (defBody s_zaa) (defScope s_zaa) .none kV_zaa dc_zaa pm_zaa an_zaa cd_zaa ct_zaa), sl_zaa⟩)
    (c_zaa : PySem.W.codeIn K cd_zaa "is_switch" = true)
    (k_zaa : PySem.W.keepIn K (.ref f_zaa) = true)
    (a_zl : PySem.W.nsIn K mainGlobals "read_switches" = some (some (.ref f_zl)))
    (l_zl : K.lookup f_zl = some ⟨oc_zl, od_zl, .func (PySem.W.fnOf "read_switches" "read_switches" (defArgs s_zl) (defBody s_zl) (defScope s_zl) .none kV_zl dc_zl pm_zl an_zl cd_zl ct_zl), sl_zl⟩)
    (c_zl : PySem.W.codeIn K cd_zl "read_switches" = true)
    (k_zl : PySem.W.keepIn K (.ref f_zl) = true)
    (a_zb : PySem.W.nsIn K mainGlobals "settings_of_choices" = some (some (.ref f_zb)))
    (l_zb : K.lookup f_zb = some ⟨oc_zb, od_zb, .func (PySem.W.fnOf "settings_of_choices" "settings_of_choices" (defArgs s_zb) (defBody s_zb) (defScope s_zb) .none kV_zb dc_zb pm_zb an_zb cd_zb ct_zb), sl_zb⟩)
    (c_zb : PySem.W.codeIn K cd_zb "settings_of_choices" = true)
    (k_zb : PySem.W.keepIn K (.ref f_zb) = true)
    (a_za : PySem.W.nsIn K mainGlobals "numbers_by_settings" = some (some (.ref f_za)))
    (l_za : K.lookup f_za = some ⟨oc_za, od_za, .func (PySem.W.fnOf "numbers_by_settings" "numbers_by_settings" (defArgs s_za) (defBody s_za) (defScope s_za) .none kV_za dc_za pm_za an_za cd_za ct_za), sl_za⟩)
    (c_za : PySem.W.codeIn K cd_za "numbers_by_settings" = true)
    (k_za : PySem.W.keepIn K (.ref f_za) = true)
    (a_zam : PySem.W.nsIn K mainGlobals "set_of" = some (some (.ref f_zam)))
    (l_zam : K.lookup f_zam = some ⟨oc_zam, od_zam, .func (PySem.W.fnOf "set_of" "set_of" (defArgs s_zam) (defBody s_zam) (defScope s_zam) .none kV_zam dc_zam pm_zam an_zam cd_zam ct_zam), sl_zam⟩)
    (c_zam : PySem.W.codeIn K cd_zam "set_of" = true)
    (k_zam : PySem.W.keepIn K (.ref f_zam) = true)
    (a_zg : PySem.W.nsIn K mainGlobals "sets_of_settings" = some (some (.ref f_zg)))
    (l_zg : K.lookup f_zg = some ⟨oc_zg, od_zg, .func (PySem.W.fnOf "sets_of_settings" "sets_of_settings" (defArgs s_zg) (defBody s_zg) (defScope s_zg) .none kV_zg dc_zg pm_zg an_zg cd_zg ct_zg), sl_zg⟩)
    (c_zg : PySem.W.codeIn K cd_zg "sets_of_settings" = true)
    (k_zg : PySem.W.keepIn K (.ref f_zg) = true)
    (l_zs : K.lookup f_zs = some ⟨oc_zs, od_zs, .func (PySem.W.fnOf "__init__" "Panel.__init__" (defArgs s_zs) (defBody s_zs) (defScope s_zs) (.ref Td_zs) kV_zs dc_zs pm_zs an_zs cd_zs ct_zs), sl_zs⟩)
    (c_zs : PySem.W.codeIn K cd_zs "Panel.__init__" = true)
    (k_zs : PySem.W.keepIn K (.ref f_zs) = true)
    (if_zs : PySem.W.isFn K (.ref f_zs) = true)
    (ld_zs : K.lookup Td_zs = some ⟨tc_zs, td_zs, .seq #[.none] tn_zs, ts_zs⟩)
    (l_zj : K.lookup f_zj = some ⟨oc_zj, od_zj, .func (PySem.W.fnOf "switches" "Panel.switches" (defArgs s_zj) (defBody s_zj) (defScope s_zj) .none kV_zj dc_zj pm_zj an_zj cd_zj ct_zj), sl_zj⟩)
    (c_zj : PySem.W.codeIn K cd_zj "Panel.switches" = true)
    (k_zj : PySem.W.keepIn K (.ref f_zj) = true)
    (if_zj : PySem.W.isFn K (.ref f_zj) = true)
    (l_zo : K.lookup f_zo = some ⟨oc_zo, od_zo, .func (PySem.W.fnOf "rules" "Panel.rules" (defArgs s_zo) (defBody s_zo) (defScope s_zo) .none kV_zo dc_zo pm_zo an_zo cd_zo ct_zo), sl_zo⟩)
    (c_zo : PySem.W.codeIn K cd_zo "Panel.rules" = true)
    (k_zo : PySem.W.keepIn K (.ref f_zo) = true)
    (if_zo : PySem.W.isFn K (.ref f_zo) = true)
    (l_zh : K.lookup f_zh = some ⟨oc_zh, od_zh, .func (PySem.W.fnOf "number_of" "Panel.number_of" (defArgs s_zh) (defBody s_zh) (defScope s_zh) .none kV_zh dc_zh pm_zh an_zh cd_zh ct_zh), sl_zh⟩)
    (c_zh : PySem.W.codeIn K cd_zh "Panel.number_of" = true)
    (k_zh : PySem.W.keepIn K (.ref f_zh) = true)
    (if_zh : PySem.W.isFn K (.ref f_zh) = true)
    (a_zae : PySem.W.nsIn K mainGlobals "is_whole" = some (some (.ref f_zae)))
    (l_zae : K.lookup f_zae = some ⟨oc_zae, od_zae, .func (PySem.W.fnOf "is_whole" "is_whole" (defArgs s_zae) (defBody s_zae) (defScope s_zae) .none kV_zae dc_zae pm_zae an_zae cd_zae ct_zae), sl_zae⟩)
    (c_zae : PySem.W.codeIn K cd_zae "is_whole" = true)
    (k_zae : PySem.W.keepIn K (.ref f_zae) = true)
    (l_zd : K.lookup f_zd = some ⟨oc_zd, od_zd, .func (PySem.W.fnOf "need_number" "Panel.need_number" (defArgs s_zd) (defBody s_zd) (defScope s_zd) .none kV_zd dc_zd pm_zd an_zd cd_zd ct_zd), sl_zd⟩)
    (c_zd : PySem.W.codeIn K cd_zd "Panel.need_number" = true)
    (k_zd : PySem.W.keepIn K (.ref f_zd) = true)
    (if_zd : PySem.W.isFn K (.ref f_zd) = true)
    (l_zv : K.lookup f_zv = some ⟨oc_zv, od_zv, .func (PySem.W.fnOf "told" "Panel.told" (defArgs s_zv) (defBody s_zv) (defScope s_zv) .none kV_zv dc_zv pm_zv an_zv cd_zv ct_zv), sl_zv⟩)
    (c_zv : PySem.W.codeIn K cd_zv "Panel.told" = true)
    (k_zv : PySem.W.keepIn K (.ref f_zv) = true)
    (if_zv : PySem.W.isFn K (.ref f_zv) = true)
    (l_zk : K.lookup f_zk = some ⟨oc_zk, od_zk, .func (PySem.W.fnOf "allowed" "Panel.allowed" (defArgs s_zk) (defBody s_zk) (defScope s_zk) .none kV_zk dc_zk pm_zk an_zk cd_zk ct_zk), sl_zk⟩)
    (c_zk : PySem.W.codeIn K cd_zk "Panel.allowed" = true)
    (k_zk : PySem.W.keepIn K (.ref f_zk) = true)
    (if_zk : PySem.W.isFn K (.ref f_zk) = true)
    (a_zal : PySem.W.nsIn K mainGlobals "in_set" = some (some (.ref f_zal)))
    (l_zal : K.lookup f_zal = some ⟨oc_zal, od_zal, .func (PySem.W.fnOf "in_set" "in_set" (defArgs s_zal) (defBody s_zal) (defScope s_zal) .none kV_zal dc_zal pm_zal an_zal cd_zal ct_zal), sl_zal⟩)
    (c_zal : PySem.W.codeIn K cd_zal "in_set" = true)
    (k_zal : PySem.W.keepIn K (.ref f_zal) = true)
    (l_zm : K.lookup f_zm = some ⟨oc_zm, od_zm, .func (PySem.W.fnOf "barred" "Panel.barred" (defArgs s_zm) (defBody s_zm) (defScope s_zm) .none kV_zm dc_zm pm_zm an_zm cd_zm ct_zm), sl_zm⟩)
    (c_zm : PySem.W.codeIn K cd_zm "Panel.barred" = true)
    (k_zm : PySem.W.keepIn K (.ref f_zm) = true)
    (if_zm : PySem.W.isFn K (.ref f_zm) = true)
    (a_zq : PySem.W.nsIn K mainGlobals "_law_cell_at" = some (some (.ref f_zq)))
    (l_zq : K.lookup f_zq = some ⟨oc_zq, od_zq, .func (PySem.W.fnOf "_law_cell_at" "_law_cell_at" (defArgs s_zq) (defBody s_zq) (defScope s_zq) .none kV_zq dc_zq pm_zq an_zq cd_zq ct_zq), sl_zq⟩)
    (c_zq : PySem.W.codeIn K cd_zq "_law_cell_at" = true)
    (k_zq : PySem.W.keepIn K (.ref f_zq) = true)
    (a_zak : PySem.W.nsIn K mainGlobals "_law_mix" = some (some (.ref f_zak)))
    (l_zak : K.lookup f_zak = some ⟨oc_zak, od_zak, .func (PySem.W.fnOf "_law_mix" "_law_mix" (defArgs s_zak) (defBody s_zak) (defScope s_zak) .none kV_zak dc_zak pm_zak an_zak cd_zak ct_zak), sl_zak⟩)
    (c_zak : PySem.W.codeIn K cd_zak "_law_mix" = true)
    (k_zak : PySem.W.keepIn K (.ref f_zak) = true)
    (a_zad : PySem.W.nsIn K mainGlobals "_law_words" = some (some (.ref f_zad)))
    (l_zad : K.lookup f_zad = some ⟨oc_zad, od_zad, .func (PySem.W.fnOf "_law_words" "_law_words" (defArgs s_zad) (defBody s_zad) (defScope s_zad) .none kV_zad dc_zad pm_zad an_zad cd_zad ct_zad), sl_zad⟩)
    (c_zad : PySem.W.codeIn K cd_zad "_law_words" = true)
    (k_zad : PySem.W.keepIn K (.ref f_zad) = true)
    (a_zn : PySem.W.nsIn K mainGlobals "_law_switches" = some (some (.ref f_zn)))
    (l_zn : K.lookup f_zn = some ⟨oc_zn, od_zn, .func (PySem.W.fnOf "_law_switches" "_law_switches" (defArgs s_zn) (defBody s_zn) (defScope s_zn) .none kV_zn dc_zn pm_zn an_zn cd_zn ct_zn), sl_zn⟩)
    (c_zn : PySem.W.codeIn K cd_zn "_law_switches" = true)
    (k_zn : PySem.W.keepIn K (.ref f_zn) = true)
    (a_zaf : PySem.W.nsIn K mainGlobals "_law_rows" = some (some (.ref f_zaf)))
    (l_zaf : K.lookup f_zaf = some ⟨oc_zaf, od_zaf, .func (PySem.W.fnOf "_law_rows" "_law_rows" (defArgs s_zaf) (defBody s_zaf) (defScope s_zaf) .none kV_zaf dc_zaf pm_zaf an_zaf cd_zaf ct_zaf), sl_zaf⟩)
    (c_zaf : PySem.W.codeIn K cd_zaf "_law_rows" = true)
    (k_zaf : PySem.W.keepIn K (.ref f_zaf) = true)
    (a_zab : PySem.W.nsIn K mainGlobals "_law_panel" = some (some (.ref f_zab)))
    (l_zab : K.lookup f_zab = some ⟨oc_zab, od_zab, .func (PySem.W.fnOf "_law_panel" "_law_panel" (defArgs s_zab) (defBody s_zab) (defScope s_zab) .none kV_zab dc_zab pm_zab an_zab cd_zab ct_zab), sl_zab⟩)
    (c_zab : PySem.W.codeIn K cd_zab "_law_panel" = true)
    (k_zab : PySem.W.keepIn K (.ref f_zab) = true)
    (a_zag : PySem.W.nsIn K mainGlobals "_law_told" = some (some (.ref f_zag)))
    (l_zag : K.lookup f_zag = some ⟨oc_zag, od_zag, .func (PySem.W.fnOf "_law_told" "_law_told" (defArgs s_zag) (defBody s_zag) (defScope s_zag) .none kV_zag dc_zag pm_zag an_zag cd_zag ct_zag), sl_zag⟩)
    (c_zag : PySem.W.codeIn K cd_zag "_law_told" = true)
    (k_zag : PySem.W.keepIn K (.ref f_zag) = true)
    (a_zaj : PySem.W.nsIn K mainGlobals "_law_bar" = some (some (.ref f_zaj)))
    (l_zaj : K.lookup f_zaj = some ⟨oc_zaj, od_zaj, .func (PySem.W.fnOf "_law_bar" "_law_bar" (defArgs s_zaj) (defBody s_zaj) (defScope s_zaj) .none kV_zaj dc_zaj pm_zaj an_zaj cd_zaj ct_zaj), sl_zaj⟩)
    (c_zaj : PySem.W.codeIn K cd_zaj "_law_bar" = true)
    (k_zaj : PySem.W.keepIn K (.ref f_zaj) = true)
    (a_zx : PySem.W.nsIn K mainGlobals "_law_number" = some (some (.ref f_zx)))
    (l_zx : K.lookup f_zx = some ⟨oc_zx, od_zx, .func (PySem.W.fnOf "_law_number" "_law_number" (defArgs s_zx) (defBody s_zx) (defScope s_zx) .none kV_zx dc_zx pm_zx an_zx cd_zx ct_zx), sl_zx⟩)
    (c_zx : PySem.W.codeIn K cd_zx "_law_number" = true)
    (k_zx : PySem.W.keepIn K (.ref f_zx) = true)
    (a_zr : PySem.W.nsIn K mainGlobals "_law_refused" = some (some (.ref f_zr)))
    (l_zr : K.lookup f_zr = some ⟨oc_zr, od_zr, .func (PySem.W.fnOf "_law_refused" "_law_refused" (defArgs s_zr) (defBody s_zr) (defScope s_zr) .none kV_zr dc_zr pm_zr an_zr cd_zr ct_zr), sl_zr⟩)
    (c_zr : PySem.W.codeIn K cd_zr "_law_refused" = true)
    (k_zr : PySem.W.keepIn K (.ref f_zr) = true)
    (a_zac : PySem.W.nsIn K mainGlobals "_law_whole" = some (some (.ref f_zac)))
    (l_zac : K.lookup f_zac = some ⟨oc_zac, od_zac, .func (PySem.W.fnOf "_law_whole" "_law_whole" (defArgs s_zac) (defBody s_zac) (defScope s_zac) .none kV_zac dc_zac pm_zac an_zac cd_zac ct_zac), sl_zac⟩)
    (c_zac : PySem.W.codeIn K cd_zac "_law_whole" = true)
    (k_zac : PySem.W.keepIn K (.ref f_zac) = true)
    (a_zan : PySem.W.nsIn K mainGlobals "law" = some (some (.ref f_zan)))
    (l_zan : K.lookup f_zan = some ⟨oc_zan, od_zan, .func (PySem.W.fnOf "law" "law" (defArgs s_zan) (defBody s_zan) (defScope s_zan) .none kV_zan dc_zan pm_zan an_zan cd_zan ct_zan), sl_zan⟩)
    (c_zan : PySem.W.codeIn K cd_zan "law" = true)
    (k_zan : PySem.W.keepIn K (.ref f_zan) = true)
    (x_zat : XC K c_zat (valTail))
    (x_zau : XC K c_zau (.ref c_zat :: valTail))
    (x_zav : XC K c_zav (.ref c_zat :: valTail))
    (x_zaw : XC K c_zaw (.ref c_zat :: valTail))
    (v_zaq : PySem.W.nsIn K mainGlobals "MOST_SWITCHES" = some (some u_zaq))
    (r_zaq : RelV (.int 5) u_zaq)
    (v_zao : PySem.W.nsIn K mainGlobals "LEAST_SETTINGS" = some (some u_zao))
    (r_zao : RelV (.int 2) u_zao)
    (v_zap : PySem.W.nsIn K mainGlobals "MOST_SETTINGS" = some (some u_zap))
    (r_zap : RelV (.int 4) u_zap)
    (v_zar : PySem.W.nsIn K mainGlobals "MOST_CHOICES" = some (some u_zar))
    (r_zar : RelV (.int 256) u_zar)
    (v_zas : PySem.W.nsIn K mainGlobals "MOST_RULES" = some (some u_zas))
    (r_zas : RelV (.int 8) u_zas)
    (z_all : PySem.W.nsIn K mainGlobals "all" = some none)
    (z_bool : PySem.W.nsIn K mainGlobals "bool" = some none)
    (z_dict : PySem.W.nsIn K mainGlobals "dict" = some none)
    (z_enumerate : PySem.W.nsIn K mainGlobals "enumerate" = some none)
    (z_int : PySem.W.nsIn K mainGlobals "int" = some none)
    (z_isinstance : PySem.W.nsIn K mainGlobals "isinstance" = some none)
    (z_len : PySem.W.nsIn K mainGlobals "len" = some none)
    (z_list : PySem.W.nsIn K mainGlobals "list" = some none)
    (z_range : PySem.W.nsIn K mainGlobals "range" = some none)
    (z_set : PySem.W.nsIn K mainGlobals "set" = some none)
    (z_str : PySem.W.nsIn K mainGlobals "str" = some none)
    (z_tuple : PySem.W.nsIn K mainGlobals "tuple" = some none)
    (na_settings : PySem.W.findIn K (.ref c_zax) "settings" = some none)
    (na_tuples : PySem.W.findIn K (.ref c_zax) "tuples" = some none)
    (na_numbers : PySem.W.findIn K (.ref c_zax) "numbers" = some none)
    (na_sets : PySem.W.findIn K (.ref c_zax) "sets" = some none)
    (na_kept_rules : PySem.W.findIn K (.ref c_zax) "kept_rules" = some none)
    (na_bars : PySem.W.findIn K (.ref c_zax) "bars" = some none)
    (na_free : PySem.W.findIn K (.ref c_zax) "free" = some none)
    (mr_zav : PySem.W.mroIn K c_zav (.ref c_zav) = some true)
    : ∃ (t : Adr) (fd : FuncData), (∀ (s : Shared) (v : Value), BindsTo s fd ⟨[v], []⟩ [("_law_script", v)]) ∧ ∀ base : Heap, K.In base → base.Ns mainGlobals mg → FnOk l.prog w K mg base CX0 11 fa fd ["_law_script"] (sp_zan K t) := by
  have F_zah := fun_mk (st := s_zah) l_zah c_zah k_zah
  have b_zah := F_zah.binds (ps := P_zah) fun _ _ _ _ _ _ us hl => match us, hl with | [_], _ => rfl
  have F_zt := fun_mk (st := s_zt) l_zt c_zt k_zt
  have b_zt := F_zt.binds (ps := P_zt) fun _ _ _ _ _ _ us hl => match us, hl with | [_], _ => rfl
  have F_zc := fun_mk (st := s_zc) l_zc c_zc k_zc
  have b_zc := F_zc.binds (ps := P_zc) fun _ _ _ _ _ _ us hl => match us, hl with | [_], _ => rfl
  have F_zw := fun_mk (st := s_zw) l_zw c_zw k_zw
  have b_zw := F_zw.binds (ps := P_zw) fun _ _ _ _ _ _ us hl => match us, hl with | [_, _, _], _ => rfl
  have F_zz := fun_mk (st := s_zz) l_zz c_zz k_zz
  have b_zz := F_zz.binds (ps := P_zz) fun _ _ _ _ _ _ us hl => match us, hl with | [_], _ => rfl
  have F_zai := fun_mk (st := s_zai) l_zai c_zai k_zai
  have b_zai := F_zai.binds (ps := P_zai) fun _ _ _ _ _ _ us hl => match us, hl with | [_], _ => rfl
  have F_zf := fun_mk (st := s_zf) l_zf c_zf k_zf
  have b_zf := F_zf.binds (ps := P_zf) fun _ _ _ _ _ _ us hl => match us, hl with | [_], _ => rfl
  have F_zu := fun_mk (st := s_zu) l_zu c_zu k_zu
  have b_zu := F_zu.binds (ps := P_zu) fun _ _ _ _ _ _ us hl => match us, hl with | [_, _, _], _ => rfl
  have F_zy := fun_mk (st := s_zy) l_zy c_zy k_zy
  have b_zy := F_zy.binds (ps := P_zy) fun _ _ _ _ _ _ us hl => match us, hl with | [_, _], _ => rfl
  have F_zp := fun_mk (st := s_zp) l_zp c_zp k_zp
  have b_zp := F_zp.binds (ps := P_zp) fun _ _ _ _ _ _ us hl => match us, hl with | [_], _ => rfl
  have F_zi := fun_mk (st := s_zi) l_zi c_zi k_zi
  have b_zi := F_zi.binds (ps := P_zi) fun _ _ _ _ _ _ us hl => match us, hl with | [_, _], _ => rfl
  have F_ze := fun_mk (st := s_ze) l_ze c_ze k_ze
  have b_ze := F_ze.binds (ps := P_ze) fun _ _ _ _ _ _ us hl => match us, hl with | [_, _], _ => rfl
  have F_zaa := fun_mk (st := s_zaa) l_zaa c_zaa k_zaa
  have b_zaa := F_zaa.binds (ps := P_zaa) fun _ _ _ _ _ _ us hl => match us, hl with | [_], _ => rfl
  have F_zl := fun_mk (st := s_zl) l_zl c_zl k_zl
  have b_zl := F_zl.binds (ps := P_zl) fun _ _ _ _ _ _ us hl => match us, hl with | [_], _ => rfl
  have F_zb := fun_mk (st := s_zb) l_zb c_zb k_zb
  have b_zb := F_zb.binds (ps := P_zb) fun _ _ _ _ _ _ us hl => match us, hl with | [_], _ => rfl
  have F_za := fun_mk (st := s_za) l_za c_za k_za
  have b_za := F_za.binds (ps := P_za) fun _ _ _ _ _ _ us hl => match us, hl with | [_], _ => rfl
  have F_zam := fun_mk (st := s_zam) l_zam c_zam k_zam
  have b_zam := F_zam.binds (ps := P_zam) fun _ _ _ _ _ _ us hl => match us, hl with | [_], _ => rfl
  have F_zg := fun_mk (st := s_zg) l_zg c_zg k_zg
  have b_zg := F_zg.binds (ps := P_zg) fun _ _ _ _ _ _ us hl => match us, hl with | [_, _], _ => rfl
  have F_zs := funD_mk (st := s_zs) l_zs c_zs k_zs
  have b_zs : ∀ j, j ≤ 1 → Binds K (PySem.W.fnOf "__init__" "Panel.__init__" (defArgs s_zs) (defBody s_zs) (defScope s_zs) (.ref Td_zs) kV_zs dc_zs pm_zs an_zs cd_zs ct_zs) P_zs ([Value.none].drop j) := fun j hj => by
    match j, hj with
    | 0, _ => exact binds_dfltN 2 rfl ld_zs rfl rfl (fun us hl => match us, hl with | [_, _], _ => ⟨_, rfl, rfl⟩)
    | 1, _ => exact binds_dfltN 3 rfl ld_zs rfl rfl (fun us hl => match us, hl with | [_, _, _], _ => ⟨_, rfl, rfl⟩)
  have F_zj := fun_mk (st := s_zj) l_zj c_zj k_zj
  have b_zj := F_zj.binds (ps := P_zj) fun _ _ _ _ _ _ us hl => match us, hl with | [_], _ => rfl
  have F_zo := fun_mk (st := s_zo) l_zo c_zo k_zo
  have b_zo := F_zo.binds (ps := P_zo) fun _ _ _ _ _ _ us hl => match us, hl with | [_], _ => rfl
  have F_zh := fun_mk (st := s_zh) l_zh c_zh k_zh
  have b_zh := F_zh.binds (ps := P_zh) fun _ _ _ _ _ _ us hl => match us, hl with | [_, _], _ => rfl
  have F_zae := fun_mk (st := s_zae) l_zae c_zae k_zae
  have b_zae := F_zae.binds (ps := P_zae) fun _ _ _ _ _ _ us hl => match us, hl with | [_], _ => rfl
  have F_zd := fun_mk (st := s_zd) l_zd c_zd k_zd
  have b_zd := F_zd.binds (ps := P_zd) fun _ _ _ _ _ _ us hl => match us, hl with | [_, _], _ => rfl
  have F_zv := fun_mk (st := s_zv) l_zv c_zv k_zv
  have b_zv := F_zv.binds (ps := P_zv) fun _ _ _ _ _ _ us hl => match us, hl with | [_, _], _ => rfl
  have F_zk := fun_mk (st := s_zk) l_zk c_zk k_zk
  have b_zk := F_zk.binds (ps := P_zk) fun _ _ _ _ _ _ us hl => match us, hl with | [_], _ => rfl
  have F_zal := fun_mk (st := s_zal) l_zal c_zal k_zal
  have b_zal := F_zal.binds (ps := P_zal) fun _ _ _ _ _ _ us hl => match us, hl with | [_, _], _ => rfl
  have F_zm := fun_mk (st := s_zm) l_zm c_zm k_zm
  have b_zm := F_zm.binds (ps := P_zm) fun _ _ _ _ _ _ us hl => match us, hl with | [_, _], _ => rfl
  have F_zq := fun_mk (st := s_zq) l_zq c_zq k_zq
  have b_zq := F_zq.binds (ps := P_zq) fun _ _ _ _ _ _ us hl => match us, hl with | [_, _], _ => rfl
  have F_zak := fun_mk (st := s_zak) l_zak c_zak k_zak
  have b_zak := F_zak.binds (ps := P_zak) fun _ _ _ _ _ _ us hl => match us, hl with | [_, _], _ => rfl
  have F_zad := fun_mk (st := s_zad) l_zad c_zad k_zad
  have b_zad := F_zad.binds (ps := P_zad) fun _ _ _ _ _ _ us hl => match us, hl with | [_, _], _ => rfl
  have F_zn := fun_mk (st := s_zn) l_zn c_zn k_zn
  have b_zn := F_zn.binds (ps := P_zn) fun _ _ _ _ _ _ us hl => match us, hl with | [_, _], _ => rfl
  have F_zaf := fun_mk (st := s_zaf) l_zaf c_zaf k_zaf
  have b_zaf := F_zaf.binds (ps := P_zaf) fun _ _ _ _ _ _ us hl => match us, hl with | [_], _ => rfl
  have F_zab := fun_mk (st := s_zab) l_zab c_zab k_zab
  have b_zab := F_zab.binds (ps := P_zab) fun _ _ _ _ _ _ us hl => match us, hl with | [_, _], _ => rfl
  have F_zag := fun_mk (st := s_zag) l_zag c_zag k_zag
  have b_zag := F_zag.binds (ps := P_zag) fun _ _ _ _ _ _ us hl => match us, hl with | [_, _], _ => rfl
  have F_zaj := fun_mk (st := s_zaj) l_zaj c_zaj k_zaj
  have b_zaj := F_zaj.binds (ps := P_zaj) fun _ _ _ _ _ _ us hl => match us, hl with | [_, _], _ => rfl
  have F_zx := fun_mk (st := s_zx) l_zx c_zx k_zx
  have b_zx := F_zx.binds (ps := P_zx) fun _ _ _ _ _ _ us hl => match us, hl with | [_, _], _ => rfl
  have F_zr := fun_mk (st := s_zr) l_zr c_zr k_zr
  have b_zr := F_zr.binds (ps := P_zr) fun _ _ _ _ _ _ us hl => match us, hl with | [_, _, _], _ => rfl
  have F_zac := fun_mk (st := s_zac) l_zac c_zac k_zac
  have b_zac := F_zac.binds (ps := P_zac) fun _ _ _ _ _ _ us hl => match us, hl with | [_, _], _ => rfl
  have F_zan := fun_mk (st := s_zan) l_zan c_zan k_zan
  have b_zan := F_zan.binds (ps := P_zan) fun _ _ _ _ _ _ us hl => match us, hl with | [_], _ => rfl
  have m := PySem.W.mg_of X G a_zan
  have e : fa = f_zan := by
    rw [hfa] at m
    injection m with m
    injection m
  subst e
  have tl_1 : ∀ {a : Addr}, excTail (.ref a :: valTail) = true := fun {a} => by show excTail valTail = true; decide +kernel
  have tl_2 : ∀ {a b : Addr}, excTail (.ref a :: .ref b :: valTail) = true := fun {a b} => by show excTail valTail = true; decide +kernel
  have AO : AdrOk K mg ⟨f_zah, _, f_zt, _, f_zc, _, f_zw, _, f_zz, _, f_zai, _, f_zf, _, f_zu, _, f_zy, _, f_zp, _, f_zi, _, f_ze, _, f_zaa, _, f_zl, _, f_zb, _, f_za, _, f_zam, _, f_zg, _, f_zs, _, f_zj, _, f_zo, _, f_zh, _, f_zae, _, f_zd, _, f_zv, _, f_zk, _, f_zal, _, f_zm, _, f_zq, _, f_zak, _, f_zad, _, f_zn, _, f_zaf, _, f_zab, _, f_zag, _, f_zaj, _, f_zx, _, f_zr, _, f_zac, _, fa, _, .ref Td_zs, [Value.none], c_zat, c_zau, c_zav, c_zaw, c_zax, u_zaq, u_zao, u_zap, u_zar, u_zas⟩ := ⟨F_zah.toD,
    (fun j _ => by rw [List.drop_nil]; exact b_zah),
    .nil,
    PySem.W.mg_of X G a_zah,
    F_zt.toD,
    (fun j _ => by rw [List.drop_nil]; exact b_zt),
    .nil,
    if_zt,
    F_zc.toD,
    (fun j _ => by rw [List.drop_nil]; exact b_zc),
    .nil,
    if_zc,
    F_zw.toD,
    (fun j _ => by rw [List.drop_nil]; exact b_zw),
    .nil,
    PySem.W.mg_of X G a_zw,
    F_zz.toD,
    (fun j _ => by rw [List.drop_nil]; exact b_zz),
    .nil,
    PySem.W.mg_of X G a_zz,
    F_zai.toD,
    (fun j _ => by rw [List.drop_nil]; exact b_zai),
    .nil,
    PySem.W.mg_of X G a_zai,
    F_zf.toD,
    (fun j _ => by rw [List.drop_nil]; exact b_zf),
    .nil,
    PySem.W.mg_of X G a_zf,
    F_zu.toD,
    (fun j _ => by rw [List.drop_nil]; exact b_zu),
    .nil,
    if_zu,
    F_zy.toD,
    (fun j _ => by rw [List.drop_nil]; exact b_zy),
    .nil,
    if_zy,
    F_zp.toD,
    (fun j _ => by rw [List.drop_nil]; exact b_zp),
    .nil,
    PySem.W.mg_of X G a_zp,
    F_zi.toD,
    (fun j _ => by rw [List.drop_nil]; exact b_zi),
    .nil,
    if_zi,
    F_ze.toD,
    (fun j _ => by rw [List.drop_nil]; exact b_ze),
    .nil,
    if_ze,
    F_zaa.toD,
    (fun j _ => by rw [List.drop_nil]; exact b_zaa),
    .nil,
    PySem.W.mg_of X G a_zaa,
    F_zl.toD,
    (fun j _ => by rw [List.drop_nil]; exact b_zl),
    .nil,
    PySem.W.mg_of X G a_zl,
    F_zb.toD,
    (fun j _ => by rw [List.drop_nil]; exact b_zb),
    .nil,
    PySem.W.mg_of X G a_zb,
    F_za.toD,
    (fun j _ => by rw [List.drop_nil]; exact b_za),
    .nil,
    PySem.W.mg_of X G a_za,
    F_zam.toD,
    (fun j _ => by rw [List.drop_nil]; exact b_zam),
    .nil,
    PySem.W.mg_of X G a_zam,
    F_zg.toD,
    (fun j _ => by rw [List.drop_nil]; exact b_zg),
    .nil,
    PySem.W.mg_of X G a_zg,
    F_zs,
    b_zs,
    (.cons rfl .nil),
    if_zs,
    F_zj.toD,
    (fun j _ => by rw [List.drop_nil]; exact b_zj),
    .nil,
    if_zj,
    F_zo.toD,
    (fun j _ => by rw [List.drop_nil]; exact b_zo),
    .nil,
    if_zo,
    F_zh.toD,
    (fun j _ => by rw [List.drop_nil]; exact b_zh),
    .nil,
    if_zh,
    F_zae.toD,
    (fun j _ => by rw [List.drop_nil]; exact b_zae),
    .nil,
    PySem.W.mg_of X G a_zae,
    F_zd.toD,
    (fun j _ => by rw [List.drop_nil]; exact b_zd),
    .nil,
    if_zd,
    F_zv.toD,
    (fun j _ => by rw [List.drop_nil]; exact b_zv),
    .nil,
    if_zv,
    F_zk.toD,
    (fun j _ => by rw [List.drop_nil]; exact b_zk),
    .nil,
    if_zk,
    F_zal.toD,
    (fun j _ => by rw [List.drop_nil]; exact b_zal),
    .nil,
    PySem.W.mg_of X G a_zal,
    F_zm.toD,
    (fun j _ => by rw [List.drop_nil]; exact b_zm),
    .nil,
    if_zm,
    F_zq.toD,
    (fun j _ => by rw [List.drop_nil]; exact b_zq),
    .nil,
    PySem.W.mg_of X G a_zq,
    F_zak.toD,
    (fun j _ => by rw [List.drop_nil]; exact b_zak),
    .nil,
    PySem.W.mg_of X G a_zak,
    F_zad.toD,
    (fun j _ => by rw [List.drop_nil]; exact b_zad),
    .nil,
    PySem.W.mg_of X G a_zad,
    F_zn.toD,
    (fun j _ => by rw [List.drop_nil]; exact b_zn),
    .nil,
    PySem.W.mg_of X G a_zn,
    F_zaf.toD,
    (fun j _ => by rw [List.drop_nil]; exact b_zaf),
    .nil,
    PySem.W.mg_of X G a_zaf,
    F_zab.toD,
    (fun j _ => by rw [List.drop_nil]; exact b_zab),
    .nil,
    PySem.W.mg_of X G a_zab,
    F_zag.toD,
    (fun j _ => by rw [List.drop_nil]; exact b_zag),
    .nil,
    PySem.W.mg_of X G a_zag,
    F_zaj.toD,
    (fun j _ => by rw [List.drop_nil]; exact b_zaj),
    .nil,
    PySem.W.mg_of X G a_zaj,
    F_zx.toD,
    (fun j _ => by rw [List.drop_nil]; exact b_zx),
    .nil,
    PySem.W.mg_of X G a_zx,
    F_zr.toD,
    (fun j _ => by rw [List.drop_nil]; exact b_zr),
    .nil,
    PySem.W.mg_of X G a_zr,
    F_zac.toD,
    (fun j _ => by rw [List.drop_nil]; exact b_zac),
    .nil,
    PySem.W.mg_of X G a_zac,
    F_zan.toD,
    (fun j _ => by rw [List.drop_nil]; exact b_zan),
    .nil,
    PySem.W.mg_of X G a_zan,
    PySem.W.mg_of X G a_zat,
    kp_zat,
    x_zat.ecls (by decide +kernel),
    in_zat,
    PySem.W.mg_of X G a_zau,
    kp_zau,
    x_zau.ecls tl_1,
    in_zau,
    PySem.W.mg_of X G a_zav,
    kp_zav,
    x_zav.ecls tl_1,
    in_zav,
    PySem.W.mg_of X G a_zaw,
    kp_zaw,
    x_zaw.ecls tl_1,
    in_zaw,
    PySem.W.mg_of X G a_zax,
    kp_zax,
    mk_zax,
    in_zax,
    ⟨pg_zax, hd_zax, po_zax, sa_zax⟩,
    ⟨mt_zc, if_zc, k_zc⟩,
    ⟨mt_zk, if_zk, k_zk⟩,
    ⟨mt_zm, if_zm, k_zm⟩,
    ⟨mt_zy, if_zy, k_zy⟩,
    ⟨mt_zt, if_zt, k_zt⟩,
    ⟨mt_zd, if_zd, k_zd⟩,
    ⟨mt_zh, if_zh, k_zh⟩,
    ⟨mt_zi, if_zi, k_zi⟩,
    ⟨mt_ze, if_ze, k_ze⟩,
    ⟨mt_zo, if_zo, k_zo⟩,
    ⟨mt_zj, if_zj, k_zj⟩,
    ⟨mt_zu, if_zu, k_zu⟩,
    ⟨mt_zv, if_zv, k_zv⟩,
    PySem.W.mg_of X G v_zaq,
    r_zaq,
    PySem.W.mg_of X G v_zao,
    r_zao,
    PySem.W.mg_of X G v_zap,
    r_zap,
    PySem.W.mg_of X G v_zar,
    r_zar,
    PySem.W.mg_of X G v_zas,
    r_zas,
    PySem.W.mg_none_of X G z_all,
    PySem.W.mg_none_of X G z_bool,
    PySem.W.mg_none_of X G z_dict,
    PySem.W.mg_none_of X G z_enumerate,
    PySem.W.mg_none_of X G z_int,
    PySem.W.mg_none_of X G z_isinstance,
    PySem.W.mg_none_of X G z_len,
    PySem.W.mg_none_of X G z_list,
    PySem.W.mg_none_of X G z_range,
    PySem.W.mg_none_of X G z_set,
    PySem.W.mg_none_of X G z_str,
    PySem.W.mg_none_of X G z_tuple,
    ⟨⟨⟨pg_zax, hd_zax, po_zax, sa_zax⟩, (fun f hf => by
    simp only [List.mem_cons, List.not_mem_nil, or_false] at hf
    rcases hf with rfl | rfl | rfl | rfl | rfl | rfl | rfl
    · exact na_settings
    · exact na_tuples
    · exact na_numbers
    · exact na_sets
    · exact na_kept_rules
    · exact na_bars
    · exact na_free), x_zav.ecls tl_1, mr_zav⟩⟩⟩
  exact ⟨_, PySem.W.fnOf "law" "law" (defArgs s_zan) (defBody s_zan) (defScope s_zan) .none kV_zan dc_zan pm_zan an_zan cd_zan ct_zan, fun s v => .of_eq rfl, fun base _ _ => law_ok AO⟩
def sp0 (K : PySem.W.Frag) : Sp := fun vs H Q _ => ∃ (a : Addr) (ns : List Int), vs = [.ref a] ∧ SqL K H a (ns.map V.int) ∧ ns.length ≤ 63 ∧ ∀ H', Q (.bl true) H'
theorem walk {l : PySem.W.OpenLaw} {q : Program} {loose : List Str} {XP : (Str → Option Value) → Heap → Prop} {YP : World → Heap → Prop} {d : DefRec} {K : Params → PySem.W.Frag} (hn : l.most = some 63) (hdf : d.params.defaults = [])
    (hY : ∀ (w : World) (h : Heap), YP w h → (K w.params).In h)
    (F : ∀ (w : World) (mg : Str → Option Value) (fa : Addr) (h : Heap), (K w.params).In h → h.Ns mainGlobals mg → mg d.name = some (.ref fa) →
      ∃ (t : Adr) (fd : FuncData), (∀ (s : Shared) (u : Value), BindsTo s fd ⟨[u], []⟩ [("_law_script", u)]) ∧ ∀ base : Heap, (K w.params).In base → base.Ns mainGlobals mg → FnOk l.prog w (K w.params) mg base CX0 11 fa fd ["_law_script"] (sp_zan (K w.params) t)) :
    PySem.W.WalkO q loose XP YP l.row.toRowW d [] (fun f vs => PySem.call f vs) :=
  L2.walk_of (n := 63) (k := 11) (x := "_law_script") (CX := fun _ => CX0) (sp := fun w => sp0 (K w.params)) hn (by decide) hdf ⟨rfl, by decide, by decide⟩ hY (fun w mg fa h a b c => let ⟨t, fd, h1, h2⟩ := F w mg fa h a b c; ⟨fd, h1, fun base x y => (h2 base x y).imp fun vs H Q E z => z⟩) (fun _ _ a ns hl _ hS => ⟨a, ns, rfl, hS, hl, fun _ => rfl⟩) fun _ _ _ _ _ z => z
end K03
open PySem PySem.W PyProof.Rows
set_option maxRecDepth 100000 in
set_option maxHeartbeats 0 in
theorem PySem.Challenge.cw_manyleaf_k03_choices_numbered_holds : PySem.Challenge.rw_manyleaf_k03_choices_numbered.Holds := by
  refine head_k03 ?_
  k_fill
  refine K03.walk (l := PySem.Challenge.rw_manyleaf_k03_choices_numbered) rfl rfl (fun w h Y => PySem.W.kIn_of Y) ?F
  case F =>
    intro w mg fa h KX G hmg
    refine' K03.all_mk KX G hmg ?a_zat ?a_zau ?a_zav ?a_zaw ?in_zat ?kp_zat ?in_zau ?kp_zau ?in_zav ?kp_zav ?in_zaw ?kp_zaw ?a_zax ?in_zax ?kp_zax ?mk_zax ?pg_zax ?hd_zax ?po_zax ?sa_zax ?mt_zc ?mt_zk ?mt_zm ?mt_zy ?mt_zt ?mt_zd ?mt_zh ?mt_zi ?mt_ze ?mt_zo ?mt_zj ?mt_zu ?mt_zv ?a_zah ?l_zah ?c_zah ?k_zah ?l_zt ?c_zt ?k_zt ?if_zt ?l_zc ?c_zc ?k_zc ?if_zc ?a_zw ?l_zw ?c_zw ?k_zw ?a_zz ?l_zz ?c_zz ?k_zz ?a_zai ?l_zai ?c_zai ?k_zai ?a_zf ?l_zf ?c_zf ?k_zf ?l_zu ?c_zu ?k_zu ?if_zu ?l_zy ?c_zy ?k_zy ?if_zy ?a_zp ?l_zp ?c_zp ?k_zp ?l_zi ?c_zi ?k_zi ?if_zi ?l_ze ?c_ze ?k_ze ?if_ze ?a_zaa ?l_zaa ?c_zaa ?k_zaa ?a_zl ?l_zl ?c_zl ?k_zl ?a_zb ?l_zb ?c_zb ?k_zb ?a_za ?l_za ?c_za ?k_za ?a_zam ?l_zam ?c_zam ?k_zam ?a_zg ?l_zg ?c_zg ?k_zg ?l_zs ?c_zs ?k_zs ?if_zs ?ld_zs ?l_zj ?c_zj ?k_zj ?if_zj ?l_zo ?c_zo ?k_zo ?if_zo ?l_zh ?c_zh ?k_zh ?if_zh ?a_zae ?l_zae ?c_zae ?k_zae ?l_zd ?c_zd ?k_zd ?if_zd ?l_zv ?c_zv ?k_zv ?if_zv ?l_zk ?c_zk ?k_zk ?if_zk ?a_zal ?l_zal ?c_zal ?k_zal ?l_zm ?c_zm ?k_zm ?if_zm ?a_zq ?l_zq ?c_zq ?k_zq ?a_zak ?l_zak ?c_zak ?k_zak ?a_zad ?l_zad ?c_zad ?k_zad ?a_zn ?l_zn ?c_zn ?k_zn ?a_zaf ?l_zaf ?c_zaf ?k_zaf ?a_zab ?l_zab ?c_zab ?k_zab ?a_zag ?l_zag ?c_zag ?k_zag ?a_zaj ?l_zaj ?c_zaj ?k_zaj ?a_zx ?l_zx ?c_zx ?k_zx ?a_zr ?l_zr ?c_zr ?k_zr ?a_zac ?l_zac ?c_zac ?k_zac ?a_zan ?l_zan ?c_zan ?k_zan ?x_zat ?x_zau ?x_zav ?x_zaw ?v_zaq ?r_zaq ?v_zao ?r_zao ?v_zap ?r_zap ?v_zar ?r_zar ?v_zas ?r_zas ?z_all ?z_bool ?z_dict ?z_enumerate ?z_int ?z_isinstance ?z_len ?z_list ?z_range ?z_set ?z_str ?z_tuple ?na_settings ?na_tuples ?na_numbers ?na_sets ?na_kept_rules ?na_bars ?na_free ?mr_zav
    (case a_zat => k_is)
    (case a_zau => k_is)
    (case a_zav => k_is)
    (case a_zaw => k_is)
    (case in_zat => k_is)
    (case kp_zat => k_is)
    (case in_zau => k_is)
    (case kp_zau => k_is)
    (case in_zav => k_is)
    (case kp_zav => k_is)
    (case in_zaw => k_is)
    (case kp_zaw => k_is)
    (case a_zax => k_is)
    (case in_zax => k_is)
    (case kp_zax => k_is)
    (case mk_zax => k_is)
    (case pg_zax => k_is)
    (case hd_zax => k_is)
    (case po_zax => k_is)
    (case sa_zax => k_is)
    (case mt_zc => k_is)
    (case mt_zk => k_is)
    (case mt_zm => k_is)
    (case mt_zy => k_is)
    (case mt_zt => k_is)
    (case mt_zd => k_is)
    (case mt_zh => k_is)
    (case mt_zi => k_is)
    (case mt_ze => k_is)
    (case mt_zo => k_is)
    (case mt_zj => k_is)
    (case mt_zu => k_is)
    (case mt_zv => k_is)
    (case a_zah => k_is)
    (case l_zah => k_is)
    (case c_zah => k_is)
    (case k_zah => k_is)
    (case l_zt => k_is)
    (case c_zt => k_is)
    (case k_zt => k_is)
    (case if_zt => k_is)
    (case l_zc => k_is)
    (case c_zc => k_is)
    (case k_zc => k_is)
    (case if_zc => k_is)
    (case a_zw => k_is)
    (case l_zw => k_is)
    (case c_zw => k_is)
    (case k_zw => k_is)
    (case a_zz => k_is)
    (case l_zz => k_is)
    (case c_zz => k_is)
    (case k_zz => k_is)
    (case a_zai => k_is)
    (case l_zai => k_is)
    (case c_zai => k_is)
    (case k_zai => k_is)
    (case a_zf => k_is)
    (case l_zf => k_is)
    (case c_zf => k_is)
    (case k_zf => k_is)
    (case l_zu => k_is)
    (case c_zu => k_is)
    (case k_zu => k_is)
    (case if_zu => k_is)
    (case l_zy => k_is)
    (case c_zy => k_is)
    (case k_zy => k_is)
    (case if_zy => k_is)
    (case a_zp => k_is)
    (case l_zp => k_is)
    (case c_zp => k_is)
    (case k_zp => k_is)
    (case l_zi => k_is)
    (case c_zi => k_is)
    (case k_zi => k_is)
    (case if_zi => k_is)
    (case l_ze => k_is)
    (case c_ze => k_is)
    (case k_ze => k_is)
    (case if_ze => k_is)
    (case a_zaa => k_is)
    (case l_zaa => k_is)
    (case c_zaa => k_is)
    (case k_zaa => k_is)
    (case a_zl => k_is)
    (case l_zl => k_is)
    (case c_zl => k_is)
    (case k_zl => k_is)
    (case a_zb => k_is)
    (case l_zb => k_is)
    (case c_zb => k_is)
    (case k_zb => k_is)
    (case a_za => k_is)
    (case l_za => k_is)
    (case c_za => k_is)
    (case k_za => k_is)
    (case a_zam => k_is)
    (case l_zam => k_is)
    (case c_zam => k_is)
    (case k_zam => k_is)
    (case a_zg => k_is)
    (case l_zg => k_is)
    (case c_zg => k_is)
    (case k_zg => k_is)
    (case l_zs => k_is)
    (case c_zs => k_is)
    (case k_zs => k_is)
    (case if_zs => k_is)
    (case ld_zs => k_is)
    (case l_zj => k_is)
    (case c_zj => k_is)
    (case k_zj => k_is)
    (case if_zj => k_is)
    (case l_zo => k_is)
    (case c_zo => k_is)
    (case k_zo => k_is)
    (case if_zo => k_is)
    (case l_zh => k_is)
    (case c_zh => k_is)
    (case k_zh => k_is)
    (case if_zh => k_is)
    (case a_zae => k_is)
    (case l_zae => k_is)
    (case c_zae => k_is)
    (case k_zae => k_is)
    (case l_zd => k_is)
    (case c_zd => k_is)
    (case k_zd => k_is)
    (case if_zd => k_is)
    (case l_zv => k_is)
    (case c_zv => k_is)
    (case k_zv => k_is)
    (case if_zv => k_is)
    (case l_zk => k_is)
    (case c_zk => k_is)
    (case k_zk => k_is)
    (case if_zk => k_is)
    (case a_zal => k_is)
    (case l_zal => k_is)
    (case c_zal => k_is)
    (case k_zal => k_is)
    (case l_zm => k_is)
    (case c_zm => k_is)
    (case k_zm => k_is)
    (case if_zm => k_is)
    (case a_zq => k_is)
    (case l_zq => k_is)
    (case c_zq => k_is)
    (case k_zq => k_is)
    (case a_zak => k_is)
    (case l_zak => k_is)
    (case c_zak => k_is)
    (case k_zak => k_is)
    (case a_zad => k_is)
    (case l_zad => k_is)
    (case c_zad => k_is)
    (case k_zad => k_is)
    (case a_zn => k_is)
    (case l_zn => k_is)
    (case c_zn => k_is)
    (case k_zn => k_is)
    (case a_zaf => k_is)
    (case l_zaf => k_is)
    (case c_zaf => k_is)
    (case k_zaf => k_is)
    (case a_zab => k_is)
    (case l_zab => k_is)
    (case c_zab => k_is)
    (case k_zab => k_is)
    (case a_zag => k_is)
    (case l_zag => k_is)
    (case c_zag => k_is)
    (case k_zag => k_is)
    (case a_zaj => k_is)
    (case l_zaj => k_is)
    (case c_zaj => k_is)
    (case k_zaj => k_is)
    (case a_zx => k_is)
    (case l_zx => k_is)
    (case c_zx => k_is)
    (case k_zx => k_is)
    (case a_zr => k_is)
    (case l_zr => k_is)
    (case c_zr => k_is)
    (case k_zr => k_is)
    (case a_zac => k_is)
    (case l_zac => k_is)
    (case c_zac => k_is)
    (case k_zac => k_is)
    (case a_zan => k_is)
    (case l_zan => k_is)
    (case c_zan => k_is)
    (case k_zan => k_is)
    (case x_zat => (refine' L2.xc_mk ?l ?y ?s ?g ?t ?c ?n ?k; (case l => k_is); (case y => k_is); (case s => k_is); (case g => k_is); (case t => k_is); (case c => k_is); (case n => k_is); (case k => k_is)))
    (case x_zau => (refine' L2.xc_mk ?l ?y ?s ?g ?t ?c ?n ?k; (case l => k_is); (case y => k_is); (case s => k_is); (case g => k_is); (case t => k_is); (case c => k_is); (case n => k_is); (case k => k_is)))
    (case x_zav => (refine' L2.xc_mk ?l ?y ?s ?g ?t ?c ?n ?k; (case l => k_is); (case y => k_is); (case s => k_is); (case g => k_is); (case t => k_is); (case c => k_is); (case n => k_is); (case k => k_is)))
    (case x_zaw => (refine' L2.xc_mk ?l ?y ?s ?g ?t ?c ?n ?k; (case l => k_is); (case y => k_is); (case s => k_is); (case g => k_is); (case t => k_is); (case c => k_is); (case n => k_is); (case k => k_is)))
    (case v_zaq => k_is)
    (case r_zaq => exact ⟨_, rfl⟩)
    (case v_zao => k_is)
    (case r_zao => exact ⟨_, rfl⟩)
    (case v_zap => k_is)
    (case r_zap => exact ⟨_, rfl⟩)
    (case v_zar => k_is)
    (case r_zar => exact ⟨_, rfl⟩)
    (case v_zas => k_is)
    (case r_zas => exact ⟨_, rfl⟩)
    (case z_all => k_is)
    (case z_bool => k_is)
    (case z_dict => k_is)
    (case z_enumerate => k_is)
    (case z_int => k_is)
    (case z_isinstance => k_is)
    (case z_len => k_is)
    (case z_list => k_is)
    (case z_range => k_is)
    (case z_set => k_is)
    (case z_str => k_is)
    (case z_tuple => k_is)
    (case na_settings => k_is)
    (case na_tuples => k_is)
    (case na_numbers => k_is)
    (case na_sets => k_is)
    (case na_kept_rules => k_is)
    (case na_bars => k_is)
    (case na_free => k_is)
    (case mr_zav => k_is)
#print axioms PySem.Challenge.cw_manyleaf_k03_choices_numbered_holds
