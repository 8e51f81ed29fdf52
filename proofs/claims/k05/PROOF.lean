import PyProof.Rows.All
import Wide.All
import OpenK.AllK
import Wide.FinOn
import Lean
import PyProof.EqAt
import PyProof.EqKinds
import PyProof.TupleCall
import PyProof.NeKinds
import PyProof.ZipIter
import PyProof.StrWalks
import PyProof.ConsumeWalk
import PyProof.ExcArgs
import PyProof.ExcBaseAll.ValueError
import KE.KIsAll
import PyProof.EnumFor
import PyProof.EnumMake
import PyProof.EnumStmt
import PyProof.Rows.EnumRows
import PyProof.DictWalks
import PyProof.Rows.SetFrom
import PyProof.DictItems
import KE.KDictList
import PyProof.RulesRaise
import PyProof.RulesTry
import PyProof.MeetsIn
import KE.KEqDict
import PyProof.Rows.Range3
import PyProof.Rows.ChunkLeaf
import PyProof.StationsW
import PyProof.PassesOwn
import PyProof.NsDelKeeps
import PySem.Challenge.RW_manyleaf_k05_boxes_and_rules
set_option Elab.async false
set_option linter.all false
set_option maxRecDepth 100000
namespace L2
open PySem PySem.Spec PyProof.Rows
abbrev Key:=Sum Int Str
def K2:Key -> Value -> Bool
 | .inl k,v=>Value.isInt k v
 | .inr x,v=>Value.isStrOf x v
def keyH (w:World):Key -> Int
 | .inl k=>hashInt k
 | .inr x=>hashStr w x
theorem Ax:∀ {k:Key} {v:Value},K2 k v=true -> (∃ i t,k=Sum.inl i /\ v=Value.int i t) \/ (∃ x t,k=Sum.inr x /\ v=Value.str x t)
 | .inl i,v,h=>by
  obtain ⟨t,e⟩:=Value.isInt_shape (k:=i) (v:=v) h
  exact .inl ⟨i,t,rfl,e⟩
 | .inr x,v,h=>by
  obtain ⟨t,e⟩:=Value.isStrOf_shape (x:=x) (v:=v) h
  exact .inr ⟨x,t,rfl,e⟩
theorem Tw (i:Int) (t:Tok):K2 (.inl i) (.int i t)=true:=by simp [K2,Value.isInt]
theorem Tx (x:Str) (t:Tok):K2 (.inr x) (.str x t)=true:=by simp [K2,Value.isStrOf]
theorem aj9 (a b:Int):decide ((Sum.inl a:Key)=Sum.inl b)=(a == b):=by
 by_cases e:a=b
 ·subst e;simp
 ·have h:¬ (Sum.inl a:Key)=Sum.inl b:=fun q=>e (Sum.inl.inj q)
  rw [decide_eq_false h]
  exact (beq_eq_false_iff_ne.mpr e).symm
theorem ak2 (a b:Str):decide ((Sum.inr a:Key)=Sum.inr b)=decide (a=b):=by
 by_cases e:a=b
 ·subst e;simp
 ·have h:¬ (Sum.inr a:Key)=Sum.inr b:=fun q=>e (Sum.inr.inj q)
  rw [decide_eq_false h,decide_eq_false e]
theorem ak0 (a:Int) (b:Str):decide ((Sum.inl a:Key)=Sum.inr b)=false:=decide_eq_false (fun q=>nomatch q)
theorem ak1 (a:Str) (b:Int):decide ((Sum.inr a:Key)=Sum.inl b)=false:=decide_eq_false (fun q=>nomatch q)
def Ao (prog:Program) (w:World):PySem.KeyKind prog w Key where
 is:=K2
 hash:=keyH w
 inj:=fun v a b ha hb=>by
  rcases Ax ha with ⟨i,t,rfl,rfl⟩ | ⟨x,t,rfl,rfl⟩
  ·rcases Ax hb with ⟨j,u,rfl,e⟩ | ⟨y,u,rfl,e⟩
   ·injection e with e1 _;rw [e1]
   ·exact nomatch e
  ·rcases Ax hb with ⟨j,u,rfl,e⟩ | ⟨y,u,rfl,e⟩
   ·exact nomatch e
   ·injection e with e1 _;rw [e1]
 byValue:=fun k v h=>by
  rcases Ax h with ⟨i,t,rfl,rfl⟩ | ⟨x,t,rfl,rfl⟩ <;> rfl
 pyHash:=fun hv h=>by
  rcases Ax hv with ⟨i,t,rfl,rfl⟩ | ⟨x,t,rfl,rfl⟩
  ·exact wpAny_pyHash_int h
  ·exact wpAny_pyHash_str h
 eqBool:=fun hu hv h=>by
  rcases Ax hu with ⟨i,t,rfl,rfl⟩ | ⟨x,t,rfl,rfl⟩
  ·rcases Ax hv with ⟨j,u,rfl,rfl⟩ | ⟨y,u,rfl,rfl⟩
   ·rw [aj9] at h;exact wpAny_eqBool_int h
   ·rw [ak0] at h;exact SeqAt.EqAt.int_str i t y u _ _ _ _ h
  ·rcases Ax hv with ⟨j,u,rfl,rfl⟩ | ⟨y,u,rfl,rfl⟩
   ·rw [ak1] at h;exact SeqAt.EqAt.str_int x t j u _ _ _ _ h
   ·rw [ak2] at h;exact wpAny_eqBool_str h
 «strs»:=fun k x t v h=>by
  rcases Ax h with ⟨i,u,rfl,e⟩ | ⟨y,u,rfl,e⟩
  ·exact nomatch e
  ·injection e with e1 _
   subst e1
   cases v <;> rfl
theorem N0 (prog:Program) (w:World) (i:Int) (t:Tok):(Ao prog w).is (.inl i) (.int i t)=true:=Tw i t
theorem N1 (prog:Program) (w:World) (x:Str) (t:Tok):(Ao prog w).is (.inr x) (.str x t)=true:=Tx x t
inductive V where
 | non | bl (b:Bool) | int (i:Int) | str (x:Str) | byt (b:Array UInt8) | flt (b:UInt64) | ref (a:Addr) | ty (n:String)
 deriving DecidableEq
def RelV:V -> Value -> Prop
 | .non,u=>u=Value.none
 | .bl b,u=>u=Value.bool b
 | .int i,u=>∃ t,u=Value.int i t
 | .str x,u=>∃ t,u=Value.str x t
 | .byt b,u=>∃ t,u=Value.bytes b t
 | .flt b,u=>∃ t,u=Value.float b t
 | .ref a,u=>u=Value.ref a
 | .ty n,u=>u=Value.type n
abbrev Vals:List V -> List Value -> Prop:=Paired RelV
theorem Vals.length {xs:List V} {us:List Value} (r:Vals xs us):xs.length=us.length:=Paired.length r
theorem Vals.get:∀ {xs:List V} {us:List Value} {i:Nat} {x:V},Vals xs us -> xs[i]? = some x -> ∃ u,us[i]? = some u /\ RelV x u
 | _,_,_,_,.nil,e=>by simp at e
 | _,_,0,_,.cons r _,e=>by simp at e;subst e;exact ⟨_,rfl,r⟩
 | _,_,i + 1,x,.cons _ t,e=>by
  obtain ⟨u,h1,h2⟩:=Vals.get (i:=i) (x:=x) t (by simpa using e)
  exact ⟨u,by simpa using h1,h2⟩
theorem Vals.set {x:V} {u:Value} (r:RelV x u):∀ {xs:List V} {us:List Value} (i:Nat),Vals xs us -> Vals (xs.set i x) (us.set i u)
 | _,_,_,.nil=>.nil
 | _,_,0,.cons _ t=>.cons r t
 | _,_,i + 1,.cons q t=>.cons q (Vals.set r i t)
theorem Vals.append:∀ {xs ys:List V} {us ws:List Value},Vals xs us -> Vals ys ws -> Vals (xs ++ ys) (us ++ ws)
 | _,_,_,_,.nil,s=>s
 | _,_,_,_,.cons r t,s=>.cons r (Vals.append t s)
theorem Vals.take:∀ {xs:List V} {us:List Value} (n:Nat),Vals xs us -> Vals (xs.take n) (us.take n)
 | _,_,0,_=>.nil
 | _,_,_ + 1,.nil=>.nil
 | _,_,n + 1,.cons r t=>.cons r (Vals.take n t)
theorem Vals.drop:∀ {xs:List V} {us:List Value} (n:Nat),Vals xs us -> Vals (xs.drop n) (us.drop n)
 | _,_,0,r=>r
 | _,_,_ + 1,.nil=>.nil
 | _,_,n + 1,.cons _ t=>Vals.drop n t
def RelO:Option V -> Option Value -> Prop
 | some v,some u=>RelV v u
 | none,none=>True
 | _,_=>False
def KV {κ:Type}:List (κ × V) -> List (κ × Value) -> Prop:=Paired fun (p:κ × V) (q:κ × Value)=>p.1=q.1 /\ RelV p.2 q.2
def kV:Key -> V
 | .inl i=>.int i
 | .inr x=>.str x
inductive HO where
 | lst (xs:List V)
 | tup (xs:List V)
 | dK (kvs:List (Key × V)) | dT (kvs:List (List Key × V))
 | set (S:Int -> Bool) (n:Nat)
 | ins (C dx:Addr) (fs:List (Str × V))
 | own (x:Addr)
 | xd (fs:List (Str × V))
 | met (f x:Addr)
 | rng (lo hi:Int)
 | frz (o:Obj) (u:HO)
 | tbl (ps:Array Value)
 | ext (φ:Heap -> Prop)
abbrev Hp:=Addr -> Option HO
def upd (H:Hp) (a:Addr) (o:HO):Hp:=fun b=>if b=a then some o else H b
theorem Ac {H:Hp} {a:Addr} {o:HO}:upd H a o a=some o:=by unfold upd;rw [if_pos rfl]
theorem Ad {H:Hp} {a b:Addr} {o:HO} (h:b ≠ a):upd H a o b=H b:=by unfold upd;rw [if_neg h]
theorem az3 {H:Hp} {a b:Addr} {o u:HO} (h:H a=some o) (h':H b=some u) (d:o ≠ u):a ≠ b:=by
 intro e;subst e;rw [h] at h';exact d (Option.some.inj h')
theorem Af {H:Hp} {a b:Addr} {o:HO} (h:H a=some o) (h':H b=none):a ≠ b:=by
 intro e;subst e;rw [h] at h';cases h'
section
variable (P:Program) (w:World)
def ObjOk (H:Hp) (h:Heap) (a:Addr):HO -> Prop
 | .lst xs=>xs.length <= sizeLine /\ ∃ (its:List Value) (n:Nat),Vals xs its /\ h.get? a=some { cls:=.type "list", data:=.seq its.toArray n }
 | .tup xs=>xs.length <= sizeLine /\ ∃ its:List Value,Vals xs its /\ IsTup h a its.toArray
 | .dK kvs=>kvs.length <= sizeLine /\ (a == sysModules)=false /\ ∃ vs,KV kvs vs /\ h.DictOf (Ao P w) a vs
 | .dT kvs=>kvs.length <= sizeLine /\ (a == sysModules)=false /\ ∃ xs:List (List Key × Addr × Value),
   Paired (fun (p:List Key × V) (q:List Key × Addr × Value)=>p.1=q.1 /\ H q.2.1=some (.tup (p.1.map kV)) /\ RelV p.2 q.2.2) kvs xs /\
   ∃ o es ep,h.get? a=some o /\ o.ExactDict /\ o.data = .dict es ep /\ es.toList=xs.map (entryOfKey (tupleKind (Ao P w))) /\ (xs.map (·.1)).Nodup
 | .set S n=>h.SetOf (intKind P w) a S n
 | .ins C dx fs=>H dx=some (.own a) /\ fs.length <= 1000 /\ dx ≠ a /\ h.get? a=some (PySem.W.instObj C dx) /\
   ∃ mA,h.Ns1 dx mA /\ (∀ f,RelO (fs.lookup f) (mA f)) /\ PySem.Within mA (fs.map (·.1))
 | .own _=>∃ o,h.get? a=some o
 | .xd fs=>∃ mA,h.Ns1 a mA /\ ∀ f,RelO (fs.lookup f) (mA f)
 | .rng lo hi=>∃ t u v,h.get? a=some { cls:=.type "range", data:=.fields #[.int lo t,.int hi u,.int 1 v] }
 | .frz o u=>h.get? a=some o /\ ObjOk H h a u
 | .tbl ps=>h.get? a=some { cls:=.none,data:=.fields ps }
 | .met f x=>h.get? a=some (PySem.W.methodObj (.ref f) (.ref x))
 | .ext φ=>φ h /\ (∃ o,h.get? a=some o) /\ ∀ h1 h2:Heap,φ h1 -> (∀ o,h1.get? a=some o -> h2.get? a=some o) -> φ h2
def HOk (H:Hp) (h:Heap):Prop:=∀ a o,H a=some o -> ObjOk P w H h a o
end
section
variable {P:Program} {w:World} {H H':Hp} {h h':Heap} {a:Addr} {o:HO}
theorem ObjOk.lt (x:ObjOk P w H h a o):a < h.objs.size:=by
 cases o with
 | lst xs=>obtain ⟨_,_,_,_,e⟩:=x;exact Heap.lt_size e
 | tup xs=>obtain ⟨_,_,_,p⟩:=x;exact p.lt
 | dK kvs=>obtain ⟨_,_,_,_,o,_,_,e,_⟩:=x;exact Heap.lt_size e
 | dT kvs=>obtain ⟨_,_,_,_,o,_,_,e,_⟩:=x;exact Heap.lt_size e
 | set S n=>obtain ⟨o,_,_,_,e,_⟩:=x;exact Heap.lt_size e
 | ins C dx fs=>obtain ⟨_,_,_,e,_⟩:=x;exact Heap.lt_size e
 | own y=>obtain ⟨_,e⟩:=x;exact Heap.lt_size e
 | xd fs=>obtain ⟨_,⟨_,_,_,e,_⟩,_⟩:=x;exact Heap.lt_size e
 | rng lo hi=>obtain ⟨_,_,_,e⟩:=x;exact Heap.lt_size e
 | frz ob u=>obtain ⟨e,_⟩:=x;exact Heap.lt_size e
 | tbl ps=>exact Heap.lt_size (show h.get? a=some _ from x)
 | met f y=>exact Heap.lt_size (show h.get? a=some _ from x)
 | ext φ=>obtain ⟨_,⟨_,e⟩,_⟩:=x;exact Heap.lt_size e
theorem Paired.mapP {α β:Type} {F G:α -> β -> Prop}:∀ {l₁:List α} {l₂:List β},Paired F l₁ l₂ -> (∀ a b,F a b -> G a b) -> Paired G l₁ l₂
 | _,_,.nil,_=>.nil
 | _,_,.cons r t,f=>.cons (f _ _ r) (Paired.mapP t f)
theorem ObjOk.stay (x:ObjOk P w H h a o) (k:∀ b u,(b=a \/ H b=some (.own a)) -> h.get? b=some u -> h'.get? b=some u)
  (ho:∀ b,H b=some (.own a) -> H' b=some (.own a)) (ht:∀ b xs,H b=some (.tup xs) -> H' b=some (.tup xs)):ObjOk P w H' h' a o:=by
 induction o with
 | lst xs=>obtain ⟨z,its,n,r,e⟩:=x;exact ⟨z,its,n,r,k _ _ (.inl rfl) e⟩
 | tup xs=>obtain ⟨z,its,r,ob,e,c⟩:=x;exact ⟨z,its,r,ob,k _ _ (.inl rfl) e,c⟩
 | dK kvs=>obtain ⟨z,y,vs,r,ob,es,ep,e,c⟩:=x;exact ⟨z,y,vs,r,ob,es,ep,k _ _ (.inl rfl) e,c⟩
 | dT kvs=>
  obtain ⟨z,y,xs,r,ob,es,ep,e,c⟩:=x
  exact ⟨z,y,xs,Paired.mapP r fun p q z=>⟨z.1,ht _ _ z.2.1,z.2.2⟩,ob,es,ep,k _ _ (.inl rfl) e,c⟩
 | set S n=>obtain ⟨ob,es,ep,t,e,c⟩:=x;exact ⟨ob,es,ep,t,k _ _ (.inl rfl) e,c⟩
 | ins C dx fs=>
  obtain ⟨d,z,ne,e,mA,⟨od,es,ep,e2,c⟩,r⟩:=x
  exact ⟨ho _ d,z,ne,k _ _ (.inl rfl) e,mA,⟨od,es,ep,k _ _ (.inr d) e2,c⟩,r⟩
 | own y=>obtain ⟨ob,e⟩:=x;exact ⟨ob,k _ _ (.inl rfl) e⟩
 | xd fs=>obtain ⟨mA,⟨od,es,ep,e,c⟩,r⟩:=x;exact ⟨mA,⟨od,es,ep,k _ _ (.inl rfl) e,c⟩,r⟩
 | rng lo hi=>obtain ⟨t,u,v,e⟩:=x;exact ⟨t,u,v,k _ _ (.inl rfl) e⟩
 | frz ob u ih=>obtain ⟨e,q⟩:=x;exact ⟨k _ _ (.inl rfl) e,ih q⟩
 | tbl ps=>
  have e:h.get? a=some { cls:=.none,data:=.fields ps }:=x
  show h'.get? a=some { cls:=.none,data:=.fields ps }
  exact k a _ (.inl rfl) e
 | met f y=>
  have e:h.get? a=some (PySem.W.methodObj (.ref f) (.ref y)):=x
  show h'.get? a=some (PySem.W.methodObj (.ref f) (.ref y))
  exact k a _ (.inl rfl) e
 | ext φ=>obtain ⟨p,⟨o,e⟩,st⟩:=x;exact ⟨st _ _ p fun o q=>k _ _ (.inl rfl) q,⟨o,k _ _ (.inl rfl) e⟩,st⟩
theorem HOk.lt (x:HOk P w H h) (e:H a=some o):a < h.objs.size:=(x a o e).lt
theorem HOk.fresh (x:HOk P w H h) (e:h.objs.size <= a):H a=none:=by
 cases q:H a with
 | none=>rfl
 | some u=>exact absurd (Nat.lt_of_lt_of_le (x.lt q) e) (Nat.lt_irrefl _)
theorem HOk.kept (x:HOk P w H h) (k:∀ b u,h.get? b=some u -> h'.get? b=some u):HOk P w H h':=fun a o e=>
 (x a o e).stay (fun b u _ q=>k b u q) (fun _ q=>q) fun _ _ q=>q
theorem HOk.laid (x:HOk P w H h) (k:∀ b u,h.get? b=some u -> h'.get? b=some u) (hp:h.objs.size <= a) (new:ObjOk P w (upd H a o) h' a o):HOk P w (upd H a o) h':=fun b u e=>by
 have hn:=x.fresh hp
 by_cases hb:b=a
 ·subst hb;rw [Ac] at e;cases e;exact new
 ·rw [Ad hb] at e
  exact (x b u e).stay (fun c v _ q=>k c v q) (fun c q=>by rw [Ad (Af q hn)];exact q) fun c xs q=>by rw [Ad (Af q hn)];exact q
end
def Rd (H:Hp) (a:Addr) (u:HO):Prop:=H a=some u \/ ∃ o,H a=some (.frz o u)
theorem Rd.ok {P:Program} {w:World} {H:Hp} {h:Heap} {a:Addr} {u:HO} (r:Rd H a u) (x:HOk P w H h):ObjOk P w H h a u:=by
 rcases r with r | ⟨o,r⟩
 ·exact x a u r
 ·obtain ⟨_,q⟩:=x a _ r
  exact q
def Mut:Option HO -> Prop
 | some (.lst _)=>True
 | some (.dK _)=>True
 | some (.dT _)=>True
 | some (.set _ _)=>True
 | some (.ins _ _ _)=>True
 | some (.ext _)=>True
 | _=>False
section
variable {P:Program} {w:World} {H:Hp} {h h':Heap} {x e:Addr} {o':HO}
theorem HOk.write (ok:HOk P w H h) (mu:Mut (H x)) (he:e=x \/ H e=some (.own x)) (k:∀ b u,b ≠ e -> h.get? b=some u -> h'.get? b=some u) (heo:∃ u,h'.get? e=some u)
  (new:ObjOk P w (upd H x o') h' x o'):HOk P w (upd H x o') h':=fun b u q=>by
 have nown:∀ c y,H c=some (.own y) -> c ≠ x:=fun c y r z=>by subst z;rw [r] at mu;exact mu
 have ntup:∀ c xs,H c=some (.tup xs) -> c ≠ x:=fun c xs r z=>by subst z;rw [r] at mu;exact mu
 by_cases hb:b=x
 ·subst hb;rw [Ac] at q;cases q;exact new
 ·rw [Ad hb] at q
  by_cases hbe:b=e
  ·have q':H b=some (.own x):=by
    rcases he with z | z
    ·exact absurd (hbe.trans z) hb
    ·rw [hbe];exact z
   rw [q] at q';cases q'
   obtain ⟨v,hv⟩:=heo
   exact ⟨v,by rw [hbe];exact hv⟩
  ·refine (ok b u q).stay (fun c v hc r=>k c v ?_ r) (fun c r=>by rw [Ad (nown c b r)];exact r) fun c xs r=>by rw [Ad (ntup c xs r)];exact r
   rcases hc with rfl | hc
   ·exact hbe
   ·rintro rfl
    rcases he with z | z
    ·exact nown c b hc z
    ·rw [hc] at z;cases z;exact hb rfl
end
structure Un (fs ex:List Addr) (H H':Hp) (h h':Heap):Prop where
 keep:∀ b o,h.get? b=some o -> H b=none -> b ∉ fs -> b ∉ ex -> h'.get? b=some o
 slot:∀ b o,h.get? b=some o -> H b=none -> b ∈ fs -> b ∉ ex -> ∃ sl,h'.get? b=some { o with slots:=sl }
 free:∀ b o,h.get? b=some o -> H b=none -> b ∉ ex -> H' b=none
 there:∀ b o,h.get? b=some o -> b ∉ ex -> ∃ o',h'.get? b=some o'
 tups:∀ b xs,H b=some (.tup xs) -> H' b=some (.tup xs)
 frzs:∀ b o u,H b=some (.frz o u) -> H' b=some (.frz o u)
 tbls:∀ b ps,H b=some (.tbl ps) -> ∃ more,H' b=some (.tbl (ps ++ more))
section
variable {fs fs' ex ex':List Addr} {H H1 H2:Hp} {h h1 h2 h':Heap} {a x e:Addr} {o:HO}
theorem Un.any (u:Un fs ex H H1 h h1) {b:Addr} {ob:Obj} (q:h.get? b=some ob) (n:H b=none) (hx:b ∉ ex):∃ sl,h1.get? b=some { ob with slots:=sl }:=by
 by_cases hb:b ∈ fs
 ·exact u.slot b ob q n hb hx
 ·exact ⟨ob.slots,u.keep b ob q n hb hx⟩
theorem Un.kept (k:∀ b u,h.get? b=some u -> h'.get? b=some u):Un fs ex H H h h':=
 ⟨fun b ob q _ _ _=>k b ob q,fun b ob q _ _ _=>⟨ob.slots,k b ob q⟩,fun _ _ _ n _=>n,fun b ob q _=>⟨ob,k b ob q⟩,fun _ _ q=>q,fun _ _ _ q=>q,fun _ ps q=>⟨#[],by rw [q];simp⟩⟩
theorem Un.refl:Un fs ex H H h h:=Un.kept fun _ _ q=>q
theorem Un.laid (k:∀ b u,h.get? b=some u -> h'.get? b=some u) (hp:h.objs.size <= a) (hn:H a=none):Un fs ex H (upd H a o) h h' where
 keep:=fun b u q _ _ _=>k b u q
 slot:=fun b u q _ _ _=>⟨u.slots,k b u q⟩
 free:=fun b u q n _=>by rw [Ad (Nat.ne_of_lt (Nat.lt_of_lt_of_le (Heap.lt_size q) hp))];exact n
 there:=fun b u q _=>⟨u,k b u q⟩
 tups:=fun b xs q=>by rw [Ad (Af q hn)];exact q
 frzs:=fun b u xs q=>by rw [Ad (Af q hn)];exact q
 tbls:=fun b ps q=>⟨#[],by rw [Ad (Af q hn),q];simp⟩
theorem Un.write (mu:Mut (H x)) (he:e=x \/ H e=some (.own x)) (k:∀ b u,b ≠ e -> h.get? b=some u -> h'.get? b=some u) (heo:∃ u,h'.get? e=some u):Un fs ex H (upd H x o) h h':=by
 have hx:∀ b,H b=none -> b ≠ x:=fun b n z=>by subst z;rw [n] at mu;exact mu
 have hb:∀ b,H b=none -> b ≠ e:=fun b n z=>by
  subst z
  rcases he with r | r
  ·exact hx b n r
  ·rw [n] at r;cases r
 have hm:∀ b u,H b=some u -> ¬ Mut (some u) -> b ≠ x:=fun b u q nm z=>by subst z;rw [q] at mu;exact nm mu
 refine ⟨fun b u q n _ _=>k b u (hb b n) q,fun b u q n _ _=>⟨u.slots,k b u (hb b n) q⟩,fun b u q n _=>by rw [Ad (hx b n)];exact n,fun b u q _=>?_,
  fun b xs q=>by rw [Ad (hm b _ q fun z=>z)];exact q,fun b u xs q=>by rw [Ad (hm b _ q fun z=>z)];exact q,fun b ps q=>⟨#[],by rw [Ad (hm b _ q fun z=>z),q];simp⟩⟩
 by_cases hbe:b=e
 ·subst hbe;exact heo
 ·exact ⟨u,k b u hbe q⟩
end
def trk (h:Heap) (H:Hp):List Addr:=(List.range h.objs.size).filter fun a=>(H a).isSome
def hidT (h:Heap) (H:Hp):Heap:=PySem.W.hideAll h (trk h H)
theorem Tt (h:Heap) (H:Hp):(hidT h H).objs.size=h.objs.size:=PySem.W.hideAll_size _ _
theorem Wq {h:Heap} {H:Hp} {b:Addr} {o:Obj} (e:h.get? b=some o) (n:H b=none):(hidT h H).get? b=some o:=
 PySem.W.hideAll_get _ e fun hm=>by
  have q:(H b).isSome=true:=(List.mem_filter.mp hm).2
  rw [n] at q;simp at q
theorem Zs {h:Heap} {H:Hp} {b:Addr} {o:Obj} (e:(hidT h H).get? b=some o):h.get? b=some o /\ H b=none:=by
 have e':h.get? b=some o:=PySem.W.of_hideAll (trk h H) e
 refine ⟨e',?_⟩
 cases q:H b with
 | none=>rfl
 | some x=>
  have hm:b ∈ trk h H:=List.mem_filter.mpr ⟨List.mem_range.mpr (Heap.lt_size e'),by simp [q]⟩
  have z:(hidT h H).get? b=none:=PySem.W.hideAll_none (trk h H) hm
  rw [z] at e;cases e
structure Mod (K:PySem.W.Frag) (mg:Str -> Option Value) (base:Heap):Prop where
 kin:K.In base
 glob:base.Ns mainGlobals mg
 blt:∃ mb,base.Ns builtinsNs mb /\ ∀ x:Str,x ≠ "__name__" -> mb x=bootBuiltins x
 nolimit:base.NoLimit
structure Cx where
 prog:Program
 w:World
 K:PySem.W.Frag
 mg:Str -> Option Value
 base:Heap
 A:Around
 N:List Str
 s₀:Shared
 H₀:Hp
 env:Env
 outer:List Env
 stack:List Env
 ex:List Addr
 fn:Str -> Bool
 calm:Bool
 pn:List (Addr × Obj)
 xe:Value -> Shared -> Prop
def frs (l:List Env):List Addr:=l.filterMap (·.frame)
abbrev Cx.fs (X:Cx):List Addr:=frs X.outer
def Vis (sc:Scope) (x:Str):Prop:=sc.names.lookup x=some .local \/ sc.names.lookup x=some .cell \/ sc.names.lookup x=some .free
def Loc (sc:Scope) (x:Str):Prop:=sc.names.lookup x=some .local \/ sc.names.lookup x=some .cell
def Look (env:Env) (h:Heap) (m:Str -> Option Value) (x:Str) (u:Value):Prop:=
 (env.kindOf x=some .local /\ m x=some u) \/ ((env.kindOf x=some .cell \/ env.kindOf x=some .free) /\ ∃ c,env.cells.lookup x=some c /\ h.IsCell c (some u))
structure Cx.Ok (X:Cx):Prop where
 mod:Mod X.K X.mg X.base
 kind:X.env.scope.kind = .function
 glob:X.env.globals=mainGlobals
 blt:X.env.builtins=builtinsNs
 above:X.s₀.heap.objs.size <= X.env.locals
 inj:∀ x y c,X.env.cells.lookup x=some c -> X.env.cells.lookup y=some c -> x=y
 has:∀ x,(X.env.kindOf x=some .cell \/ X.env.kindOf x=some .free) -> ∃ c,X.env.cells.lookup x=some c
 cab:∀ x c,X.fn x=true -> X.env.cells.lookup x=some c -> X.s₀.heap.objs.size <= c
 hd:X.calm=true -> X.A.handled=none
 frames:X.A.frames=some X.stack
 stk:X.stack=X.outer \/ (X.stack=X.env :: X.outer /\ X.env.frame=some X.env.locals)
 exf:∀ b ∈ X.ex,b ≠ X.env.locals /\ ∀ x c,X.env.cells.lookup x=some c -> c ≠ b
 bs:∀ b o,X.base.get? b=some o -> X.s₀.heap.get? b=some o /\ X.H₀ b=none
 bsz:X.base.objs.size <= X.s₀.heap.objs.size
 noex:∀ b o,X.base.get? b=some o -> b ∉ X.ex
 exfs:∀ b ∈ X.ex,b ∉ X.fs
 funs:X.s₀.heap.FunFrames X.base X.outer
 frf:∀ b ∈ X.fs,X.H₀ b=none
structure Inv (X:Cx) (pins:List (Addr × Obj)) (σ:List (Option V)) (H:Hp) (s:Shared):Prop where
 ok:X.Ok
 os:s.os=X.s₀.os
 bare:AllBare s.gens
 base:Un X.fs X.ex X.H₀ H X.s₀.heap s.heap
 loc:∃ m,s.heap.Ns X.env.locals m /\ ∀ (i:Nat) (x:Str) (v:V),X.N[i]? = some x -> σ[i]? = some (some v) -> Vis X.env.scope x -> ∃ u,RelV v u /\ Look X.env s.heap m x u
 cell:∀ x c,X.env.cells.lookup x=some c -> ∃ v,s.heap.IsCell c v
 free:H X.env.locals=none
 freeC:∀ x c,X.env.cells.lookup x=some c -> H c=none
 pin:∀ p ∈ X.pn ++ pins,s.heap.get? p.1=some p.2 /\ H p.1=none /\ p.1 ≠ X.env.locals /\ p.1 ∉ X.fs /\ ∀ v,p.2.data ≠ .cell v
 hok:HOk X.prog X.w H s.heap
 len:σ.length=X.N.length
section
variable {X:Cx} {pins:List (Addr × Obj)} {σ:List (Option V)} {H H':Hp} {s:Shared} {h':Heap}
theorem Cx.Ok.nofr (ok:X.Ok) {b:Addr} {o:Obj} (e:X.base.get? b=some o):b ∉ X.fs:=fun hb=>by
 have:=(ok.funs.mem hb).1
 rw [e] at this;cases this
theorem Inv.bs (I:Inv X pins σ H s):∀ b o,X.base.get? b=some o -> s.heap.get? b=some o /\ H b=none:=fun b o e=>
 ⟨I.base.keep b o (I.ok.bs b o e).1 (I.ok.bs b o e).2 (I.ok.nofr e) (I.ok.noex b o e),I.base.free b o (I.ok.bs b o e).1 (I.ok.bs b o e).2 (I.ok.noex b o e)⟩
theorem Inv.bk (I:Inv X pins σ H s):∀ b o,X.base.get? b=some o -> s.heap.get? b=some o:=fun b o e=>(I.bs b o e).1
theorem Inv.mod (I:Inv X pins σ H s):Mod X.K X.mg X.base:=I.ok.mod
theorem Inv.kIn (I:Inv X pins σ H s):X.K.In s.heap:=I.ok.mod.kin.keeps I.bk
theorem Inv.lt (I:Inv X pins σ H s):X.env.locals < s.heap.objs.size:=let ⟨_,hn,_⟩:=I.loc;hn.lt
theorem Inv.sz (I:Inv X pins σ H s):X.s₀.heap.objs.size <= s.heap.objs.size:=Nat.le_trans I.ok.above (Nat.le_of_lt I.lt)
theorem Inv.nofs (I:Inv X pins σ H s) {a:Addr} (h:s.heap.objs.size <= a):a ∉ X.fs:=fun hb=>by
 obtain ⟨_,o,ho,_⟩:=I.ok.funs.mem hb
 exact absurd (Nat.lt_of_lt_of_le (Heap.lt_size ho) (Nat.le_trans I.sz h)) (Nat.lt_irrefl _)
theorem Inv.cne (I:Inv X pins σ H s):∀ x c,X.env.cells.lookup x=some c -> c ≠ X.env.locals:=fun x c e z=>by
 obtain ⟨v,o,ho,hd⟩:=I.cell x c e
 obtain ⟨m,⟨o',es,ep,ho',hd',_⟩,_⟩:=I.loc
 rw [z,ho'] at ho;cases ho;rw [hd'] at hd;cases hd
theorem Inv.funs (I:Inv X pins σ H s):s.heap.FunFrames X.base X.outer:=by
 have all:∀ (l:List Env),(∀ b ∈ frs l,b ∈ X.fs) -> X.s₀.heap.FunFrames X.base l -> s.heap.FunFrames X.base l:=by
  intro l
  induction l with
  | nil=>intro _ _;trivial
  | cons env r ih=>
   intro hs hl
   obtain ⟨hk,⟨L,o,hf,hn,ho,hd⟩,hr⟩:=hl
   have hL:L ∈ X.fs:=hs L (by unfold frs;rw [List.filterMap_cons,hf];exact List.mem_cons_self)
   obtain ⟨sl,e⟩:=I.base.slot L o ho (I.ok.frf L hL) hL fun z=>I.ok.exfs L z hL
   exact ⟨hk,⟨L,_,hf,hn,e,hd⟩,ih (fun b hb=>hs b (by unfold frs;rw [List.filterMap_cons,hf];exact List.mem_cons_of_mem _ hb)) hr⟩
 exact all X.outer (fun _ hb=>hb) I.ok.funs
theorem Inv.stack (I:Inv X pins σ H s):s.heap.FunFrames X.base X.stack:=by
 rcases I.ok.stk with e | ⟨e,hf⟩
 ·rw [e];exact I.funs
 ·rw [e]
  obtain ⟨m,hn,_⟩:=I.loc
  refine .cons (by rw [I.ok.kind];decide) hf hn ?_ I.funs
  exact Heap.get?_none_of_le (Nat.le_trans I.ok.bsz I.ok.above)
theorem Inv.stkSub (I:Inv X pins σ H s):∀ b ∈ frs X.stack,b ∈ X.env.locals :: X.fs:=fun b hb=>by
 rcases I.ok.stk with e | ⟨e,hf⟩
 ·rw [e] at hb;exact List.mem_cons_of_mem _ hb
 ·rw [e] at hb
  unfold frs at hb
  rw [List.filterMap_cons,hf] at hb
  exact hb
theorem Inv.stkFree (I:Inv X pins σ H s):∀ b ∈ frs X.stack,H b=none:=fun b hb=>by
 rcases List.mem_cons.mp (I.stkSub b hb) with e | hb
 ·rw [e];exact I.free
 ·obtain ⟨_,o,ho,_⟩:=I.ok.funs.mem hb
  exact I.base.free b o ho (I.ok.frf b hb) fun z=>I.ok.exfs b z hb
theorem Inv.step {g':Array GenState} {t':Nat} {d':Drawn} {ch:List Addr} (I:Inv X pins σ H s)
  (hch:∀ b ∈ ch,(b ∈ X.ex \/ X.s₀.heap.objs.size <= b) /\ b ≠ X.env.locals /\ (∀ x c,X.env.cells.lookup x=some c -> c ≠ b) /\ ∀ p ∈ X.pn ++ pins,p.1 ≠ b)
  (keep:∀ b o,b ≠ X.env.locals -> b ∉ X.fs -> b ∉ ch -> s.heap.get? b=some o -> H b=none -> h'.get? b=some o)
  (slot:∀ b o,b ≠ X.env.locals -> b ∈ X.fs -> b ∉ ch -> s.heap.get? b=some o -> H b=none -> ∃ sl,h'.get? b=some { o with slots:=sl }) (free:∀ b o,b ∉ ch -> s.heap.get? b=some o -> H b=none -> H' b=none)
  (there:∀ b o,b ∉ ch -> s.heap.get? b=some o -> ∃ o',h'.get? b=some o')
  (tups:∀ b xs,H b=some (.tup xs) -> H' b=some (.tup xs)) (frzs:∀ b o u,H b=some (.frz o u) -> H' b=some (.frz o u)) (tbls:∀ b ps,H b=some (.tbl ps) -> ∃ more,H' b=some (.tbl (ps ++ more)))
  (ns:∀ m,s.heap.Ns X.env.locals m -> h'.Ns X.env.locals m) (hok:HOk X.prog X.w H' h') (hg:AllBare g') :
  Inv X pins σ H' { s with heap:=h',gens:=g',drawn:=d',toks:=t' }:=by
 have neL:∀ b o,X.s₀.heap.get? b=some o -> b ≠ X.env.locals:=fun b o e=>Nat.ne_of_lt (Nat.lt_of_lt_of_le (Heap.lt_size e) I.ok.above)
 have neC:∀ b o,X.s₀.heap.get? b=some o -> b ∉ X.ex -> b ∉ ch:=fun b o e hx hb=>by
  rcases (hch b hb).1 with z | z
  ·exact hx z
  ·exact absurd (Nat.lt_of_lt_of_le (Heap.lt_size e) z) (Nat.lt_irrefl _)
 have cellK:∀ x c,X.env.cells.lookup x=some c -> ∀ v,s.heap.IsCell c v -> h'.IsCell c v:=fun x c e v ⟨o,ho,hd⟩=>by
  have nch:c ∉ ch:=fun z=>(hch c z).2.2.1 x c e rfl
  by_cases hc:c ∈ X.fs
  ·obtain ⟨sl,q⟩:=slot c o (I.cne x c e) hc nch ho (I.freeC x c e)
   exact ⟨_,q,hd⟩
  ·exact ⟨o,keep c o (I.cne x c e) hc nch ho (I.freeC x c e),hd⟩
 refine ⟨I.ok,I.os,hg,⟨fun b o e n hb hx=>?_,fun b o e n hb hx=>?_,fun b o e n hx=>?_,fun b o e hx=>?_,fun b xs e=>tups b xs (I.base.tups b xs e),fun b o xs e=>frzs b o xs (I.base.frzs b o xs e),fun b ps e=>?_⟩,?_,fun x c e=>?_,?_,fun x c e=>?_,fun p hp=>?_,hok,I.len⟩
 ·exact keep b o (neL b o e) hb (neC b o e hx) (I.base.keep b o e n hb hx) (I.base.free b o e n hx)
 ·obtain ⟨sl,e1⟩:=I.base.slot b o e n hb hx
  obtain ⟨sl',e2⟩:=slot b _ (neL b o e) hb (neC b o e hx) e1 (I.base.free b o e n hx)
  exact ⟨sl',e2⟩
 ·obtain ⟨o',e1⟩:=I.base.there b o e hx
  exact free b o' (neC b o e hx) e1 (I.base.free b o e n hx)
 ·obtain ⟨o',e1⟩:=I.base.there b o e hx
  exact there b o' (neC b o e hx) e1
 ·obtain ⟨m1,e1⟩:=I.base.tbls b ps e
  obtain ⟨m2,e2⟩:=tbls b _ e1
  exact ⟨m1 ++ m2,by rw [e2,Array.append_assoc]⟩
 ·obtain ⟨m,hn,hl⟩:=I.loc
  refine ⟨m,ns m hn,fun i x v e1 e2 e3=>?_⟩
  obtain ⟨u,r,l⟩:=hl i x v e1 e2 e3
  refine ⟨u,r,?_⟩
  rcases l with l | ⟨k,c,e,z⟩
  ·exact .inl l
  ·exact .inr ⟨k,c,e,cellK x c e _ z⟩
 ·obtain ⟨v,z⟩:=I.cell x c e
  exact ⟨v,cellK x c e v z⟩
 ·obtain ⟨m,⟨o,_,_,ho,_⟩,_⟩:=I.loc
  exact free _ o (fun z=>(hch _ z).2.1 rfl) ho I.free
 ·obtain ⟨v,o,ho,hd⟩:=I.cell x c e
  exact free c o (fun z=>(hch c z).2.2.1 x c e rfl) ho (I.freeC x c e)
 ·obtain ⟨e,n,ne,nf,d⟩:=I.pin p hp
  have nch:p.1 ∉ ch:=fun z=>(hch p.1 z).2.2.2 p hp rfl
  exact ⟨keep p.1 p.2 ne nf nch e n,free p.1 p.2 nch e n,ne,nf,d⟩
theorem Inv.un {t':Nat} (I:Inv X pins σ H s) (u:Un X.fs [] H H' s.heap h') (hok:HOk X.prog X.w H' h'):Inv X pins σ H' { s with heap:=h',toks:=t' }:=by
 obtain ⟨m,⟨o,es,ep,ho,r⟩,_⟩:=id I.loc
 obtain ⟨sl,hL⟩:=u.any ho I.free (by simp)
 exact I.step (g':=s.gens) (d':=s.drawn) (ch:=[]) (fun _ z=>nomatch z) (fun b o _ hb _ e n=>u.keep b o e n hb (by simp)) (fun b o _ hb _ e n=>u.slot b o e n hb (by simp)) (fun b o _ e n=>u.free b o e n (by simp)) (fun b o _ e=>u.there b o e (by simp)) u.tups u.frzs u.tbls (fun m' hm=>by
  obtain ⟨o',es',ep',ho',r'⟩:=hm
  rw [ho] at ho';cases ho'
  exact ⟨_,es',ep',hL,r'⟩) hok I.bare
theorem Inv.call {g':Array GenState} {t':Nat} {d':Drawn} {ch:List Addr} (I:Inv X pins σ H s) (u:Un (frs X.stack) ch H H' s.heap h') (hok:HOk X.prog X.w H' h') (hg:AllBare g')
  (hch:∀ b ∈ ch,(b ∈ X.ex \/ X.s₀.heap.objs.size <= b) /\ b ≠ X.env.locals /\ (∀ x c,X.env.cells.lookup x=some c -> c ≠ b) /\ ∀ p ∈ X.pn ++ pins,p.1 ≠ b) :
  Inv X pins σ H' { s with heap:=h',gens:=g',drawn:=d',toks:=t' }:=by
 obtain ⟨m,⟨o,es,ep,ho,r⟩,_⟩:=id I.loc
 obtain ⟨sl,hL⟩:=u.any ho I.free fun z=>(hch _ z).2.1 rfl
 exact I.step (ch:=ch) hch (fun b o hL hb hc e n=>u.keep b o e n (fun z=>(List.mem_cons.mp (I.stkSub b z)).elim hL hb) hc) (fun b o _ _ hc e n=>u.any e n hc) (fun b o hc e n=>u.free b o e n hc) (fun b o hc e=>u.there b o e hc) u.tups u.frzs u.tbls (fun m' hm=>by
  obtain ⟨o',es',ep',ho',r'⟩:=hm
  rw [ho] at ho';cases ho'
  exact ⟨_,es',ep',hL,r'⟩) hok hg
theorem Inv.turned {t':Nat} {it:Addr} (I:Inv X pins σ H s) (k:∀ b o,b ≠ it -> s.heap.get? b=some o -> h'.get? b=some o) (hn:H it=none) (hL:it ≠ X.env.locals)
  (h1:it ∈ X.ex \/ X.s₀.heap.objs.size <= it) (h2:∀ x c,X.env.cells.lookup x=some c -> c ≠ it) (h3:∀ p ∈ X.pn ++ pins,p.1 ≠ it):Inv X pins σ H { s with heap:=h',toks:=t' }:=by
 have nit:∀ b u,H b=some u -> b ≠ it:=fun b u e z=>by rw [z,hn] at e;cases e
 refine I.step (g':=s.gens) (d':=s.drawn) (ch:=[it]) (fun b hb=>?_) (fun b o _ _ hc e _=>k b o (fun z=>hc (by simp [z])) e) (fun b o _ _ hc e _=>⟨o.slots,k b o (fun z=>hc (by simp [z])) e⟩) (fun _ _ _ _ n=>n)
  (fun b o hc e=>⟨o,k b o (fun z=>hc (by simp [z])) e⟩) (fun _ _ e=>e) (fun _ _ _ e=>e) (fun b ps e=>⟨#[],by rw [e];simp⟩) (fun m hm=>?_) (fun b u e=>?_) I.bare
 ·have e:b=it:=by simpa using hb
  subst e
  exact ⟨h1,hL,h2,h3⟩
 ·obtain ⟨o,es,ep,ho,r⟩:=hm
  exact ⟨o,es,ep,k _ o (Ne.symm hL) ho,r⟩
 ·refine (I.hok b u e).stay (fun c v hc q=>k c v ?_ q) (fun _ q=>q) fun _ _ q=>q
  rcases hc with z | z
  ·rw [z];exact nit b u e
  ·exact nit c _ z
theorem Inv.tok (I:Inv X pins σ H s) (t:Nat):Inv X pins σ H { s with toks:=t }:=I.un (h':=s.heap) (t':=t) Un.refl I.hok
theorem Inv.kept {t':Nat} (I:Inv X pins σ H s) (k:∀ b u,s.heap.get? b=some u -> h'.get? b=some u):Inv X pins σ H { s with heap:=h',toks:=t' }:=I.un (Un.kept k) (I.hok.kept k)
theorem Inv.laid {a:Addr} {o:HO} {t':Nat} (I:Inv X pins σ H s) (k:∀ b u,s.heap.get? b=some u -> h'.get? b=some u) (hp:s.heap.objs.size <= a) (new:ObjOk X.prog X.w (upd H a o) h' a o) :
  Inv X pins σ (upd H a o) { s with heap:=h',toks:=t' }:=I.un (Un.laid k hp (I.hok.fresh hp)) (I.hok.laid k hp new)
theorem Inv.write {x e:Addr} {o:HO} {t':Nat} (I:Inv X pins σ H s) (mu:Mut (H x)) (he:e=x \/ H e=some (.own x)) (k:∀ b u,b ≠ e -> s.heap.get? b=some u -> h'.get? b=some u) (heo:∃ u,h'.get? e=some u)
  (new:ObjOk X.prog X.w (upd H x o) h' x o):Inv X pins σ (upd H x o) { s with heap:=h',toks:=t' }:=I.un (Un.write mu he k heo) (I.hok.write mu he k heo new)
theorem Inv.pins_of {pins':List (Addr × Obj)} (I:Inv X pins σ H s) (h:∀ p ∈ pins',s.heap.get? p.1=some p.2 /\ H p.1=none /\ p.1 ≠ X.env.locals /\ p.1 ∉ X.fs /\ ∀ v,p.2.data ≠ .cell v):Inv X pins' σ H s:=
 ⟨I.ok,I.os,I.bare,I.base,I.loc,I.cell,I.free,I.freeC,fun p hp=>(List.mem_append.mp hp).elim (fun z=>I.pin p (List.mem_append_left _ z)) (h p),I.hok,I.len⟩
theorem Io {N:List Str} (hN:N.Nodup) {i j:Nat} {x:Str} (a:N[i]? = some x) (b:N[j]? = some x):i=j:=by
 obtain ⟨h1,e1⟩:=List.getElem?_eq_some_iff.mp a
 obtain ⟨h2,e2⟩:=List.getElem?_eq_some_iff.mp b
 exact (List.getElem_inj hN).mp (e1.trans e2.symm)
theorem U2 {M:Model} {A:Around} {E:Value -> Shared -> Prop} {i:Nat} {x:Str} {v:V} {u:Value} {Q:Unit -> Shared -> Prop} (I:Inv X pins σ H s) (hN:X.N.Nodup) (hi:X.N[i]? = some x) (hx:Loc X.env.scope x) (r:RelV v u)
  (h:∀ s',Inv X pins (σ.set i (some v)) H s' -> (∃ a,Heap.SameBut a s.heap s'.heap /\ (a=X.env.locals \/ X.env.cells.lookup x=some a)) -> Q () s') (hf:X.fn x=true \/ X.env.scope.names.lookup x=some .local:=by first | exact .inl rfl | exact .inr rfl | assumption):wpAny M A (storeName X.env x u) Q E s:=by
 obtain ⟨m,hn,hl⟩:=id I.loc
 have hcls:(X.env.scope.kind == .class || (X.env.scope.kind == .module && X.env.locals != X.env.globals))=false:=by rw [I.ok.kind];rfl
 have hiσ:i < σ.length:=by rw [I.len];exact (List.getElem?_eq_some_iff.mp hi).1
 have cne:=I.cne
 have tracked:∀ {a:Addr} {h':Heap},(∃ o,s.heap.get? a=some o /\ H a=none) -> Heap.SameBut a s.heap h' -> HOk X.prog X.w H h':=fun {a h'} ha hs b ob e=>by
  obtain ⟨_,_,hfree⟩:=ha
  refine (I.hok b ob e).stay (fun c w' hc q=>(hs.2 c ?_).trans q) (fun _ q=>q) fun _ _ q=>q
  rintro rfl
  rcases hc with rfl | hc
  ·rw [hfree] at e;cases e
  ·rw [hfree] at hc;cases hc
 rcases hx with hk | hk
 ·refine wpAny_storeName_local hk hn (fun h' hn' hs=>?_) hcls
  obtain ⟨oL,_,_,hoL,_⟩:=id hn
  refine h _ ⟨I.ok,I.os,I.bare,⟨fun b o e n hb hx=>?_,fun b o e n hb hx=>?_,I.base.free,fun b o e hx=>?_,I.base.tups,I.base.frzs,I.base.tbls⟩,⟨_,hn',fun j y v' e1 e2 e3=>?_⟩,fun y c e=>?_,I.free,I.freeC,fun p hp=>?_,tracked ⟨oL,hoL,I.free⟩ hs,by simpa using I.len⟩ ⟨_,hs,.inl rfl⟩
  ·exact (hs.2 b (Nat.ne_of_lt (Nat.lt_of_lt_of_le (Heap.lt_size e) I.ok.above))).trans (I.base.keep b o e n hb hx)
  ·obtain ⟨sl,e1⟩:=I.base.slot b o e n hb hx
   exact ⟨sl,(hs.2 b (Nat.ne_of_lt (Nat.lt_of_lt_of_le (Heap.lt_size e) I.ok.above))).trans e1⟩
  ·obtain ⟨o',e1⟩:=I.base.there b o e hx
   exact ⟨o',(hs.2 b (Nat.ne_of_lt (Nat.lt_of_lt_of_le (Heap.lt_size e) I.ok.above))).trans e1⟩
  ·by_cases hj:j=i
   ·subst hj
    rw [hi] at e1;cases e1
    rw [List.getElem?_set_self hiσ] at e2
    cases e2
    exact ⟨u,r,.inl ⟨hk,by simp⟩⟩
   ·rw [List.getElem?_set_ne (Ne.symm hj)] at e2
    obtain ⟨u',r',q⟩:=hl j y v' e1 e2 e3
    refine ⟨u',r',?_⟩
    rcases q with ⟨k,e⟩ | ⟨k,c,e,z⟩
    ·refine .inl ⟨k,?_⟩
     have:y ≠ x:=fun e=>hj (Io hN e1 (e ▸ hi))
     simp [this,e]
    ·exact .inr ⟨k,c,e,z.sameBut hs (cne y c e)⟩
  ·obtain ⟨w',z⟩:=I.cell y c e
   exact ⟨w',z.sameBut hs (cne y c e)⟩
  ·obtain ⟨e,n,ne,nf,d⟩:=I.pin p hp
   exact ⟨(hs.2 p.1 ne).trans e,n,ne,nf,d⟩
 ·have hfn:X.fn x=true:=by
   rcases hf with z | z
   ·exact z
   ·rw [z] at hk;cases hk
  obtain ⟨c,hc⟩:=I.ok.has x (.inl hk)
  obtain ⟨w',z⟩:=I.cell x c hc
  refine wpAny_storeName_cell I.ok.kind hk hc z (fun h' hc' hs=>?_)
  obtain ⟨oc,hoc,hocd⟩:=id z
  refine h { s with heap:=h' } ⟨I.ok,I.os,I.bare,⟨fun b o e n hb hx=>?_,fun b o e n hb hx=>?_,I.base.free,fun b o e hx=>?_,I.base.tups,I.base.frzs,I.base.tbls⟩,⟨m,hn.sameBut hs (Ne.symm (cne x c hc)),fun j y v' e1 e2 e3=>?_⟩,fun y c' e=>?_,I.free,I.freeC,fun p hp=>?_,tracked ⟨oc,hoc,I.freeC x c hc⟩ hs,by simpa using I.len⟩ ⟨c,hs,.inr hc⟩
  ·exact (hs.2 b (Nat.ne_of_lt (Nat.lt_of_lt_of_le (Heap.lt_size e) (I.ok.cab x c hfn hc)))).trans (I.base.keep b o e n hb hx)
  ·obtain ⟨sl,e1⟩:=I.base.slot b o e n hb hx
   exact ⟨sl,(hs.2 b (Nat.ne_of_lt (Nat.lt_of_lt_of_le (Heap.lt_size e) (I.ok.cab x c hfn hc)))).trans e1⟩
  ·obtain ⟨o',e1⟩:=I.base.there b o e hx
   exact ⟨o',(hs.2 b (Nat.ne_of_lt (Nat.lt_of_lt_of_le (Heap.lt_size e) (I.ok.cab x c hfn hc)))).trans e1⟩
  ·by_cases hj:j=i
   ·subst hj
    rw [hi] at e1;cases e1
    rw [List.getElem?_set_self hiσ] at e2
    cases e2
    exact ⟨u,r,.inr ⟨.inl hk,c,hc,hc'⟩⟩
   ·rw [List.getElem?_set_ne (Ne.symm hj)] at e2
    obtain ⟨u',r',q⟩:=hl j y v' e1 e2 e3
    refine ⟨u',r',?_⟩
    rcases q with q | ⟨k,c',e,z'⟩
    ·exact .inl q
    ·refine .inr ⟨k,c',e,z'.sameBut hs ?_⟩
     rintro rfl
     exact hj (Io hN e1 (I.ok.inj _ _ _ e hc ▸ hi))
  ·by_cases hcc:c' = c
   ·subst hcc;exact ⟨_,hc'⟩
   ·obtain ⟨w2,z2⟩:=I.cell y c' e
    exact ⟨w2,z2.sameBut hs hcc⟩
  ·obtain ⟨e,n,ne,nf,d⟩:=I.pin p hp
   refine ⟨(hs.2 p.1 ?_).trans e,n,ne,nf,d⟩
   intro q
   rw [q,hoc] at e
   have q':oc=p.2:=Option.some.inj e
   exact d w' (by rw [<- q'];exact hocd)
theorem Fp {M:Model} {A:Around} {E:Value -> Shared -> Prop} {i:Nat} {x:Str} {v:V} {u:Value} {Q:Unit -> Shared -> Prop} (I:Inv X pins σ H s) (hN:X.N.Nodup) (hi:X.N[i]? = some x) (hx:Loc X.env.scope x) (r:RelV v u)
  (h:∀ s',Inv X pins (σ.set i (some v)) H s' -> Q () s') (hf:X.fn x=true \/ X.env.scope.names.lookup x=some .local:=by first | exact .inl rfl | exact .inr rfl | assumption):wpAny M A (storeName X.env x u) Q E s:=
 U2 I hN hi hx r (fun s' I' _=>h s' I') hf
theorem Inv.call' {s':Shared} {ch:List Addr} (I:Inv X pins σ H s) (ho:s'.os=s.os) (u:Un (frs X.stack) ch H H' s.heap s'.heap) (hok:HOk X.prog X.w H' s'.heap) (hg:AllBare s'.gens)
  (hch:∀ b ∈ ch,(b ∈ X.ex \/ X.s₀.heap.objs.size <= b) /\ b ≠ X.env.locals /\ (∀ x c,X.env.cells.lookup x=some c -> c ≠ b) /\ ∀ p ∈ X.pn ++ pins,p.1 ≠ b):Inv X pins σ H' s':=by
 obtain ⟨h',g',d',t',o'⟩:=s'
 have e:o' = s.os:=ho
 subst e
 exact I.call (g':=g') (t':=t') (d':=d') u hok hg hch
end
abbrev XK:=Value -> Option Addr -> Hp -> Prop
abbrev St:=List (Option V)
abbrev VK:=V -> Hp -> Prop
abbrev TE:=St -> Hp -> VK -> Prop
abbrev TT:=St -> Hp -> (Bool -> Hp -> Prop) -> Prop
abbrev TA:=St -> Hp -> (List V -> Hp -> Prop) -> Prop
structure Ends where
 nx:St -> Hp -> Prop
 rt:VK
 bk:St -> Hp -> Prop:=fun _ _=>False
 ct:St -> Hp -> Prop:=fun _ _=>False
abbrev TS:=Ends -> St -> Hp -> Prop
def EP (X:Cx) (pins:List (Addr × Obj)) (σ:St) (Q:VK) (u:Value) (s':Shared):Prop:=∃ v H',Inv X pins σ H' s' /\ RelV v u /\ Q v H'
def TP (X:Cx) (pins:List (Addr × Obj)) (σ:St) (Q:Bool -> Hp -> Prop) (b:Bool) (s':Shared):Prop:=∃ H',Inv X pins σ H' s' /\ Q b H'
def AP (X:Cx) (pins:List (Addr × Obj)) (σ:St) (Q:List V -> Hp -> Prop) (us:List Value) (s':Shared):Prop:=∃ vs H',Inv X pins σ H' s' /\ Vals vs us /\ Q vs H'
def SP (X:Cx) (pins:List (Addr × Obj)) (D:Ends) (f:Flow) (s':Shared):Prop:=
 match f with
 | .next=>∃ σ' H',Inv X pins σ' H' s' /\ D.nx σ' H'
 | .brk=>∃ σ' H',Inv X pins σ' H' s' /\ D.bk σ' H'
 | .cont=>∃ σ' H',Inv X pins σ' H' s' /\ D.ct σ' H'
 | .ret u=>∃ v σ' H',Inv X pins σ' H' s' /\ RelV v u /\ D.rt v H'
def PE (X:Cx) (e:Expr) (t:TE):Prop:=
 ∀ (pins:List (Addr × Obj)) (s:Shared) (σ:St) (H:Hp) (Q:VK),Inv X pins σ H s -> t σ H Q -> wpAny (model X.prog X.w) X.A (eval e X.env) (EP X pins σ Q) X.xe s
def PT (X:Cx) (e:Expr) (t:TT):Prop:=
 ∀ (pins:List (Addr × Obj)) (s:Shared) (σ:St) (H:Hp) (Q:Bool -> Hp -> Prop),Inv X pins σ H s -> t σ H Q -> wpAny (model X.prog X.w) X.A (isTrue e X.env (eval e X.env)) (TP X pins σ Q) X.xe s
def PW (X:Cx) (e:Expr) (t:TT):Prop:=
 ∀ (whole:Sem Value) (pins:List (Addr × Obj)) (s:Shared) (σ:St) (H:Hp) (Q:Bool -> Hp -> Prop),Inv X pins σ H s -> t σ H Q -> wpAny (model X.prog X.w) X.A (isTrue e X.env whole) (TP X pins σ Q) X.xe s
theorem PW.pt {X:Cx} {e:Expr} {t:TT} (h:PW X e t):PT X e t:=h _
def PA (X:Cx) (es:List Expr) (t:TA):Prop:=
 ∀ (pos:Pos) (pins:List (Addr × Obj)) (s:Shared) (σ:St) (H:Hp) (Q:List V -> Hp -> Prop),Inv X pins σ H s -> t σ H Q -> wpAny (model X.prog X.w) X.A (spliced (backTo pos (starEach es X.env))) (AP X pins σ Q) X.xe s
def PS (X:Cx) (st:Stmt) (t:TS):Prop:=
 ∀ (pins:List (Addr × Obj)) (s:Shared) (σ:St) (H:Hp) (D:Ends),Inv X pins σ H s -> t D σ H -> wpAny (model X.prog X.w) X.A (exec st X.env) (SP X pins D) X.xe s
def PSs (X:Cx) (st:List Stmt) (t:TS):Prop:=
 ∀ (pins:List (Addr × Obj)) (s:Shared) (σ:St) (H:Hp) (D:Ends),Inv X pins σ H s -> t D σ H -> wpAny (model X.prog X.w) X.A (execs st X.env) (SP X pins D) X.xe s
theorem thn {α:Type} {t:Sem α} {Q Q':α -> Shared -> Prop} {M:Model} {A:Around} {E:Value -> Shared -> Prop} {s:Shared} (h:wpAny M A t Q E s) (hQ:∀ a s,Q a s -> Q' a s):wpAny M A t Q' E s:=wpAny_mono h hQ fun _ _ x=>x
section
variable {X:Cx}
def tVar (i:Nat):TE:=fun σ H Q=>∃ v,σ[i]? = some (some v) /\ Q v H
def tC (v:V):TE:=fun _ H Q=>Q v H
theorem ao0 {i:Nat} {x:Str} {pos:Pos} (hN:X.N[i]? = some x) (hv:Vis X.env.scope x) (hd:(x == ("__debug__" : Str))=false:=by decide) (hcd:(x == ("__classdict__" : Str))=false:=by decide):PE X (.Name x pos) (tVar i):=by
 intro pins s σ H Q I h
 obtain ⟨v,e,h⟩:=h
 obtain ⟨m,hn,hl⟩:=I.loc
 obtain ⟨u,r,l⟩:=hl i x v hN e hv
 have fin:EP X pins σ Q u s:=⟨v,H,I,r,h⟩
 rcases l with ⟨hk,hm⟩ | ⟨hk,c,hc,hcell⟩
 ·exact wpAny_Name (wpAny_loadName_local I.ok.kind hk hn hm fin) hd
 ·rcases hk with hk | hk
  ·exact wpAny_Name (wpAny_loadName_cell I.ok.kind hk hc hcell fin) hd
  ·exact wpAny_Name (wpAny_loadName_free I.ok.kind hk hc hcell fin hcd) hd
theorem an4 {i j pos}:PE X (.Constant (.int i) j pos) (tC (.int i)):=fun _ _ _ H _ I h=>wpAny_Constant_int ⟨.int i,H,I.tok _,⟨_,rfl⟩,h⟩
theorem a26 {b j pos}:PE X (.Constant (.bool b) j pos) (tC (.bl b)):=fun _ _ _ H _ I h=>Constant_bool ⟨.bl b,H,I,rfl,h⟩
theorem an6 {j pos}:PE X (.Constant .none j pos) (tC .non):=fun _ _ _ H _ I h=>Constant_none ⟨.non,H,I,rfl,h⟩
theorem an8 {x j pos}:PE X (.Constant (.str x) j pos) (tC (.str x)):=fun _ _ _ H _ I h=>Calls.Constant_str ⟨.str x,H,I.tok _,⟨_,rfl⟩,h⟩
def Gl (X:Cx) (x:Str):Prop:=X.env.kindOf x=some .globalImplicit
theorem Cs {E:Value -> Shared -> Prop} {pins:List (Addr × Obj)} {s:Shared} {σ:St} {H:Hp} {x:Str} {u:Value} {pos:Pos} {Q:Value -> Shared -> Prop} (I:Inv X pins σ H s) (hg:Gl X x) (hm:X.mg x=some u) (h:Q u s)
  (hd:(x == ("__debug__" : Str))=false:=by decide):wpAny (model X.prog X.w) X.A (eval (.Name x pos) X.env) Q E s:=
 Calls.Name_function_global I.ok.kind hg (Calls.loadGlobal_global (by rw [I.ok.glob];exact I.mod.glob.keeps I.bk) hm h) hd
theorem Er {E:Value -> Shared -> Prop} {pins:List (Addr × Obj)} {s:Shared} {σ:St} {H:Hp} {x:Str} {u:Value} {pos:Pos} {Q:Value -> Shared -> Prop} (I:Inv X pins σ H s) (hg:Gl X x) (hm:X.mg x=none) (hv:bootBuiltins x=some u) (h:Q u s)
  (hn:x ≠ "__name__" := by decide) (hd:(x == ("__debug__" : Str))=false:=by decide):wpAny (model X.prog X.w) X.A (eval (.Name x pos) X.env) Q E s:=by
 obtain ⟨mb,h1,h2⟩:=I.mod.blt
 exact Calls.Name_function_global I.ok.kind hg (Calls.loadGlobal_builtin (by rw [I.ok.glob];exact I.mod.glob.keeps I.bk) hm (by rw [I.ok.blt];exact h1.keeps I.bk) ((h2 x hn).trans hv) h) hd
theorem Mf {x:Str} {v:V} {u:Value} {pos:Pos} (hg:Gl X x) (hm:X.mg x=some u) (r:RelV v u) (hd:(x == ("__debug__" : Str))=false:=by decide):PE X (.Name x pos) (tC v):=
 fun _ _ _ H _ I h=>Cs I hg hm ⟨v,H,I,r,h⟩ hd
theorem Zy {x:Str} {v:V} {u:Value} {pos:Pos} (hg:Gl X x) (hm:X.mg x=none) (hv:bootBuiltins x=some u) (r:RelV v u) (hn:x ≠ "__name__" := by decide) (hd:(x == ("__debug__" : Str))=false:=by decide):PE X (.Name x pos) (tC v):=
 fun _ _ _ H _ I h=>Er I hg hm hv ⟨v,H,I,r,h⟩ hn hd
variable {a b:Expr} {ta tb:TE} {pos:Pos}
variable {tA tB':TT} {rest:List Expr}
def tAnd (t u:TT):TT:=fun σ H Q=>t σ H fun c H1=>if c=true then u σ H1 Q else Q false H1
def tOr (t u:TT):TT:=fun σ H Q=>t σ H fun c H1=>if c=true then Q true H1 else u σ H1 Q
def tNot (t:TT):TT:=fun σ H Q=>t σ H fun c H1=>Q (!c) H1
theorem Z9 (ha:PT X a tA):PW X (.BoolOp .And [a] pos) tA:=by
 intro wh pins s σ H Q I h
 refine isTrue_and (thn (ha pins s σ H Q I h) fun c s1 e=>?_)
 cases c with
 | true=>exact isTrue_and_nil e
 | false=>exact e
theorem ao8 (ha:PT X a tA):PW X (.BoolOp .Or [a] pos) tA:=by
 intro wh pins s σ H Q I h
 refine isTrue_or (thn (ha pins s σ H Q I h) fun c s1 e=>?_)
 cases c with
 | false=>exact isTrue_or_nil e
 | true=>exact e
theorem ao7 (ha:PT X a tA) (hb:PW X (.BoolOp .And (b :: rest) pos) tB'):PW X (.BoolOp .And (a :: b :: rest) pos) (tAnd tA tB'):=by
 intro wh pins s σ H Q I h
 refine isTrue_and (thn (ha pins s σ H _ I h) fun c s1 ⟨H1,I1,q1⟩=>?_)
 cases c with
 | true=>exact hb wh pins s1 σ H1 Q I1 q1
 | false=>exact ⟨H1,I1,q1⟩
theorem a32 (ha:PT X a tA) (hb:PW X (.BoolOp .Or (b :: rest) pos) tB'):PW X (.BoolOp .Or (a :: b :: rest) pos) (tOr tA tB'):=by
 intro wh pins s σ H Q I h
 refine isTrue_or (thn (ha pins s σ H _ I h) fun c s1 ⟨H1,I1,q1⟩=>?_)
 cases c with
 | true=>exact ⟨H1,I1,q1⟩
 | false=>exact hb wh pins s1 σ H1 Q I1 q1
theorem ao6 (ha:PT X a tA):PT X (.UnaryOp .Not a pos) (tNot tA):=by
 intro pins s σ H Q I h
 exact isTrue_not (ha pins s σ H (fun c H1=>Q (!c) H1) I h)
theorem an7 {op} {t:TE} (h:PE X a t):PE X (.BoolOp op [a] pos) t:=fun pins s σ H Q I hw=>BoolOp_one (h pins s σ H Q I hw)
def tIf (t:TT) (ta tb:TE):TE:=fun σ H Q=>t σ H fun c H1=>if c=true then ta σ H1 Q else tb σ H1 Q
theorem Xe {c:Expr} (hc:PT X c tA) (ha:PE X a ta) (hb:PE X b tb):PE X (.IfExp c a b pos) (tIf tA ta tb):=by
 intro pins s σ H Q I h
 refine wpAny_IfExp (thn (hc pins s σ H _ I h) fun d s1 ⟨H1,I1,q1⟩=>?_)
 cases d with
 | true=>exact ha pins s1 σ H1 Q I1 q1
 | false=>exact hb pins s1 σ H1 Q I1 q1
end
def SqL (K:PySem.W.Frag) (H:Hp) (a:Addr) (xs:List V):Prop:=
 Rd H a (.lst xs) \/
  ∃ (o:Obj) (its:Array Value) (n:Nat),K.lookup a=some o /\ o.cls = .type "list" /\ o.dict=none /\ o.data = .seq its n /\ its.size <= sizeLine /\ Vals xs its.toList
def SqT (K:PySem.W.Frag) (H:Hp) (a:Addr) (xs:List V):Prop:=
 Rd H a (.tup xs) \/
  ∃ (o:Obj) (its:Array Value) (n:Nat),K.lookup a=some o /\ o.cls = .type "tuple" /\ o.data = .seq its n /\ its.size <= sizeLine /\ Vals xs its.toList
def absV:Value -> Option V
 | .none=>some .non
 | .bool b=>some (.bl b)
 | .int i _=>some (.int i)
 | .str x _=>some (.str x)
 | .bytes b _=>some (.byt b)
 | .float b _=>some (.flt b)
 | .ref a=>some (.ref a)
 | .type n=>some (.ty n)
 | _=>none
theorem RelV.abs {x:V} {u:Value} (r:RelV x u):absV u=some x:=by
 cases x with
 | non=>cases r;rfl
 | bl _=>cases r;rfl
 | int _=>obtain ⟨t,rfl⟩:=r;rfl
 | str _=>obtain ⟨t,rfl⟩:=r;rfl
 | byt _=>obtain ⟨t,rfl⟩:=r;rfl
 | flt _=>obtain ⟨t,rfl⟩:=r;rfl
 | ref _=>cases r;rfl
 | ty _=>cases r;rfl
theorem RelV.inj {x y:V} {u:Value} (r:RelV x u) (q:RelV y u):x=y:=Option.some.inj (r.abs.symm.trans q.abs)
theorem Vals.inj:∀ {xs ys:List V} {us:List Value},Vals xs us -> Vals ys us -> xs=ys
 | _,_,_,.nil,.nil=>rfl
 | _,_,_,.cons r t,.cons r' t'=>by rw [r.inj r',Vals.inj t t']
section
variable {X:Cx} {pins:List (Addr × Obj)} {σ:St} {H:Hp} {s:Shared} {a:Addr} {xs ys:List V}
theorem SqL.of {K:PySem.W.Frag} (h:H a=some (.lst xs)):SqL K H a xs:=.inl (.inl h)
theorem SqT.of {K:PySem.W.Frag} (h:H a=some (.tup xs)):SqT K H a xs:=.inl (.inl h)
theorem Inv.list (I:Inv X pins σ H s) (h:SqL X.K H a xs):∃ its:List Value,Vals xs its /\ PlainL s.heap a its.toArray /\ xs.length <= sizeLine:=by
 rcases h with h | ⟨o,its,n,hk,hc,hd,hs,hz,r⟩
 ·obtain ⟨z,its,n,r,e⟩:=h.ok I.hok
  exact ⟨its,r,⟨_,n,e,rfl,rfl,rfl⟩,z⟩
 ·refine ⟨its.toList,r,⟨o,n,I.kIn a o hk,hc,hd,by simpa using hs⟩,?_⟩
  have e:=r.length
  simp only [Array.length_toList] at e
  omega
theorem Inv.tuple (I:Inv X pins σ H s) (h:SqT X.K H a xs):∃ its:List Value,Vals xs its /\ IsTup s.heap a its.toArray /\ xs.length <= sizeLine:=by
 rcases h with h | ⟨o,its,n,hk,hc,hs,hz,r⟩
 ·obtain ⟨z,its,r,p⟩:=h.ok I.hok
  exact ⟨its,r,p,z⟩
 ·refine ⟨its.toList,r,⟨o,I.kIn a o hk,hc,n,by simpa using hs⟩,?_⟩
  have e:=r.length
  simp only [Array.length_toList] at e
  omega
theorem Inv.list_inj (I:Inv X pins σ H s) (h:SqL X.K H a xs) (h':SqL X.K H a ys):xs=ys:=by
 obtain ⟨its,r,⟨o,n,e,_,_,d⟩,_⟩:=I.list h
 obtain ⟨its',r',⟨o',n',e',_,_,d'⟩,_⟩:=I.list h'
 rw [e] at e';cases e'
 rw [d] at d'
 injection d' with d1 _
 have:its=its':=by simpa using congrArg Array.toList d1
 subst this
 exact r.inj r'
theorem Inv.tuple_inj (I:Inv X pins σ H s) (h:SqT X.K H a xs) (h':SqT X.K H a ys):xs=ys:=by
 obtain ⟨its,r,⟨o,e,_,n,d⟩,_⟩:=I.tuple h
 obtain ⟨its',r',⟨o',e',_,n',d'⟩,_⟩:=I.tuple h'
 rw [e] at e';cases e'
 rw [d] at d'
 injection d' with d1 _
 have:its=its':=by simpa using congrArg Array.toList d1
 subst this
 exact r.inj r'
end
abbrev Cx.wish (X:Cx) (E:Value -> Shared -> Prop):Cx:={ X with xe:=E }
abbrev Cx.nox (X:Cx):Cx:=X.wish fun _ _=>False
theorem Cx.Ok.wish {X:Cx} (ok:X.Ok) (E:Value -> Shared -> Prop):(X.wish E).Ok:=
 ⟨ok.mod,ok.kind,ok.glob,ok.blt,ok.above,ok.inj,ok.has,ok.cab,ok.hd,ok.frames,ok.stk,ok.exf,ok.bs,ok.bsz,ok.noex,ok.exfs,ok.funs,ok.frf⟩
theorem Cx.Ok.unwish {X:Cx} {E:Value -> Shared -> Prop} (ok:(X.wish E).Ok):X.Ok:=
 ⟨ok.mod,ok.kind,ok.glob,ok.blt,ok.above,ok.inj,ok.has,ok.cab,ok.hd,ok.frames,ok.stk,ok.exf,ok.bs,ok.bsz,ok.noex,ok.exfs,ok.funs,ok.frf⟩
section
variable {X:Cx} {pins:List (Addr × Obj)} {σ:St} {H:Hp} {s:Shared} {E:Value -> Shared -> Prop}
theorem Inv.wish (I:Inv X pins σ H s) (E:Value -> Shared -> Prop):Inv (X.wish E) pins σ H s:=⟨I.ok.wish E,I.os,I.bare,I.base,I.loc,I.cell,I.free,I.freeC,I.pin,I.hok,I.len⟩
theorem Inv.unwish (I:Inv (X.wish E) pins σ H s):Inv X pins σ H s:=⟨I.ok.unwish,I.os,I.bare,I.base,I.loc,I.cell,I.free,I.freeC,I.pin,I.hok,I.len⟩
theorem SP.unwish {D:Ends} {f:Flow} {s':Shared} (h:SP (X.wish E) pins D f s'):SP X pins D f s':=by
 cases f with
 | next=>obtain ⟨σ',H',I,q⟩:=h;exact ⟨σ',H',I.unwish,q⟩
 | brk=>obtain ⟨σ',H',I,q⟩:=h;exact ⟨σ',H',I.unwish,q⟩
 | cont=>obtain ⟨σ',H',I,q⟩:=h;exact ⟨σ',H',I.unwish,q⟩
 | ret u=>obtain ⟨v,σ',H',I,r,q⟩:=h;exact ⟨v,σ',H',I.unwish,r,q⟩
theorem PSs.nox {st:List Stmt} {t:TS} (h:PSs X.nox st t):PSs X st t:=fun pins s σ H D I hw=>
 wpAny_mono (h pins s σ H D (I.wish _) hw) (fun _ _ q=>q.unwish) fun _ _ z=>False.elim z
end
section
variable {X:Cx} {st:Stmt} {rest:List Stmt} {t u:TS} {e:Expr} {te:TE} {pos:Pos}
def ah6:TS:=fun D σ H=>D.nx σ H
def tSeq (t u:TS):TS:=fun D σ H=>t { D with nx:=u D } σ H
theorem Z8:PSs X [] ah6:=fun _ _ σ H _ I h=>wpAny_execs_nil ⟨σ,H,I,h⟩
theorem Xp (h1:PS X st t) (h2:PSs X rest u):PSs X (st :: rest) (tSeq t u):=by
 intro pins s σ H D I h
 refine wpAny_execs_cons (thn (h1 pins s σ H { D with nx:=u D } I h) fun f s1 q=>?_)
 cases f with
 | next=>
  obtain ⟨σ',H',I',q⟩:=q
  exact h2 pins s1 σ' H' D I' q
 | ret v=>exact q
 | brk=>exact q
 | cont=>exact q
def av8:TS:=fun D σ H=>D.bk σ H
def a97:TS:=fun D σ H=>D.ct σ H
theorem Z6:PS X (.Pass pos) ah6:=fun _ _ σ H _ I h=>wpAny_Pass ⟨σ,H,I,h⟩
theorem Xn:PS X (.Break pos) av8:=fun _ _ σ H _ I h=>wpAny_Break ⟨σ,H,I,h⟩
theorem Oc:PS X (.Continue pos) a97:=fun _ _ σ H _ I h=>wpAny_Continue ⟨σ,H,I,h⟩
theorem Inv.quiet {pins:List (Addr × Obj)} {σ:St} {H:Hp} {s:Shared} (I:Inv X pins σ H s):interactive X.env=false:=by simp [interactive,I.ok.kind]
def a99 (te:TE):TS:=fun D σ H=>te σ H fun _ H1=>D.nx σ H1
theorem Z5 (he:PE X e te) (hs:swapsWith e none pos.line X.env=pure false:=by rfl):PS X (.Expr e pos) (a99 te):=by
 intro pins s σ H D I h
 exact wpAny_Expr_any (thn (he pins s σ H _ I h) fun v s1 ⟨x,H1,I1,r1,q1⟩=>⟨σ,H1,I1,q1⟩) I.quiet hs
def tRet (te:TE):TS:=fun D σ H=>te σ H D.rt
theorem ao4 (he:PE X e te):PS X (.Return (some e) pos) (tRet te):=by
 intro pins s σ H D I h
 exact wpAny_Return_some (thn (he pins s σ H _ I h) fun v s1 ⟨x,H1,I1,r1,q1⟩=>⟨x,σ,H1,I1,r1,q1⟩)
def ba0:TS:=fun D _ H=>D.rt .non H
theorem Z7:PS X (.Return none pos) ba0:=fun _ _ σ H _ I h=>wpAny_Return_none ⟨.non,σ,H,I,rfl,h⟩
def tIfS (c:TT) (t u:TS):TS:=fun D σ H=>c σ H fun b H1=>if b=true then t D σ H1 else u D σ H1
theorem a31 {c:Expr} {a b:List Stmt} {tc:TT} (hc:PT X c tc) (ha:PSs X a t) (hb:PSs X b u):PS X (.If c a b pos) (tIfS tc t u):=by
 intro pins s σ H D I h
 refine wpAny_If (thn (hc pins s σ H _ I h) fun d s1 ⟨H1,I1,q1⟩=>?_)
 cases d with
 | true=>exact ha pins s1 σ H1 D I1 q1
 | false=>exact hb pins s1 σ H1 D I1 q1
end
abbrev TG:=V -> St -> Hp -> (St -> Hp -> Prop) -> Prop
abbrev TGs:=List V -> St -> Hp -> (St -> Hp -> Prop) -> Prop
def PG (X:Cx) (target:Expr) (t:TG):Prop:=
 ∀ (pins:List (Addr × Obj)) (s:Shared) (σ:St) (H:Hp) (v:V) (u:Value) (Q:St -> Hp -> Prop),Inv X pins σ H s -> RelV v u -> t v σ H Q ->
  wpAny (model X.prog X.w) X.A (assign target X.env u) (fun _ s'=>∃ σ' H',Inv X pins σ' H' s' /\ Q σ' H') X.xe s
def PGs (X:Cx) (ts:List Expr) (t:TGs):Prop:=
 ∀ (pins:List (Addr × Obj)) (s:Shared) (σ:St) (H:Hp) (vs:List V) (us:List Value) (Q:St -> Hp -> Prop),Inv X pins σ H s -> Vals vs us -> t vs σ H Q ->
  wpAny (model X.prog X.w) X.A (assignInOrder ((assignEach ts X.env).map (·.2)) us) (fun _ s'=>∃ σ' H',Inv X pins σ' H' s' /\ Q σ' H') X.xe s
abbrev TSet:=V -> V -> V -> Hp -> (Hp -> Prop) -> Prop
def PSet (X:Cx) (t:TSet):Prop:=
 ∀ (pins:List (Addr × Obj)) (s:Shared) (σ:St) (H:Hp) (o i v:V) (ov iv u:Value) (Q:Hp -> Prop),Inv X pins σ H s -> RelV o ov -> RelV i iv -> RelV v u -> t o i v H Q ->
  wpAny (model X.prog X.w) X.A (setItem ov iv u) (fun _ s'=>∃ H',Inv X pins σ H' s' /\ Q H') X.xe s
section
variable {X:Cx} {pos:Pos}
def Wk (i:Nat):TG:=fun v σ H Q=>Q (σ.set i (some v)) H
theorem Z1 {i:Nat} {x:Str} (hN:X.N.Nodup) (hi:X.N[i]? = some x) (hx:Loc X.env.scope x) (hf:X.fn x=true \/ X.env.scope.names.lookup x=some .local:=by first | exact .inl rfl | exact .inr rfl | assumption):PG X (.Name x pos) (Wk i):=by
 intro pins s σ H v u Q I r h
 exact wpAny_assign_Name (Fp I hN hi hx r (fun s' I'=>⟨_,H,I',h⟩) hf)
def gNil:TGs:=fun vs σ H Q=>vs=[] /\ Q σ H
def ay8 (t:TG) (u:TGs):TGs:=fun vs σ H Q=>∃ v r,vs=v :: r /\ t v σ H fun σ' H'=>u r σ' H' Q
theorem Z2:PGs X [] gNil:=by
 intro pins s σ H vs us Q I r h
 obtain ⟨e,h⟩:=h
 subst e
 cases r
 exact assignInOrder_nil ⟨σ,H,I,h⟩
theorem Xf {e:Expr} {es:List Expr} {t:TG} {u:TGs} (h1:PG X e t) (h2:PGs X es u)
  (hs:(assignEach (e :: es) X.env).map (·.2)=assign e X.env :: (assignEach es X.env).map (·.2):=by rfl):PGs X (e :: es) (ay8 t u):=by
 intro pins s σ H vs us Q I r h
 obtain ⟨v,vr,e1,h⟩:=h
 subst e1
 cases r with
 | cons r rr=>
  rw [hs]
  refine assignInOrder_cons (thn (h1 pins s σ H _ _ _ I r h) fun _ s1 ⟨σ1,H1,I1,q1⟩=>?_)
  exact h2 pins s1 σ1 H1 _ _ Q I1 rr q1
def gTup (K:PySem.W.Frag) (n:Nat) (t:TGs):TG:=fun v σ H Q=>∃ a xs,v = .ref a /\ SqT K H a xs /\ xs.length=n /\ t xs σ H Q
theorem ao2 {es:List Expr} {k:Nat} {t:TGs} {n:Nat} (hc:X.calm=true) (h:PGs X es t)
  (hn:(assignEach es X.env).length=n:=by rfl) (hst:(assignEach es X.env).findIdx? (·.1)=none:=by rfl):PG X (.Tuple es k pos) (gTup X.K n t):=by
 intro pins s σ H v u Q I r hw
 obtain ⟨a,xs,e1,hq,hl,hw⟩:=hw
 subst e1
 cases r
 obtain ⟨its,rv,ht,hz⟩:=I.tuple hq
 refine assign_Tuple_tuple (I.ok.hd hc) ht (by simp [hn,<- hl,rv.length]) hst fun h' hx=>?_
 have I1:Inv X pins σ H { s with heap:=h' }:=I.kept (t':=s.toks) fun b o e=>hx b o (Nat.ne_of_lt (Heap.lt_size e)) e
 exact h pins _ σ H xs _ Q I1 (by simpa using rv) hw
def gSub (to ti:TE) (t:TSet):TG:=fun v σ H Q=>to σ H fun o H1=>ti σ H1 fun i H2=>t o i v H2 fun H3=>Q σ H3
theorem ao1 {o i:Expr} {to ti:TE} {t:TSet} (ho:PE X o to) (hi:PE X i ti) (hs:PSet X t)
  (ha:∀ v,assign (.Subscript o i pos) X.env v=(do
   let ov <- holding [v] (eval o X.env)
   let iv <- holding [v,ov] (eval i X.env)
   standAt pos
   holding [v,ov,iv] (setItem ov iv v)
   release [v,ov,iv] []):=by intro _;rfl):PG X (.Subscript o i pos) (gSub to ti t):=by
 intro pins s σ H v u Q I r h
 rw [ha]
 refine wpAny_bind (wpAny_holding (thn (ho pins s σ H _ I h) fun ov s1 ⟨x,H1,I1,r1,q1⟩=>?_))
 refine wpAny_bind (wpAny_holding (thn (hi pins s1 σ H1 _ I1 q1) fun iv s2 ⟨y,H2,I2,r2,q2⟩=>?_))
 refine wpAny_bind (wpAny_standAt (wpAny_bind (wpAny_holding (thn (hs pins s2 σ H2 x y v ov iv u _ I2 r1 r2 r q2) fun _ s3 ⟨H3,I3,q3⟩=>?_))))
 exact wpAny_release ⟨σ,H3,I3,q3⟩
def tAsg (te:TE) (g:TG):TS:=fun D σ H=>te σ H fun x H1=>g x σ H1 D.nx
theorem Xm {tg e:Expr} {te:TE} {g:TG} (he:PE X e te) (hg:PG X tg g) (hs:swapsWithSole [tg] e pos.line X.env=pure false:=by rfl) (hw:swappedStores [tg] e X.env=pure none:=by rfl)
  (h1:(assignEach [tg] X.env).map (·.2)=[assign tg X.env]:=by rfl):PS X (.Assign [tg] e pos) (tAsg te g):=by
 intro pins s σ H D I h
 refine wpAny_Assign_stores (thn (he pins s σ H _ I h) fun v s1 ⟨x,H1,I1,r1,q1⟩=>?_) hs hw
 rw [h1]
 exact thn (hg pins s1 σ H1 x v _ I1 r1 q1) fun _ s2 q=>q
theorem ao5 {i:Nat} {x:Str} {e:Expr} {te:TE} {pos':Pos} (hN:X.N.Nodup) (hi:X.N[i]? = some x) (hx:Loc X.env.scope x) (he:PE X e te) (hs:swapsWith e (some (.Name x pos')) pos.line X.env=pure false:=by rfl) (hf:X.fn x=true \/ X.env.scope.names.lookup x=some .local:=by first | exact .inl rfl | exact .inr rfl | assumption) :
  PS X (.Assign [.Name x pos'] e pos) (tAsg te (Wk i)):=by
 intro pins s σ H D I h
 refine wpAny_Assign_Name (thn (he pins s σ H _ I h) fun v s1 ⟨y,H1,I1,r1,q1⟩=>?_) hs
 exact Fp I1 hN hi hx r1 (fun s2 I2=>⟨_,H1,I2,q1⟩) hf
end
structure It where
 go:Nat -> Hp -> Prop
 yld:Nat -> Hp -> V -> Hp -> Prop
 stop:Nat -> Hp -> Prop
def FpOk (X:Cx) (pins:List (Addr × Obj)) (H:Hp) (b:Addr):Prop:=
 H b=none /\ b ≠ X.env.locals /\ b ∉ X.fs /\ (b ∈ X.ex \/ X.s₀.heap.objs.size <= b) /\ (∀ x c,X.env.cells.lookup x=some c -> c ≠ b) /\ ∀ p ∈ X.pn ++ pins,p.1 ≠ b
theorem Inv.fpOk {X:Cx} {pins:List (Addr × Obj)} {σ:St} {H H':Hp} {s:Shared} {b:Addr} (I:Inv X pins σ H s) (hb:s.heap.objs.size <= b) (hn:H' b=none):FpOk X pins H' b:=by
 refine ⟨hn,Nat.ne_of_gt (Nat.lt_of_lt_of_le I.lt hb),I.nofs hb,.inr (Nat.le_trans I.sz hb),fun x c e z=>?_,fun p hp z=>?_⟩
 ·obtain ⟨v,q⟩:=I.cell x c e
  exact absurd (Nat.lt_of_lt_of_le q.lt (by rw [z];exact hb)) (Nat.lt_irrefl _)
 ·exact absurd (Nat.lt_of_lt_of_le (Heap.lt_size (I.pin p hp).1) (by rw [z];exact hb)) (Nat.lt_irrefl _)
structure Turn (P:Program) (w:World) (K:PySem.W.Frag) (tg:Expr) (J:It) (fp:List Addr) (it:Addr) (tn:Nat -> Heap -> Prop):Prop where
 mem:it ∈ fp
 obj:∀ i h,tn i h -> ∀ b ∈ fp,∃ o,h.get? b=some o /\ ∀ v,o.data ≠ .cell v
 keep:∀ i h h',tn i h -> (∀ b ∈ fp,∀ o,h.get? b=some o -> h'.get? b=some o) -> tn i h'
 item:∀ (X:Cx),X.prog=P -> X.w=w -> X.K=K -> X.calm=true -> ∀ (i:Nat) (pins:List (Addr × Obj)) (s:Shared) (σ:St) (H:Hp) (E:Value -> Shared -> Prop),Inv X pins σ H s -> (∀ b ∈ fp,FpOk X pins H b) -> tn i s.heap -> J.go i H ->
  wpAny (model P w) X.A (pyNext (.ref it)) (fun r s1=>∃ u,r=some u /\
   wpAny (model P w) X.A (letOwnedTupleGo tg (.ref it) u) (fun _ s2=>∃ x H',Inv X pins σ H' s2 /\ RelV x u /\ J.yld i H x H' /\ tn (i + 1) s2.heap /\ ∀ b ∈ fp,H' b=none) E s1) E s
 done:∀ (X:Cx),X.prog=P -> X.w=w -> X.K=K -> X.calm=true -> ∀ (i:Nat) (pins:List (Addr × Obj)) (s:Shared) (σ:St) (H:Hp) (E:Value -> Shared -> Prop),Inv X pins σ H s -> (∀ b ∈ fp,FpOk X pins H b) -> tn i s.heap -> J.stop i H ->
  wpAny (model P w) X.A (pyNext (.ref it)) (fun r s1=>r=none /\ Inv X pins σ H s1) E s
 self:∀ (A:Around) (i:Nat) (s:Shared) (Q:Value -> Shared -> Prop) (E:Value -> Shared -> Prop),tn i s.heap -> Q (.ref it) s -> wpAny (model P w) A (pyIter (.ref it)) Q E s
abbrev TI:=St -> Hp -> (It -> Hp -> Prop) -> Prop
def PIE (X:Cx) (pins:List (Addr × Obj)) (σ:St) (tg:Expr) (R:It -> Hp -> Prop) (itv:Value) (s2:Shared):Prop:=
 ∃ (it:Addr) (fp:List Addr) (tn:Nat -> Heap -> Prop) (J:It) (H':Hp),itv = .ref it /\ Inv X pins σ H' s2 /\ Turn X.prog X.w X.K tg J fp it tn /\ tn 0 s2.heap /\ (∀ b ∈ fp,FpOk X pins H' b) /\ R J H'
def PI (X:Cx) (tg iter:Expr) (wi:TI):Prop:=
 ∀ (pins:List (Addr × Obj)) (s:Shared) (σ:St) (H:Hp) (R:It -> Hp -> Prop),Inv X pins σ H s -> wi σ H R ->
  wpAny (model X.prog X.w) X.A (eval iter X.env) (fun v s1=>wpAny (model X.prog X.w) X.A (pyIter v) (PIE X pins σ tg R) X.xe s1) X.xe s
theorem Kv {M:Model} {A:Around} {E:Value -> Shared -> Prop} {s:Shared} {tg:Expr} {it:Addr} {u:Value} {o:Obj} {n:String} {vs:Array Value} {Q:Unit -> Shared -> Prop} (ho:s.heap.get? it=some o) (hc:o.cls = .type n) (hd:o.data = .fields vs)
    (hn:["enumerate", "zip", "dict_itemiterator", "dict_reverseitemiterator", "odict_iterator", "itertools.zip_longest", "itertools.pairwise"].contains n=false) (hQ:Q () s):wpAny M A (letOwnedTupleGo tg (.ref it) u) Q E s:=by
  unfold letOwnedTupleGo
  cases tg <;> first
    | exact wpAny_pure hQ
    | (cases u <;> first
        | exact wpAny_pure hQ
        | (refine wpAny_bind (wpAny_load ho ?_)
           rw [hc,hd]
           show wpAny M A (if (["enumerate", "zip", "dict_itemiterator", "dict_reverseitemiterator", "odict_iterator", "itertools.zip_longest", "itertools.pairwise"].contains n && vs[0]? == some (rawInt _))=true then _ else _) Q E s
           rw [if_neg (by intro h;rw [hn,Bool.false_and] at h;cases h)]
           exact wpAny_pure hQ))
def Itl (K:PySem.W.Frag) (a:Addr):It:=
 ⟨fun i H=>∃ xs x,SqL K H a xs /\ xs[i]? = some x,fun i H x H'=>H' = H /\ ∀ xs,SqL K H a xs -> xs[i]? = some x,fun i H=>∃ xs,SqL K H a xs /\ xs.length <= i⟩
def Itt (K:PySem.W.Frag) (a:Addr):It:=
 ⟨fun i H=>∃ xs x,SqT K H a xs /\ xs[i]? = some x,fun i H x H'=>H' = H /\ ∀ xs,SqT K H a xs -> xs[i]? = some x,fun i H=>∃ xs,SqT K H a xs /\ xs.length <= i⟩
def Itr (lo:Int) (n:Nat):It:=⟨fun i _=>i < n,fun i H x H'=>H' = H /\ x = .int (lo + i),fun i _=>n <= i⟩
theorem Va {P:Program} {w:World} {K:PySem.W.Frag} {tg:Expr} (a it:Addr):Turn P w K tg (Itl K a) [it] it (fun i h=>h.IsListIter it a i) where
 mem:=by simp
 obj:=fun i h st b hb=>by
  have e:b=it:=by simpa using hb
  subst e
  obtain ⟨o,e,c,d⟩:=st
  exact ⟨o,e,fun v z=>by rw [d] at z;cases z⟩
 keep:=fun i h h' st k=>st.at fun o e=>k it (by simp) o e
 item:=by
  intro X hP hw hK hc i pins s σ H E I hf st hg
  subst hP hw hK
  obtain ⟨xs,x,hq,hx⟩:=hg
  obtain ⟨its,rv,p,hz⟩:=I.list hq
  obtain ⟨u,hu,ru⟩:=rv.get hx
  obtain ⟨f0,f1,f2,f3,f4,f5⟩:=hf it (by simp)
  refine wpAny_pyNext_list_item st p.isList (x:=u) (by simpa using hu) fun h' st' sb=>?_
  have I1:Inv X pins σ H { s with heap:=h' }:=I.turned (t':=s.toks) (fun b o hb e=>(sb.2 b hb).trans e) f0 f1 f3 f4 f5
  obtain ⟨o,e,c,d⟩:=id st'
  exact ⟨u,rfl,Kv (s:={ s with heap:=h' }) e c d (by decide) ⟨x,H,I1,ru,⟨rfl,fun ys hy=>by rw [I.list_inj hy hq];exact hx⟩,st',fun b hb=>(hf b hb).1⟩⟩
 done:=by
  intro X hP hw hK hc i pins s σ H E I hf st hg
  subst hP hw hK
  obtain ⟨xs,hq,hx⟩:=hg
  obtain ⟨its,rv,p,hz⟩:=I.list hq
  obtain ⟨f0,f1,f2,f3,f4,f5⟩:=hf it (by simp)
  have hl:=rv.length
  exact wpAny_pyNext_list_end (I.ok.hd hc) st p.isList (by simp;omega) fun h' eb=>⟨rfl,I.turned (t':=s.toks) (fun b o hb e=>eb b o hb e) f0 f1 f3 f4 f5⟩
 self:=fun _ _ _ _ _ st h=>wpAny_pyIter_listiter st h
theorem Qq {P:Program} {w:World} {K:PySem.W.Frag} {tg:Expr} (a it:Addr):Turn P w K tg (Itt K a) [it] it (fun i h=>h.IsTupleIter it a i) where
 mem:=by simp
 obj:=fun i h st b hb=>by
  have e:b=it:=by simpa using hb
  subst e
  obtain ⟨o,e,c,d⟩:=st
  exact ⟨o,e,fun v z=>by rw [d] at z;cases z⟩
 keep:=fun i h h' st k=>st.at fun o e=>k it (by simp) o e
 item:=by
  intro X hP hw hK hc i pins s σ H E I hf st hg
  subst hP hw hK
  obtain ⟨xs,x,hq,hx⟩:=hg
  obtain ⟨its,rv,p,hz⟩:=I.tuple hq
  obtain ⟨u,hu,ru⟩:=rv.get hx
  obtain ⟨f0,f1,f2,f3,f4,f5⟩:=hf it (by simp)
  refine wpAny_pyNext_tuple_item st (show s.heap.IsTuple a its.toArray from p) (x:=u) (by simpa using hu) fun h' st' sb=>?_
  have I1:Inv X pins σ H { s with heap:=h' }:=I.turned (t':=s.toks) (fun b o hb e=>(sb.2 b hb).trans e) f0 f1 f3 f4 f5
  obtain ⟨o,e,c,d⟩:=id st'
  exact ⟨u,rfl,Kv (s:={ s with heap:=h' }) e c d (by decide) ⟨x,H,I1,ru,⟨rfl,fun ys hy=>by rw [I.tuple_inj hy hq];exact hx⟩,st',fun b hb=>(hf b hb).1⟩⟩
 done:=by
  intro X hP hw hK hc i pins s σ H E I hf st hg
  subst hP hw hK
  obtain ⟨xs,hq,hx⟩:=hg
  obtain ⟨its,rv,p,hz⟩:=I.tuple hq
  obtain ⟨f0,f1,f2,f3,f4,f5⟩:=hf it (by simp)
  have hl:=rv.length
  exact wpAny_pyNext_tuple_end (I.ok.hd hc) st (show s.heap.IsTuple a its.toArray from p) (by simp;omega) fun h' eb=>⟨rfl,I.turned (t':=s.toks) (fun b o hb e=>eb b o hb e) f0 f1 f3 f4 f5⟩
 self:=fun _ _ _ _ _ st h=>wpAny_pyIter_tupleiter st h
theorem Qp {P:Program} {w:World} {K:PySem.W.Frag} {tg:Expr} (it:Addr) (lo:Int) (n:Nat):Turn P w K tg (Itr lo n) [it] it (fun i h=>IsRangeIter h it (lo + (i:Nat) * 1) ((n:Int) - (i:Nat)) 1) where
 mem:=by simp
 obj:=fun i h st b hb=>by
  have e:b=it:=by simpa using hb
  subst e
  exact ⟨_,st,fun v z=>by
   have z':Data.fields _=Data.cell v:=z
   cases z'⟩
 keep:=fun i h h' st k=>k it (by simp) _ st
 item:=by
  intro X hP hw hK hc i pins s σ H E I hf st hg
  subst hP hw hK
  obtain ⟨f0,f1,f2,f3,f4,f5⟩:=hf it (by simp)
  have W:=Walks.range (prog:=X.prog) (w:=X.w) (I.ok.hd hc) it lo 1 n
  refine W.item i s _ _ hg st fun v h' tk hv st' kk=>?_
  obtain ⟨t,rfl⟩:=hv
  have I1:Inv X pins σ H { s with heap:=h',toks:=tk }:=I.turned (fun b o hb e=>kk b o (by simpa using hb) e) f0 f1 f3 f4 f5
  refine ⟨_,rfl,Kv (s:={ s with heap:=h',toks:=tk }) (n := "range_iterator") st' rfl rfl (by decide) ⟨.int (lo + i),H,I1,⟨t,?_⟩,⟨rfl,rfl⟩,st',fun b hb=>(hf b hb).1⟩⟩
  rw [Int.mul_one]
 done:=by
  intro X hP hw hK hc i pins s σ H E I hf st hg
  subst hP hw hK
  obtain ⟨f0,f1,f2,f3,f4,f5⟩:=hf it (by simp)
  exact wpAny_pyNext_range_end (I.ok.hd hc) st (by have:n <= i:=hg;omega) fun h' eb=>⟨rfl,I.turned (t':=s.toks) (fun b o hb e=>eb b o hb e) f0 f1 f3 f4 f5⟩
 self:=fun _ _ _ _ _ st h=>wpAny_pyIter_rangeiter st h
section
variable {X:Cx} {tg:Expr}
theorem Oj {pins:List (Addr × Obj)} {σ:St} {H:Hp} {s:Shared} {R:It -> Hp -> Prop} {E:Value -> Shared -> Prop} {lo hi:Int} {t u v:Tok} {tk:Nat} (I:Inv X pins σ H s) (h1:-(2 ^ 62) <= lo) (h2:lo < 2 ^ 62) (h3:-(2 ^ 62) <= hi) (h4:hi < 2 ^ 62)
  (q:R (Itr lo (hi - lo).toNat) H):wpAny (model X.prog X.w) X.A (pyIter (.ref s.heap.objs.size)) (PIE X pins σ tg R) E { s with heap:=s.heap.push { cls:=.type "range", data:=.fields #[.int lo t,.int hi u,.int 1 v] },toks:=tk }:=by
 refine wpAny_pyIter_range (IsRange.new ..) (small_one h1 h2 h3 h4) ?_
 have I1:Inv X pins σ H { s with heap:=s.heap.push { cls:=.type "range", data:=.fields #[.int lo t,.int hi u,.int 1 v] },toks:=tk }:=I.kept fun b o e=>Heap.get?_push_of_some _ e
 refine ⟨(s.heap.push { cls:=.type "range", data:=.fields #[.int lo t,.int hi u,.int 1 v] }).objs.size,[(s.heap.push { cls:=.type "range", data:=.fields #[.int lo t,.int hi u,.int 1 v] }).objs.size],_,_,H,rfl,
  I1.kept (t':=tk) fun b o e=>Heap.get?_push_of_some _ e,Qp _ lo (hi - lo).toNat,?_,fun b hb=>?_,q⟩
 ·have e1:lo + ((0:Nat):Int) * 1=lo:=by simp
  have e2:(((hi - lo).toNat:Nat):Int) - ((0:Nat):Int)=Builtin.Range.rangeSize lo hi 1:=by rw [rangeSize_one];split <;> omega
  show IsRangeIter _ _ (lo + ((0:Nat):Int) * 1) ((((hi - lo).toNat:Nat):Int) - ((0:Nat):Int)) 1
  rw [e1,e2]
  exact Heap.get?_push_size _ rfl
 ·have e:b=(s.heap.push { cls:=.type "range", data:=.fields #[.int lo t,.int hi u,.int 1 v] }).objs.size:=by simpa using hb
  subst e
  exact I1.fpOk (Nat.le_refl _) (I1.hok.fresh (Nat.le_refl _))
def tFor (wi:TI) (g:TG) (tb:TS):TS:=fun D σ H=>wi σ H fun J H1=>∃ W:Nat -> Nat -> St -> Hp -> Prop,(∃ m,W 0 m σ H1) /\ ∀ i m σ H,W i m σ H ->
 (J.stop i H /\ D.nx σ H) \/ (J.go i H /\ ∃ N:St -> Hp -> Prop,(∀ σ' H',N σ' H' -> ∃ m',m' < m /\ W (i + 1) m' σ' H') /\ ∀ x H',J.yld i H x H' -> g x σ H' fun σ2 H2=>tb { D with nx:=N,ct:=N,bk:=D.nx } σ2 H2)
def Gd (fp:List Addr) (h:Heap):List (Addr × Obj):=fp.filterMap fun b=>(h.get? b).map fun o=>(b,o)
theorem Dh {fp:List Addr} {h:Heap} {b:Addr} {o:Obj} (hb:b ∈ fp) (e:h.get? b=some o):(b,o) ∈ Gd fp h:=List.mem_filterMap.mpr ⟨b,hb,by rw [e];rfl⟩
theorem Um {fp:List Addr} {h:Heap} {p:Addr × Obj} (hp:p ∈ Gd fp h):p.1 ∈ fp /\ h.get? p.1=some p.2:=by
 obtain ⟨b,hb,e⟩:=List.mem_filterMap.mp hp
 cases q:h.get? b with
 | none=>rw [q] at e;cases e
 | some o=>
  rw [q] at e
  have e':(b,o)=p:=Option.some.inj e
  subst e'
  exact ⟨hb,q⟩
theorem Inv.pinned {pins:List (Addr × Obj)} {σ:St} {H:Hp} {s:Shared} {fp:List Addr} (I:Inv X pins σ H s) (hf:∀ b ∈ fp,FpOk X pins H b) (ho:∀ b ∈ fp,∃ o,s.heap.get? b=some o /\ ∀ v,o.data ≠ .cell v):Inv X (pins ++ Gd fp s.heap) σ H s:=
 I.pins_of fun p hp=>(List.mem_append.mp hp).elim (fun z=>I.pin p (List.mem_append_right _ z)) fun z=>by
  obtain ⟨hb,e⟩:=Um z
  obtain ⟨f0,f1,f2,_⟩:=hf p.1 hb
  obtain ⟨o,e',d⟩:=ho p.1 hb
  rw [e] at e';cases e'
  exact ⟨e,f0,f1,f2,d⟩
theorem Inv.unpinned {pins pl:List (Addr × Obj)} {σ:St} {H:Hp} {s:Shared} (I:Inv X (pins ++ pl) σ H s):Inv X pins σ H s:=I.pins_of fun p hp=>I.pin p (List.mem_append_right _ (List.mem_append_left _ hp))
theorem ao3 {iter:Expr} {body:List Stmt} {wi:TI} {g:TG} {tb:TS} {pos:Pos} (hp:PassesOwn (model X.prog X.w) X.A X.env X.xe) (hc:X.calm=true) (hi:PI X tg iter wi) (hg:PG X tg g) (hb:PSs X body tb)
  (hs:∀ x,foldedSetIterable iter X.env x=pure x:=by intro _;rfl):PS X (.For tg iter body [] pos) (tFor wi g tb):=by
 intro pins s σ H D I h
 refine wpAny_For (thn (hi pins s σ H _ I h) fun v s1 h1=>thn h1 fun itv s2 h2=>?_) hs
 obtain ⟨it,fp,tn,J,H2,e,I2,T,st2,f2,W,⟨m0,w0⟩,turn⟩:=h2
 subst e
 have stat:∀ {H':Hp},(∀ b ∈ fp,H' b=none) -> ∀ b ∈ fp,FpOk X pins H' b:=fun hn b hb=>⟨hn b hb,(f2 b hb).2⟩
 refine codeAny_forLoop_any (fun n s'=>∃ i σ' H',Inv X pins σ' H' s' /\ tn i s'.heap /\ (∀ b ∈ fp,H' b=none) /\ W i n σ' H') ?_ m0 ⟨0,σ,H2,I2,st2,fun b hb=>(f2 b hb).1,w0⟩
 rintro n s3 ⟨i,σ3,H3,I3,st3,fr3,w3⟩
 rcases turn i n σ3 H3 w3 with ⟨stop,qn⟩ | ⟨go,N,hN,step⟩
 ·refine wpAny_passesOwn hp (thn (T.done X rfl rfl rfl hc i pins s3 σ3 H3 X.xe I3 (stat fr3) st3 stop) fun r s4 ⟨hr,I4⟩=>?_)
  subst hr
  exact wpAny_execs_nil ⟨σ3,H3,I4,qn⟩
 ·refine wpAny_passesOwn hp (thn (T.item X rfl rfl rfl hc i pins s3 σ3 H3 X.xe I3 (stat fr3) st3 go) fun r s4 ⟨u,hr,h4⟩=>?_)
  subst hr
  refine wpAny_passesOwn hp (thn h4 fun _ s5 ⟨x,H5,I5,r5,y5,st5,fr5⟩=>?_)
  have I5':=I5.pinned (stat fr5) (T.obj _ _ st5)
  refine wpAny_passesOwn hp (thn (hg _ s5 σ3 H5 x u _ I5' r5 (step x H5 y5)) fun _ s6 ⟨σ6,H6,I6,q6⟩=>?_)
  refine wpAny_passesOwn hp (thn (hb _ s6 σ6 H6 _ I6 q6) fun f s7 q7=>?_)
  have again:∀ {σ7:St} {H7:Hp},Inv X (pins ++ Gd fp s5.heap) σ7 H7 s7 -> N σ7 H7 -> ∃ m,m < n /\ ∃ i σ' H',Inv X pins σ' H' s7 /\ tn i s7.heap /\ (∀ b ∈ fp,H' b=none) /\ W i m σ' H':=fun {σ7 H7} I7 n7=>by
   obtain ⟨m',hm,w7⟩:=hN σ7 H7 n7
   refine ⟨m',hm,i + 1,σ7,H7,I7.unpinned,T.keep _ _ _ st5 fun b hb o e=>(I7.pin (b,o) (List.mem_append_right _ (List.mem_append_right _ (Dh hb e)))).1,fun b hb=>?_,w7⟩
   obtain ⟨o,e,d⟩:=T.obj _ _ st5 b hb
   exact (I7.pin (b,o) (List.mem_append_right _ (List.mem_append_right _ (Dh hb e)))).2.1
  cases f with
  | next=>obtain ⟨σ7,H7,I7,n7⟩:=q7;exact again I7 n7
  | cont=>obtain ⟨σ7,H7,I7,n7⟩:=q7;exact again I7 n7
  | brk=>obtain ⟨σ7,H7,I7,q7⟩:=q7;exact ⟨σ7,H7,I7.unpinned,q7⟩
  | ret v=>obtain ⟨x7,σ7,H7,I7,r7,q7⟩:=q7;exact ⟨x7,σ7,H7,I7.unpinned,r7,q7⟩
end
abbrev R2:=V -> V -> Hp -> VK -> Prop
def OpR (X:Cx) (f:Value -> Value -> Sem Value) (r:R2):Prop:=
 ∀ (pins:List (Addr × Obj)) (s:Shared) (σ:St) (H:Hp) (x y:V) (v u:Value) (Q:VK),Inv X pins σ H s -> RelV x v -> RelV y u -> r x y H Q ->
  wpAny (model X.prog X.w) X.A (f v u) (EP X pins σ Q) X.xe s
def UnR (X:Cx) (f:Value -> Sem Value) (r:V -> Hp -> VK -> Prop):Prop:=
 ∀ (pins:List (Addr × Obj)) (s:Shared) (σ:St) (H:Hp) (x:V) (v:Value) (Q:VK),Inv X pins σ H s -> RelV x v -> r x H Q ->
  wpAny (model X.prog X.w) X.A (f v) (EP X pins σ Q) X.xe s
def Bl (X:Cx) (f:Value) (r:List V -> Hp -> VK -> Prop):Prop:=
 ∀ (pins:List (Addr × Obj)) (s:Shared) (σ:St) (H:Hp) (xs:List V) (us:List Value) (Q:VK),Inv X pins σ H s -> Vals xs us -> r xs H Q ->
  wpAny (model X.prog X.w) X.A (call f us) (EP X pins σ Q) X.xe s
def TruR (X:Cx) (r:V -> Hp -> (Bool -> Hp -> Prop) -> Prop):Prop:=
 ∀ (pins:List (Addr × Obj)) (s:Shared) (σ:St) (H:Hp) (x:V) (v:Value) (Q:Bool -> Hp -> Prop),Inv X pins σ H s -> RelV x v -> r x H Q ->
  wpAny (model X.prog X.w) X.A (truthy v) (TP X pins σ Q) X.xe s
def tOp (r:R2) (ta tb:TE):TE:=fun σ H Q=>ta σ H fun x H1=>tb σ H1 fun y H2=>r x y H2 Q
def tUn (r:V -> Hp -> VK -> Prop) (ta:TE):TE:=fun σ H Q=>ta σ H fun x H1=>r x H1 Q
def rI (C:Int -> Int -> Prop) (g:Int -> Int -> V):R2:=fun x y H Q=>∃ i j,x = .int i /\ y = .int j /\ C i j /\ Q (g i j) H
def rI0 (g:Int -> Int -> V):R2:=fun x y H Q=>∃ i j,x = .int i /\ y = .int j /\ Q (g i j) H
def rU (g:Int -> V):V -> Hp -> VK -> Prop:=fun x H Q=>∃ i,x = .int i /\ Q (g i) H
section
variable {X:Cx} {a b c:Expr} {ta tb tc:TE} {pos:Pos}
theorem binT (ha:PE X a ta) (hb:PE X b tb) {pins:List (Addr × Obj)} {s:Shared} {σ:St} {H:Hp} {R:V -> V -> Hp -> Prop} (I:Inv X pins σ H s)
  (h:ta σ H fun x H1=>tb σ H1 fun y H2=>R x y H2) {Q:Value -> Shared -> Prop} {f:Value -> Value -> Sem Value}
  (hf:∀ v u s2 x y H2,Inv X pins σ H2 s2 -> RelV x v -> RelV y u -> R x y H2 -> wpAny (model X.prog X.w) X.A (f v u) Q X.xe s2) :
  wpAny (model X.prog X.w) X.A (eval a X.env) (fun v s₁=>wpAny (model X.prog X.w) X.A (eval b X.env) (fun u s₂=>wpAny (model X.prog X.w) X.A (f v u) Q X.xe s₂) X.xe s₁) X.xe s:=by
 refine thn (ha pins s σ H _ I h) fun v s1 ⟨x,H1,I1,r1,q1⟩=>?_
 refine thn (hb pins s1 σ H1 _ I1 q1) fun u s2 ⟨y,H2,I2,r2,q2⟩=>?_
 exact hf v u s2 x y H2 I2 r1 r2 q2
theorem a28 {op:Operator} {r:R2} (ho:OpR X (binaryOp op) r) (ha:PE X a ta) (hb:PE X b tb):PE X (.BinOp a op b pos) (tOp r ta tb):=by
 intro pins s σ H Q I h
 exact wpAny_BinOp (binT ha hb I h fun v u s2 x y H2 I2 rx ry q=>ho pins s2 σ H2 x y v u Q I2 rx ry q)
theorem af6 {op:UnaryOp} {r:V -> Hp -> VK -> Prop} (ho:UnR X (unaryOp op) r) (ha:PE X a ta):PE X (.UnaryOp op a pos) (tUn r ta):=by
 intro pins s σ H Q I h
 exact UnaryOp_ (thn (ha pins s σ H _ I h) fun v s1 ⟨x,H1,I1,r1,q1⟩=>ho pins s1 σ H1 x v Q I1 r1 q1)
theorem opI {f:Value -> Value -> Sem Value} {C:Int -> Int -> Prop} {g:Int -> Int -> Int}
  (rule:∀ (i j:Int) (t u:Tok) (s:Shared) (Q:Value -> Shared -> Prop) (E:Value -> Shared -> Prop),C i j -> Q (.int (g i j) s.toks) { s with toks:=s.toks + 1 } -> wpAny (model X.prog X.w) X.A (f (.int i t) (.int j u)) Q E s) :
  OpR X f (rI C fun i j=>.int (g i j)):=by
 intro pins s σ H x y v u Q I rx ry h
 obtain ⟨i,j,rfl,rfl,hc,q⟩:=h
 obtain ⟨t,rfl⟩:=rx
 obtain ⟨t',rfl⟩:=ry
 exact rule i j t t' s _ _ hc ⟨.int (g i j),H,I.tok _,⟨_,rfl⟩,q⟩
theorem opI0 {f:Value -> Value -> Sem Value} {g:Int -> Int -> Int}
  (rule:∀ (i j:Int) (t u:Tok) (s:Shared) (Q:Value -> Shared -> Prop) (E:Value -> Shared -> Prop),Q (.int (g i j) s.toks) { s with toks:=s.toks + 1 } -> wpAny (model X.prog X.w) X.A (f (.int i t) (.int j u)) Q E s) :
  OpR X f (rI0 fun i j=>.int (g i j)):=by
 intro pins s σ H x y v u Q I rx ry h
 obtain ⟨i,j,rfl,rfl,q⟩:=h
 obtain ⟨t,rfl⟩:=rx
 obtain ⟨t',rfl⟩:=ry
 exact rule i j t t' s _ _ ⟨.int (g i j),H,I.tok _,⟨_,rfl⟩,q⟩
theorem opB0 {f:Value -> Value -> Sem Value} {g:Int -> Int -> Bool}
  (rule:∀ (i j:Int) (t u:Tok) (s:Shared) (Q:Value -> Shared -> Prop) (E:Value -> Shared -> Prop),Q (.bool (g i j)) s -> wpAny (model X.prog X.w) X.A (f (.int i t) (.int j u)) Q E s) :
  OpR X f (rI0 fun i j=>.bl (g i j)):=by
 intro pins s σ H x y v u Q I rx ry h
 obtain ⟨i,j,rfl,rfl,q⟩:=h
 obtain ⟨t,rfl⟩:=rx
 obtain ⟨t',rfl⟩:=ry
 exact rule i j t t' s _ _ ⟨.bl (g i j),H,I,rfl,q⟩
def CDiv (i j:Int):Prop:=0 < j /\ j < 1073741824
def CPow (i j:Int):Prop:=0 <= j /\ j <= 1000000 /\ i.natAbs < 2 ^ 64
def CMul (i j:Int):Prop:=(-(2 ^ 64) < i /\ i < 2 ^ 64) \/ (-(2 ^ 64) < j /\ j < 2 ^ 64)
theorem CMul.ok {i j:Int} (h:CMul i j):IntMulOk i j:=by
 rcases h with ⟨h1,h2⟩ | ⟨h1,h2⟩
 ·exact .of_left (intBits_le_64 h1 h2)
 ·exact .of_right (intBits_le_64 h1 h2)
theorem Qr (k:Nat):(0:Int) <= 2 ^ k:=by
 rw [two_pow_cast]
 exact Int.natCast_nonneg _
theorem am1:OpR X (binaryOp .Add) (rI0 fun i j=>.int (i + j)):=opI0 fun _ _ _ _ _ _ _ q=>add_int q
theorem an2:OpR X (binaryOp .Sub) (rI0 fun i j=>.int (i - j)):=opI0 fun _ _ _ _ _ _ _ q=>sub_int q
theorem am7:OpR X (binaryOp .Mult) (rI CMul fun i j=>.int (i * j)):=opI fun _ _ _ _ _ _ _ hc q=>mul_int q hc.ok
theorem Zv:OpR X (binaryOp .FloorDiv) (rI CDiv fun i j=>.int (i / j)):=opI fun i j _ _ _ _ _ hc q=>by
 have h1:(0:Int) < j:=hc.1
 have h2:j < 1073741824:=hc.2
 exact floordiv_int (by omega) (by rw [Int.fdiv_eq_ediv_of_nonneg i (by omega)];exact q) (.inl (PyProof.noPylong_small (by omega)))
theorem am6:OpR X (binaryOp .Mod) (rI (fun _ j=>0 < j) fun i j=>.int (i % j)):=opI fun i j _ _ _ _ _ hc q=>by
 have h1:(0:Int) < j:=hc
 exact mod_int' (by omega) (by rw [Int.fmod_eq_emod_of_nonneg i (by omega)];exact q)
theorem an0:OpR X (binaryOp .LShift) (rI CPow fun i j=>.int (i * 2 ^ j.toNat)):=opI fun _ _ _ _ _ _ _ hc q=>lshift_int_small hc.1 hc.2.1 hc.2.2 q
theorem an1:OpR X (binaryOp .RShift) (rI (fun _ j=>0 <= j) fun i j=>.int (i / 2 ^ j.toNat)):=opI fun i j _ _ _ _ _ hc q=>
 rshift_int hc (by rw [Int.fdiv_eq_ediv_of_nonneg i (Qr _)];exact q)
theorem am2:OpR X (binaryOp .BitAnd) (rI0 fun i j=>.int (Builtin.bitAnd i j)):=opI0 fun _ _ _ _ _ _ _ q=>and_int q
theorem a25:OpR X (binaryOp .BitOr) (rI0 fun i j=>.int (Builtin.bitOr i j)):=opI0 fun _ _ _ _ _ _ _ q=>or_int q
theorem unI {f:Value -> Sem Value} {g:Int -> Int}
  (rule:∀ (i:Int) (t:Tok) (s:Shared) (Q:Value -> Shared -> Prop) (E:Value -> Shared -> Prop),Q (.int (g i) s.toks) { s with toks:=s.toks + 1 } -> wpAny (model X.prog X.w) X.A (f (.int i t)) Q E s) :
  UnR X f (rU fun i=>.int (g i)):=by
 intro pins s σ H x v Q I rx h
 obtain ⟨i,rfl,q⟩:=h
 obtain ⟨t,rfl⟩:=rx
 exact rule i t s _ _ ⟨.int (g i),H,I.tok _,⟨_,rfl⟩,q⟩
theorem aw1:UnR X (unaryOp .USub) (rU fun i=>.int (-i)):=unI fun _ _ _ _ _ q=>neg_int q
theorem aw0:UnR X (unaryOp .Invert) (rU fun i=>.int (Builtin.bitNot i)):=unI fun _ _ _ _ _ q=>invert_int q
end
def scal:V -> V -> Bool
 | .non,.non=>true | .non,.int _=>true | .int _,.non=>true | .non,.bl _=>true | .bl _,.non=>true | .non,.str _=>true | .str _,.non=>true
 | .int _,.int _=>true | .bl _,.bl _=>true | .str _,.str _=>true | .byt _,.byt _=>true
 | .int _,.str _=>true | .str _,.int _=>true | .bl _,.str _=>true | .str _,.bl _=>true
 | _,_=>false
def rEq:R2:=fun x y H Q=>scal x y=true /\ Q (.bl (decide (x=y))) H
def rNe:R2:=fun x y H Q=>scal x y=true /\ Q (.bl (!decide (x=y))) H
theorem G7 {i j:Int}:decide (V.int i=V.int j)=(i == j):=by
 rw [Bool.eq_iff_iff]
 simp
theorem Lx {i j:Bool}:decide (V.bl i=V.bl j)=(i == j):=by
 rw [Bool.eq_iff_iff]
 simp
theorem G8 {i j:Str}:decide (V.str i=V.str j)=(i == j):=by
 rw [Bool.eq_iff_iff]
 simp
theorem Q9 {i j:Array UInt8}:decide (V.byt i=V.byt j)=(i.toList == j.toList):=by
 rw [Bool.eq_iff_iff]
 cases i
 cases j
 simp
section
variable {X:Cx} {a b c:Expr} {ta tb tc:TE} {pos:Pos}
theorem An {pins:List (Addr × Obj)} {σ:St} {H:Hp} {s:Shared} {Q:VK} {k k':Bool} (I:Inv X pins σ H s) (q:Q (.bl k) H) (e:k=k'):EP X pins σ Q (.bool k') s:=by
 subst e
 exact ⟨.bl k,H,I,rfl,q⟩
theorem Rl:OpR X (compareOp .Eq) rEq:=by
 intro pins s σ H x y v u Q I rx ry h
 obtain ⟨hs,q⟩:=h
 cases x with
 | non=>
  cases rx
  cases y with
  | non=>cases ry;exact PySem.EqNone.eq_none_none (An I q (by simp))
  | bl j=>cases ry;exact PySem.EqNone.eq_none_bool (An I q (by simp))
  | int j=>obtain ⟨t',rfl⟩:=ry;exact PySem.EqNone.eq_none_int (An I q (by simp))
  | str j=>obtain ⟨t',rfl⟩:=ry;exact PySem.EqNone.eq_none_str (An I q (by simp))
  | _=>exact absurd (show false=true from hs) Bool.false_ne_true
 | bl i=>
  cases rx
  cases y with
  | non=>cases ry;exact PySem.EqNone.eq_bool_none (An I q (by simp))
  | bl j=>cases ry;exact eq_bool (An I q Lx)
  | str j=>obtain ⟨t',rfl⟩:=ry;exact PySem.EqMixed.eq_bool_str (An I q (by simp))
  | _=>exact absurd (show false=true from hs) Bool.false_ne_true
 | int i=>
  obtain ⟨t,rfl⟩:=rx
  cases y with
  | non=>cases ry;exact PySem.EqNone.eq_int_none (An I q (by simp))
  | int j=>obtain ⟨t',rfl⟩:=ry;exact eq_int (An I q G7)
  | str j=>obtain ⟨t',rfl⟩:=ry;exact PySem.EqMixed.eq_int_str (An I q (by simp))
  | _=>exact absurd (show false=true from hs) Bool.false_ne_true
 | str i=>
  obtain ⟨t,rfl⟩:=rx
  cases y with
  | non=>cases ry;exact PySem.EqNone.eq_str_none (An I q (by simp))
  | bl j=>cases ry;exact PySem.EqMixed.eq_str_bool (An I q (by simp))
  | int j=>obtain ⟨t',rfl⟩:=ry;exact PySem.EqMixed.eq_str_int (An I q (by simp))
  | str j=>obtain ⟨t',rfl⟩:=ry;exact eq_str (An I q G8)
  | _=>exact absurd (show false=true from hs) Bool.false_ne_true
 | byt i=>
  obtain ⟨t,rfl⟩:=rx
  cases y with
  | byt j=>obtain ⟨t',rfl⟩:=ry;exact PySem.W.eq_bytes (An I q Q9)
  | _=>exact absurd (show false=true from hs) Bool.false_ne_true
 | _=>cases y <;> exact absurd (show false=true from hs) Bool.false_ne_true
theorem Rm:OpR X (compareOp .NotEq) rNe:=by
 intro pins s σ H x y v u Q I rx ry h
 obtain ⟨hs,q⟩:=h
 cases x with
 | non=>
  cases rx
  cases y with
  | non=>cases ry;exact PySem.EqNone.ne_none_none (An I q (by simp))
  | bl j=>cases ry;exact PySem.EqNone.ne_none_bool (An I q (by simp))
  | int j=>obtain ⟨t',rfl⟩:=ry;exact PySem.EqNone.ne_none_int (An I q (by simp))
  | str j=>obtain ⟨t',rfl⟩:=ry;exact PySem.EqNone.ne_none_str (An I q (by simp))
  | _=>exact absurd (show false=true from hs) Bool.false_ne_true
 | bl i=>
  cases rx
  cases y with
  | non=>cases ry;exact PySem.EqNone.ne_bool_none (An I q (by simp))
  | bl j=>cases ry;exact ne_bool (An I q (congrArg not Lx))
  | str j=>obtain ⟨t',rfl⟩:=ry;exact PySem.EqMixed.ne_bool_str (An I q (by simp))
  | _=>exact absurd (show false=true from hs) Bool.false_ne_true
 | int i=>
  obtain ⟨t,rfl⟩:=rx
  cases y with
  | non=>cases ry;exact PySem.EqNone.ne_int_none (An I q (by simp))
  | int j=>obtain ⟨t',rfl⟩:=ry;exact ne_int (An I q (congrArg not G7))
  | str j=>obtain ⟨t',rfl⟩:=ry;exact PySem.EqMixed.ne_int_str (An I q (by simp))
  | _=>exact absurd (show false=true from hs) Bool.false_ne_true
 | str i=>
  obtain ⟨t,rfl⟩:=rx
  cases y with
  | non=>cases ry;exact PySem.EqNone.ne_str_none (An I q (by simp))
  | bl j=>cases ry;exact PySem.EqMixed.ne_str_bool (An I q (by simp))
  | int j=>obtain ⟨t',rfl⟩:=ry;exact PySem.EqMixed.ne_str_int (An I q (by simp))
  | str j=>obtain ⟨t',rfl⟩:=ry;exact ne_str (An I q (congrArg not G8))
  | _=>exact absurd (show false=true from hs) Bool.false_ne_true
 | byt i=>
  obtain ⟨t,rfl⟩:=rx
  cases y with
  | byt j=>obtain ⟨t',rfl⟩:=ry;exact PySem.W.ne_bytes (An I q (congrArg not Q9))
  | _=>exact absurd (show false=true from hs) Bool.false_ne_true
 | _=>cases y <;> exact absurd (show false=true from hs) Bool.false_ne_true
theorem a24:OpR X (compareOp .Lt) (rI0 fun i j=>.bl (decide (i < j))):=opB0 fun _ _ _ _ _ _ _ q=>lt_int q
theorem a23:OpR X (compareOp .LtE) (rI0 fun i j=>.bl (decide (i <= j))):=opB0 fun _ _ _ _ _ _ _ q=>le_int q
theorem a22:OpR X (compareOp .Gt) (rI0 fun i j=>.bl (decide (j < i))):=opB0 fun _ _ _ _ _ _ _ q=>gt_int q
theorem a21:OpR X (compareOp .GtE) (rI0 fun i j=>.bl (decide (j <= i))):=opB0 fun _ _ _ _ _ _ _ q=>ge_int q
theorem Uq:OpR X (compareOp .Lt) (fun x y H Q=>∃ i j,x = .str i /\ y = .str j /\ Q (.bl (decide (i.cps.toList < j.cps.toList))) H):=by
 intro pins s σ H x y v u Q I rx ry h
 obtain ⟨i,j,rfl,rfl,q⟩:=h
 obtain ⟨t,rfl⟩:=rx
 obtain ⟨t',rfl⟩:=ry
 exact lt_str (An I q rfl)
theorem am5:OpR X (compareOp .Is) (fun x y H Q=>y = .non /\ Q (.bl (decide (x = .non))) H):=by
 intro pins s σ H x y v u Q I rx ry h
 obtain ⟨rfl,q⟩:=h
 cases ry
 refine is_none_gen (An I q ?_)
 cases x <;> first
  | (cases rx;rfl)
  | (obtain ⟨t,rfl⟩:=rx;rfl)
theorem Zw:OpR X (compareOp .IsNot) (fun x y H Q=>y = .non /\ Q (.bl (!decide (x = .non))) H):=by
 intro pins s σ H x y v u Q I rx ry h
 obtain ⟨rfl,q⟩:=h
 cases ry
 refine isnot_none_gen (An I q ?_)
 cases x <;> first
  | (cases rx;rfl)
  | (obtain ⟨t,rfl⟩:=rx;rfl)
theorem OpR.or {f:Value -> Value -> Sem Value} {r r':R2} (h:OpR X f r) (h':OpR X f r'):OpR X f (fun x y H Q=>r x y H Q \/ r' x y H Q):=by
 intro pins s σ H x y v u Q I rx ry q
 rcases q with q | q
 ·exact h pins s σ H x y v u Q I rx ry q
 ·exact h' pins s σ H x y v u Q I rx ry q
theorem Zz {op:CmpOp} {r:R2} (ho:OpR X (compareOp op) r) (ha:PE X a ta) (hb:PE X b tb) (hm:behindInMarks op b=false):PE X (.Compare a [op] [b] pos) (tOp r ta tb):=by
 intro pins s σ H Q I h
 exact wpAny_Compare1 (binT ha hb I h fun v u s2 x y H2 I2 rx ry q=>ho pins s2 σ H2 x y v u Q I2 rx ry q) hm
def TruV (K:PySem.W.Frag) (x:V) (H:Hp) (k:Bool):Prop:=
 match x with
 | .non=>k=false
 | .bl b=>k=b
 | .int i=>k=(i != 0)
 | .str y=>y.length <= sizeLine /\ k=((y.length:Int) != 0)
 | .byt y=>y.size <= sizeLine /\ k=((y.size:Int) != 0)
 | .ref p=>(∃ xs,SqL K H p xs /\ k = !xs.isEmpty) \/ (∃ xs,SqT K H p xs /\ k = !xs.isEmpty) \/ ∃ kvs,H p=some (.dK kvs) /\ k = !kvs.isEmpty
 | _=>False
theorem Po {κ:Type} {kvs:List (κ × V)} {vs:List (κ × Value)} (r:KV kvs vs):(!vs.isEmpty) = !kvs.isEmpty:=by
 cases r <;> rfl
theorem Ie {xs:List V} {its:List Value} (r:Vals xs its):(!its.toArray.isEmpty) = !xs.isEmpty:=by
 cases r <;> simp
theorem Et:(sizeLine:Nat) < 2 ^ 63:=by rw [sizeLine_eq];decide
theorem Jy:TruR X (fun x H Q=>∃ k,TruV X.K x H k /\ Q k H):=by
 intro pins s σ H x v Q I rx h
 obtain ⟨k,e,q⟩:=h
 have hl:=Et
 have hs:sizeLine=16777216:=sizeLine_eq
 cases x with
 | non=>
  cases rx
  have e':k=false:=e
  subst e'
  exact truthy_none ⟨H,I,q⟩
 | bl b=>
  cases rx
  have e':k=b:=e
  subst e'
  exact wpAny_truthy_bool ⟨H,I,q⟩
 | int i=>
  obtain ⟨t,rfl⟩:=rx
  have e':k=(i != 0):=e
  subst e'
  exact PySem.P.truthy_int ⟨H,I,q⟩
 | str y=>
  obtain ⟨t,rfl⟩:=rx
  obtain ⟨hy,e'⟩:y.length <= sizeLine /\ k=((y.length:Int) != 0):=e
  subst e'
  exact PySem.P.truthy_str (by omega) ⟨H,I.tok _,q⟩
 | byt y=>
  obtain ⟨t,rfl⟩:=rx
  obtain ⟨hy,e'⟩:y.size <= sizeLine /\ k=((y.size:Int) != 0):=e
  subst e'
  exact PySem.W.truthy_bytes (by omega) ⟨H,I.tok _,q⟩
 | ref p=>
  cases rx
  have e':(∃ xs,SqL X.K H p xs /\ k = !xs.isEmpty) \/ (∃ xs,SqT X.K H p xs /\ k = !xs.isEmpty) \/ ∃ kvs,H p=some (.dK kvs) /\ k = !kvs.isEmpty:=e
  rcases e' with ⟨xs,hx,e'⟩ | ⟨xs,hx,e'⟩ | ⟨kvs,hx,e'⟩
  ·subst e'
   obtain ⟨its,r,pl,hz⟩:=I.list hx
   have hlen:=r.length
   exact wpAny_truthy_list pl.isList (by simp only [List.size_toArray];omega) ⟨H,I.tok _,by rw [Ie r];exact q⟩
  ·subst e'
   obtain ⟨its,r,pl,hz⟩:=I.tuple hx
   have hlen:=r.length
   exact truthy_tuple pl (by simp only [List.size_toArray];omega) ⟨H,I.tok _,by rw [Ie r];exact q⟩
  ·subst e'
   obtain ⟨hz,hS,vs,r,m⟩:kvs.length <= sizeLine /\ (p == sysModules)=false /\ ∃ vs,KV kvs vs /\ s.heap.DictOf (Ao X.prog X.w) p vs:=I.hok p _ hx
   have hlen:kvs.length=vs.length:=Paired.length r
   exact wpAny_truthy_dict hS m (by omega) ⟨H,I.tok _,by rw [Po r];exact q⟩
 | _=>exact (show False from e).elim
theorem P3:OpR X (binaryOp .Add) (fun x y H Q=>∃ i j,x = .str i /\ y = .str j /\ i.length + j.length <= sizeLine /\ Q (.str (i ++ j)) H):=by
 intro pins s σ H x y v u Q I rx ry h
 obtain ⟨i,j,rfl,rfl,hz,q⟩:=h
 obtain ⟨t,rfl⟩:=rx
 obtain ⟨t',rfl⟩:=ry
 exact add_str (fun t' tk=>⟨.str (i ++ j),H,I.tok _,⟨_,rfl⟩,q⟩) hz
theorem Fr {x:V} {us:List Value} (r:Vals [x] us):∃ u,us=[u] /\ RelV x u:=by
 cases r with
 | cons r1 r2=>cases r2;exact ⟨_,rfl,r1⟩
theorem Yu {x y:V} {us:List Value} (r:Vals [x,y] us):∃ u w',us=[u,w'] /\ RelV x u /\ RelV y w':=by
 cases r with
 | cons r1 r2=>
  cases r2 with
  | cons r3 r4=>cases r4;exact ⟨_,_,rfl,r1,r3⟩
theorem Ta (hc:X.calm=true):Bl X (.builtin "max") (fun xs H Q=>∃ i j,xs=[.int i,.int j] /\ Q (.int (if j > i then j else i)) H):=by
 intro pins s σ H xs us Q I r h
 obtain ⟨i,j,rfl,q⟩:=h
 obtain ⟨u,w',rfl,⟨t,rfl⟩,⟨t',rfl⟩⟩:=Yu r
 refine max_two_ints (I.ok.hd hc) fun h' tk k=>⟨_,H,I.kept k,?_,q⟩
 by_cases hj:j > i
 ·rw [if_pos hj,if_pos hj];exact ⟨_,rfl⟩
 ·rw [if_neg hj,if_neg hj];exact ⟨_,rfl⟩
theorem Te (hc:X.calm=true):Bl X (.builtin "min") (fun xs H Q=>∃ i j,xs=[.int i,.int j] /\ Q (.int (if j < i then j else i)) H):=by
 intro pins s σ H xs us Q I r h
 obtain ⟨i,j,rfl,q⟩:=h
 obtain ⟨u,w',rfl,⟨t,rfl⟩,⟨t',rfl⟩⟩:=Yu r
 refine min_two_ints (I.ok.hd hc) fun h' tk k=>⟨_,H,I.kept k,?_,q⟩
 by_cases hj:j < i
 ·rw [if_pos hj,if_pos hj];exact ⟨_,rfl⟩
 ·rw [if_neg hj,if_neg hj];exact ⟨_,rfl⟩
theorem Kh:Bl X (.type "int") (fun xs H Q=>(∃ i,xs=[.int i] /\ Q (.int i) H) \/ ∃ k,xs=[.bl k] /\ Q (.int (if k then 1 else 0)) H):=by
 intro pins s σ H xs us Q I r h
 rcases h with ⟨i,rfl,q⟩ | ⟨k,rfl,q⟩
 ·obtain ⟨u,rfl,t,rfl⟩:=Fr r
  exact call_int_int ⟨.int i,H,I,⟨_,rfl⟩,q⟩
 ·obtain ⟨u,rfl,r1⟩:=Fr r
  cases r1
  exact call_int_bool ⟨.int (if k then 1 else 0),H,I.tok _,⟨_,rfl⟩,q⟩
end
structure ObjM (h:Heap) (x dx C:Addr) (mA:Str -> Option Value):Prop where
 obj:h.get? x=some (PySem.W.instObj C dx)
 ns:h.Ns1 dx mA
 ne:dx ≠ x
theorem K4 {h:Heap} {dx:Addr} {mA:Str -> Option Value} (n:h.Ns1 dx mA):∃ od,h.get? dx=some od /\ ∀ name,PySem.W.lookIn name od=some (mA name):=by
 obtain ⟨o,es,ep,ho,hd,hk,_,hm⟩:=n
 refine ⟨o,ho,fun name=>?_⟩
 have e:=hm name
 unfold nsFind findBy at e
 rw [<- Array.find?_toList] at e
 unfold PySem.W.lookIn
 rw [hd]
 dsimp only
 split
 ·rename_i y q
  rw [q] at e
  exact congrArg some e
 ·rename_i q
  rw [q] at e
  have a:es.toList.any (·.refKey)=false:=by
   rw [List.any_eq_false]
   intro y hy
   obtain ⟨z,t,hkey⟩:=hk y (Array.mem_toList_iff.mp hy)
   simp [DictEntry.refKey,hkey]
  have a':¬ es.toList.any (·.refKey)=true:=by rw [a];exact Bool.false_ne_true
  rw [if_neg a']
  exact congrArg some e
theorem ObjM.look {h:Heap} {x dx C:Addr} {mA:Str -> Option Value} (I:ObjM h x dx C mA):∃ od,PySem.W.InstAt h x (PySem.W.instObj C dx) C (some od) /\ ∀ name,PySem.W.lookIn name od=some (mA name):=
 let ⟨od,ho,hl⟩:=K4 I.ns
 ⟨od,⟨I.obj,rfl,rfl,ho⟩,hl⟩
section
variable {prog:Program} {w:World} {A:Around} {E:Value -> Shared -> Prop} {s:Shared} {K:PySem.W.Frag} {x dx C f:Addr} {mA:Str -> Option Value} {name:Str} {v:Value}
theorem Ak {expr:Bool} {Q:Value -> Shared -> Prop} (X:K.In s.heap) (I:ObjM s.heap x dx C mA) (hg:PySem.W.plainGet K C name=true) (hh:PySem.W.hasDictIn K C=true)
  (ha:PySem.W.findIn K (.ref C) name=some none) (hv:mA name=some v) (hv':PySem.W.handedIn v=true) (h:Q v { s with toks:=s.toks + 1 }) :
  wpAny (model prog w) A (getAttr (.ref x) name expr) Q E s:=by
 obtain ⟨od,J,hl⟩:=I.look
 exact PySem.W.get_value X J (PySem.W.plainGet_of hg).1 (PySem.W.findObj_own hh ha rfl (by rw [hl,hv])) hv' h
theorem Wm {pl:Sem Bool} {Q:Value × List Value -> Shared -> Prop} (X:K.In s.heap) (I:ObjM s.heap x dx C mA) (hg:PySem.W.plainGet K C name=true)
  (hf:PySem.W.findIn K (.ref C) name=some (some (.ref f))) (ht:PySem.W.isFn K (.ref f)=true) (hv:mA name=none) (h:Q (.ref f,[.ref x]) s) :
  wpAny (model prog w) A (getMethod (.ref x) name pl) Q E s:=by
 obtain ⟨od,J,hl⟩:=I.look
 exact PySem.W.method_fn X J (PySem.W.plainGet_of hg).1 (PySem.W.plainGet_of hg).2 hf (beq_iff_eq.mp ht) (by show (PySem.W.lookIn name od).map (·.isSome)=some false;rw [hl,hv];rfl) h
theorem ac0 {ns:List Str} {Q:Unit -> Shared -> Prop} (X:K.In s.heap) (I:ObjM s.heap x dx C mA)
  (hs:PySem.W.findIn K (.ref C) "__setattr__" = some (some (.builtin "object.__setattr__"))) (hp:PySem.W.plainOver K C=true) (ht:PySem.W.takerIn K C name=some none) (hh:PySem.W.hasDictIn K C=true)
  (hw:PySem.Within mA ns) (hsz:ns.length <= sizeLine)
  (h:∀ h',ObjM h' x dx C (fun y=>if y=name then some v else mA y) -> Heap.SameBut dx s.heap h' -> Q () { s with heap:=h',toks:=s.toks + 2 }) :
  wpAny (model prog w) A (setAttr (.ref x) name v) Q E s:=by
 obtain ⟨od,J,hl⟩:=I.look
 refine PySem.W.set_plain X J hs (PySem.W.osa_open (s:={ s with toks:=s.toks + 1 }) (r:=none) X J hp ht fun b=>?_)
 obtain ⟨cd,hc,hd'⟩:=PySem.W.any_some hh
 have hx:s.heap.get? x=some ⟨.ref C,some dx,.plain,#[]⟩:=I.obj
 refine wpAny_bind (wpAny_pure (wpAny_bind (wpAny_bind (wpAny_loadPart hx (wpAny_bind (PySem.W.Looks.here (s:={ s with toks:=s.toks + 1 }) (PySem.W.looks_clsIn X hc) ?_))))))
 rw [hd']
 refine wpAny_pure (a:=some dx) (wpAny_bind (wpAny_pure (wpAny_bind ?_)))
 refine wpAny_nsSet1 (s:={ s with toks:=s.toks + 1 }) I.ns fun h' hn2 hs2=>?_
 obtain ⟨oD,esD,epD,hoD,hdD,hcD⟩:=hn2.count (PySem.Within.cons name v hw)
 refine wpAny_bind (wpAny_lookBehind hoD (by rw [hdD];exact pastItsLine_dict (Nat.le_trans hcD (by rw [List.length_cons];omega))) ?_)
 exact wpAny_pure (h _ ⟨(hs2.2 _ (Ne.symm I.ne)).trans I.obj,hn2,I.ne⟩ hs2)
theorem Wv {R:Result -> Shared -> Prop} {vs:List Value} {kw:List (Str × Value)} (X:K.In s.heap) (hm:PySem.W.makesIn K C=true)
  (hi:PySem.W.findIn K (.ref C) "__init__" = some (some (.ref f))) (hf:PySem.W.typeIn K (.ref f)=some (.type "function"))
  (h:codeAny (model prog w) (A.under (.builtin "type.__call__" ⟨.ref C :: vs,kw⟩)) (.call (.ref f) ⟨.ref (s.heap.objs.size + 1) :: vs,kw⟩) (PySem.W.InitBack (s.heap.objs.size + 1) R)
   {s with heap:=(s.heap.push PySem.W.emptyDict).push (PySem.W.instObj C s.heap.objs.size) }) :
  codeAny (model prog w) A (.call (.ref C) ⟨vs,kw⟩) R s:=by
 obtain ⟨hh,g,d,t,os⟩:=s
 exact PySem.W.make_core (PySem.W.makes_of X hm) (PySem.W.looks_findIn X hi) (fun self=>PySem.W.bind_fn X self hf) (.inl rfl) h
theorem Uc {R:Result -> Shared -> Prop} (X:K.In s.heap) (hm:PySem.W.makesIn K C=true)
  (hi:PySem.W.findIn K (.ref C) "__init__" = some (some (.builtin "object.__init__")))
  (hb:∀ self,PySem.W.Looks (model prog w) s.heap (bindSpecial (.builtin "object.__init__") self) (.builtin "object.__init__", [self]))
  (h:codeAny (model prog w) (A.under (.builtin "type.__call__" ⟨[.ref C],[]⟩)) (.call (.builtin "object.__init__") ⟨[.ref (s.heap.objs.size + 1)],[]⟩) (PySem.W.InitBack (s.heap.objs.size + 1) R)
   {s with heap:=(s.heap.push PySem.W.emptyDict).push (PySem.W.instObj C s.heap.objs.size) }) :
  codeAny (model prog w) A (.call (.ref C) ⟨[],[]⟩) R s:=by
 obtain ⟨hh,g,d,t,os⟩:=s
 exact PySem.W.make_core (PySem.W.makes_of X hm) (PySem.W.looks_findIn X hi) hb (.inr ⟨rfl,rfl⟩) h
end
def putF (f:Str) (v:V):List (Str × V) -> List (Str × V)
 | []=>[(f,v)]
 | (g,x) :: r=>if g=f then (g,v) :: r else (g,x) :: putF f v r
theorem Go (f g:Str) (v:V):∀ fs:List (Str × V),(putF f v fs).lookup g=if g=f then some v else fs.lookup g
 | []=>by
  show List.lookup g [(f,v)]=_
  by_cases h:g=f
  ·have hb:(g == f)=true:=beq_iff_eq.mpr h
   simp only [List.lookup,hb,if_pos h]
  ·have hb:(g == f)=false:=beq_eq_false_iff_ne.mpr h
   simp only [List.lookup,hb,if_neg h]
 | (k,x) :: r=>by
  have ih:=Go f g v r
  rw [show putF f v ((k,x) :: r)=(if k=f then (k,v) :: r else (k,x) :: putF f v r) from rfl]
  by_cases hk:k=f
  ·rw [if_pos hk]
   by_cases h:g=k
   ·have hb:(g == k)=true:=beq_iff_eq.mpr h
    simp only [List.lookup,hb,if_pos (h.trans hk)]
   ·have hb:(g == k)=false:=beq_eq_false_iff_ne.mpr h
    simp only [List.lookup,hb,if_neg (fun e:g=f=>h (e.trans hk.symm))]
  ·rw [if_neg hk]
   by_cases h:g=k
   ·have hb:(g == k)=true:=beq_iff_eq.mpr h
    simp only [List.lookup,hb,if_neg (fun e:g=f=>hk (h.symm.trans e))]
   ·have hb:(g == k)=false:=beq_eq_false_iff_ne.mpr h
    simp only [List.lookup,hb]
    exact ih
theorem Fy (f:Str) (v:V):∀ fs:List (Str × V),f ∈ (putF f v fs).map (·.1) /\ ∀ g,g ∈ fs.map (·.1) -> g ∈ (putF f v fs).map (·.1)
 | []=>⟨by simp [putF],fun g h=>by simp at h⟩
 | (k,x) :: r=>by
  obtain ⟨i1,i2⟩:=Fy f v r
  rw [show putF f v ((k,x) :: r)=(if k=f then (k,v) :: r else (k,x) :: putF f v r) from rfl]
  by_cases hk:k=f
  ·rw [if_pos hk]
   subst hk
   exact ⟨by simp,fun g h=>by simpa using h⟩
  ·rw [if_neg hk]
   refine ⟨?_,fun g h=>?_⟩
   ·rw [List.map_cons]
    exact List.mem_cons_of_mem _ i1
   ·rw [List.map_cons] at h ⊢
    rcases List.mem_cons.mp h with e | e
    ·exact List.mem_cons.mpr (.inl e)
    ·exact List.mem_cons_of_mem _ (i2 g e)
theorem Gn (f:Str) (v:V):∀ fs:List (Str × V),(putF f v fs).length <= fs.length + 1
 | []=>by simp [putF]
 | (k,x) :: r=>by
  have ih:=Gn f v r
  rw [show putF f v ((k,x) :: r)=(if k=f then (k,v) :: r else (k,x) :: putF f v r) from rfl]
  by_cases hk:k=f
  ·rw [if_pos hk,List.length_cons,List.length_cons];omega
  ·rw [if_neg hk,List.length_cons,List.length_cons];omega
theorem RelO.some_of {v:V} {o:Option Value} (r:RelO (some v) o):∃ u,o=some u /\ RelV v u:=by
 cases o with
 | none=>exact (show False from r).elim
 | some u=>exact ⟨u,rfl,r⟩
theorem RelO.none_of {o:Option Value} (r:RelO none o):o=none:=by
 cases o with
 | none=>rfl
 | some u=>exact (show False from r).elim
theorem Tq {v:V} {u:Value} (r:RelV v u):PySem.W.handedIn u=true:=by
 cases v with
 | non=>cases (show u=Value.none from r);rfl
 | bl b=>cases (show u=Value.bool b from r);rfl
 | int i=>obtain ⟨t,e⟩:=(show ∃ t,u=Value.int i t from r);cases e;rfl
 | str x=>obtain ⟨t,e⟩:=(show ∃ t,u=Value.str x t from r);cases e;rfl
 | byt b=>obtain ⟨t,e⟩:=(show ∃ t,u=Value.bytes b t from r);cases e;rfl
 | flt b=>obtain ⟨t,e⟩:=(show ∃ t,u=Value.float b t from r);cases e;rfl
 | ref a=>cases (show u=Value.ref a from r);rfl
 | ty n=>cases (show u=Value.type n from r);rfl
section
variable {P:Program} {w:World} {H H':Hp} {h h':Heap} {a C dx:Addr} {fs fs':List (Str × V)}
theorem Hi (hok:HOk P w H h) (e:H a=some (.ins C dx fs)):∃ mA,ObjM h a dx C mA /\ (∀ f,RelO (fs.lookup f) (mA f)) /\ PySem.Within mA (fs.map (·.1)) /\ fs.length <= 1000 /\ H dx=some (.own a):=by
 obtain ⟨d,z,ne,ob,mA,n,r,q⟩:=(show ObjOk P w H h a (.ins C dx fs) from hok a _ e)
 exact ⟨mA,⟨ob,n,ne⟩,r,q,z,d⟩
end
structure Cls (K:PySem.W.Frag) (C:Addr):Prop where
 pg:PySem.W.plainGet K C Str.empty=true
 hd:PySem.W.hasDictIn K C=true
 po:PySem.W.plainOver K C=true
 sa:PySem.W.findIn K (.ref C) "__setattr__" = some (some (.builtin "object.__setattr__"))
theorem Cls.get {K:PySem.W.Frag} {C:Addr} (c:Cls K C) (f:Str):PySem.W.plainGet K C f=true:=c.pg
def NoAttr (K:PySem.W.Frag) (C:Addr) (f:Str):Prop:=PySem.W.findIn K (.ref C) f=some none
theorem NoAttr.taker {K:PySem.W.Frag} {C:Addr} {f:Str} (n:NoAttr K C f):PySem.W.takerIn K C f=some none:=by
 unfold PySem.W.takerIn
 rw [show PySem.W.findIn K (.ref C) f=some none from n]
 rfl
structure Meth (K:PySem.W.Frag) (C:Addr) (m:Str) (f:Addr):Prop where
 at_:PySem.W.findIn K (.ref C) m=some (some (.ref f))
 fn:PySem.W.isFn K (.ref f)=true
 kp:PySem.W.keepIn K (.ref f)=true
section
variable {X:Cx} {pins:List (Addr × Obj)} {σ:St} {H:Hp} {s:Shared} {a C dx:Addr} {fs:List (Str × V)} {f:Str} {v:V} {A:Around} {E:Value -> Shared -> Prop}
theorem Pl {b:Bool} {Q:Value -> Shared -> Prop} (I:Inv X pins σ H s) (e:H a=some (.ins C dx fs)) (c:Cls X.K C) (n:NoAttr X.K C f) (l:fs.lookup f=some v)
  (h:∀ u s',Inv X pins σ H s' -> RelV v u -> Q u s'):wpAny (model X.prog X.w) A (getAttr (.ref a) f b) Q E s:=by
 obtain ⟨mA,O,r,_,_,_⟩:=Hi I.hok e
 obtain ⟨u,hu,ru⟩:=RelO.some_of (v:=v) (o:=mA f) (by rw [<- l];exact r f)
 exact Ak I.kIn O (c.get f) c.hd n hu (Tq ru) (h u _ (I.tok _) ru)
theorem Ic {m:Str} {g:Addr} {pl:Sem Bool} {Q:Value × List Value -> Shared -> Prop} (I:Inv X pins σ H s) (e:H a=some (.ins C dx fs)) (c:Cls X.K C) (k:Meth X.K C m g) (l:fs.lookup m=none)
  (h:Q (.ref g,[.ref a]) s):wpAny (model X.prog X.w) A (getMethod (.ref a) m pl) Q E s:=by
 obtain ⟨mA,O,r,_,_,_⟩:=Hi I.hok e
 have hn:mA m=none:=RelO.none_of (by rw [<- l];exact r m)
 exact Wm I.kIn O (c.get m) k.at_ k.fn hn h
theorem Qf {y:V} {u:Value} {Q:Unit -> Shared -> Prop} (I:Inv X pins σ H s) (e:H a=some (.ins C dx fs)) (c:Cls X.K C) (n:NoAttr X.K C f) (hl:fs.length < 1000) (ry:RelV y u)
  (h:∀ s',Inv X pins σ (upd H a (.ins C dx (putF f y fs))) s' -> Q () s'):wpAny (model X.prog X.w) A (setAttr (.ref a) f u) Q E s:=by
 obtain ⟨mA,O,r,wi,_,ho⟩:=Hi I.hok e
 have hz:(fs.map (·.1)).length <= sizeLine:=by rw [List.length_map,sizeLine_eq];omega
 refine ac0 I.kIn O c.sa c.po n.taker c.hd wi hz fun h' O' sb=>h _ ?_
 have hd:∃ o,h'.get? dx=some o:=let ⟨o,_,_,e',_⟩:=O'.ns;⟨o,e'⟩
 refine I.write (x:=a) (e:=dx) (by rw [e];exact True.intro) (.inr ho) (fun b q hb z=>(sb.2 b hb).trans z) hd ?_
 refine ⟨by rw [Ad O.ne];exact ho,?_,O.ne,O'.obj,_,O'.ns,fun g=>?_,fun g hg=>?_⟩
 ·have:=Gn f y fs;omega
 ·show RelO ((putF f y fs).lookup g) (if g=f then some u else mA g)
  rw [Go]
  by_cases q:g=f
  ·rw [if_pos q,if_pos q];exact ry
  ·rw [if_neg q,if_neg q];exact r g
 ·by_cases q:g=f
  ·rw [q];exact (Fy f y fs).1
  ·refine (Fy f y fs).2 g (wi g fun z=>hg ?_)
   show (if g=f then some u else mA g)=none
   rw [if_neg q];exact z
theorem Inv.made (I:Inv X pins σ H s):Inv X pins σ (upd (upd H s.heap.objs.size (.own (s.heap.objs.size + 1))) (s.heap.objs.size + 1) (.ins C s.heap.objs.size []))
  {s with heap:=(s.heap.push PySem.W.emptyDict).push (PySem.W.instObj C s.heap.objs.size) }:=by
 have e1:(s.heap.push PySem.W.emptyDict).get? s.heap.objs.size=some PySem.W.emptyDict:=Heap.get?_push_size s.heap rfl
 have e2:((s.heap.push PySem.W.emptyDict).push (PySem.W.instObj C s.heap.objs.size)).get? (s.heap.objs.size + 1)=some (PySem.W.instObj C s.heap.objs.size):=by
  have:=Heap.get?_push_size (s.heap.push PySem.W.emptyDict) (o:=PySem.W.instObj C s.heap.objs.size) rfl
  rwa [Heap.size_push] at this
 have e3:(s.heap.push PySem.W.emptyDict).Ns s.heap.objs.size (fun _=>none):=⟨PySem.W.emptyDict,#[],_,e1,rfl,(fun e he=>absurd he (by simp)),fun _=>rfl⟩
 have I1:=I.laid (a:=s.heap.objs.size) (o:=.own (s.heap.objs.size + 1)) (h':=s.heap.push PySem.W.emptyDict) (t':=s.toks) (fun b u q=>Heap.get?_push_of_some _ q) (Nat.le_refl _) ⟨_,e1⟩
 refine I1.laid (a:=s.heap.objs.size + 1) (o:=.ins C s.heap.objs.size []) (t':=s.toks) (fun b u q=>Heap.get?_push_of_some _ q) (Nat.le_of_eq (Heap.size_push _ _)) ?_
 have ne:s.heap.objs.size ≠ s.heap.objs.size + 1:=Nat.ne_of_lt (Nat.lt_succ_self _)
 refine ⟨by rw [Ad ne,Ac],Nat.zero_le _,ne,e2,fun _=>none,(Heap.Ns1.of_empty e3).at fun o q=>Heap.get?_push_of_some _ q,fun _=>True.intro,fun y hy=>absurd rfl hy⟩
theorem Y0 {prog:Program} {w:World} {env:Env} {e:Expr} {f:Str} {pos:Pos} {s:Shared} {Q:Value -> Shared -> Prop} (hb:attributeBase e f env (eval e env)=eval e env)
  (h:wpAny (model prog w) A (eval e env) (fun o s₁=>wpAny (model prog w) A (getAttr o f true) Q E s₁) E s):wpAny (model prog w) A (eval (.Attribute e f pos) env) Q E s:=
 Attribute_any_ h (by rw [arm_eval_Attribute,hb])
end
section
variable {X:Cx} {o e value:Expr} {f:Str} {pos pos' tpos:Pos} {ta tv:TE}
end
section
variable {X:Cx} {pins:List (Addr × Obj)} {σ:St} {H:Hp} {s:Shared} {A:Around} {E:Value -> Shared -> Prop} {Q:Value -> Shared -> Prop} {c:Value} {b:Bool}
inductive TyOf (K:PySem.W.Frag) (H:Hp):V -> Value -> Prop where
 | non:TyOf K H .non (.type "NoneType")
 | bl (x:Bool):TyOf K H (.bl x) (.type "bool")
 | int (i:Int):TyOf K H (.int i) (.type "int")
 | str (x:Str):TyOf K H (.str x) (.type "str")
 | flt (x:UInt64):TyOf K H (.flt x) (.type "float")
 | lst {a:Addr} {xs:List V} (e:H a=some (.lst xs)):TyOf K H (.ref a) (.type "list")
 | frz {a:Addr} {o:Obj} {xs:List V} (e:H a=some (.frz o (.lst xs))):TyOf K H (.ref a) (.type "list")
 | tup {a:Addr} {xs:List V} (e:H a=some (.tup xs)):TyOf K H (.ref a) (.type "tuple")
 | dK {a:Addr} {kvs:List (Key × V)} (e:H a=some (.dK kvs)):TyOf K H (.ref a) (.type "dict")
 | dT {a:Addr} {kvs:List (List Key × V)} (e:H a=some (.dT kvs)):TyOf K H (.ref a) (.type "dict")
 | ins {a C dx:Addr} {fs:List (Str × V)} (e:H a=some (.ins C dx fs)) (cl:Cls K C) (ha:PySem.W.findIn K (.ref C) "__class__" = some (some (.builtin "object.__class__")))
   (hn:PySem.W.specialIn K (.builtin "object.__class__") "__get__" = some (some (.builtin "getset_descriptor.__get__"))) (htk:PySem.W.takesIn K (.builtin "object.__class__")=some true)
   (hm:PySem.W.mroIn K C (.type "object")=some true):TyOf K H (.ref a) (.ref C)
theorem K0 {x:V} {u t:Value} (I:Inv X pins σ H s) (rx:RelV x u) (ty:TyOf X.K H x t) (e:PySem.W.kitOne X.K t c=some b) (h:∀ tk,Q (.bool b) { s with toks:=tk }) :
  wpAny (model X.prog X.w) A (call (.builtin "isinstance") [u,c]) Q E s:=by
 cases ty with
 | non=>cases (show u=Value.none from rx);exact PySem.W.kia_one PySem.W.kitx_none I.kIn True.intro e (fun z=>nomatch z) h
 | bl y=>cases (show u=Value.bool y from rx);exact PySem.W.kia_one PySem.W.kitx_bool I.kIn True.intro e (fun z=>nomatch z) h
 | int i=>obtain ⟨t,q⟩:=(show ∃ t,u=Value.int i t from rx);cases q;exact PySem.W.kia_one PySem.W.kitx_int I.kIn True.intro e (fun z=>nomatch z) h
 | str y=>obtain ⟨t,q⟩:=(show ∃ t,u=Value.str y t from rx);cases q;exact PySem.W.kia_one PySem.W.kitx_str I.kIn True.intro e (fun z=>nomatch z) h
 | flt y=>obtain ⟨t,q⟩:=(show ∃ t,u=Value.float y t from rx);cases q;exact PySem.W.kia_one PySem.W.kitx_float I.kIn True.intro e (fun z=>nomatch z) h
 | @lst a xs ea=>
  cases (show u=Value.ref a from rx)
  obtain ⟨_,_,n,_,h1⟩:=(show ObjOk X.prog X.w H s.heap a (.lst xs) from I.hok a _ ea)
  exact PySem.W.kia_one PySem.W.kitx_list I.kIn ⟨_,h1,rfl⟩ e (fun z=>nomatch z) h
 | @frz a ob xs ea=>
  cases (show u=Value.ref a from rx)
  obtain ⟨_,_,_,n,_,h1⟩:=(show ObjOk X.prog X.w H s.heap a (.frz ob (.lst xs)) from I.hok a _ ea)
  exact PySem.W.kia_one PySem.W.kitx_list I.kIn ⟨_,h1,rfl⟩ e (fun z=>nomatch z) h
 | @tup a xs ea=>
  cases (show u=Value.ref a from rx)
  obtain ⟨_,_,_,p⟩:=(show ObjOk X.prog X.w H s.heap a (.tup xs) from I.hok a _ ea)
  obtain ⟨o,h1,h2,_⟩:=p
  exact PySem.W.kia_one PySem.W.kitx_tuple I.kIn ⟨o,h1,h2⟩ e (fun z=>nomatch z) h
 | @dK a kvs ea=>
  cases (show u=Value.ref a from rx)
  obtain ⟨_,_,vs,_,p⟩:=(show ObjOk X.prog X.w H s.heap a (.dK kvs) from I.hok a _ ea)
  obtain ⟨o,es,ep,h1,h2,_⟩:=p
  exact PySem.W.kia_one PySem.W.kitx_dict I.kIn ⟨o,h1,h2.1⟩ e (fun z=>nomatch z) h
 | @dT a kvs ea=>
  cases (show u=Value.ref a from rx)
  obtain ⟨_,_,xs,_,o,es,ep,h1,h2,_⟩:=(show ObjOk X.prog X.w H s.heap a (.dT kvs) from I.hok a _ ea)
  exact PySem.W.kia_one PySem.W.kitx_dict I.kIn ⟨o,h1,h2.1⟩ e (fun z=>nomatch z) h
 | @ins a C dx fs ea cl ha hn htk hm=>
  cases (show u=Value.ref a from rx)
  obtain ⟨mA,O,_⟩:=Hi I.hok ea
  obtain ⟨od,J,_⟩:=O.look
  exact PySem.W.kia_one (PySem.W.kitx_own (cl.get _) cl.hd ha hn htk hm) I.kIn J e (fun z=>nomatch z) h
end
structure Room (k:Nat) (A:Around):Prop where
 hd:A.handled=none
 dp:A.depth + 3 * k + 5 < recursionLimit
 un:A.units + 16 * k + 200 < cLine
theorem Room.mono {j k:Nat} {A:Around} (r:Room k A) (h:j <= k):Room j A:=⟨r.hd,by have:=r.dp;omega,by have:=r.un;omega⟩
theorem Room.deeper {k:Nat} {A:Around} (r:Room (k + 1) A) (env:Env):Room k (A.deeper env):=
 ⟨r.hd,by have:=r.dp;show A.depth + 1 + 3 * k + 5 < _;omega,by have:=r.un;show A.units + 3 + 16 * k + 200 < _;omega⟩
theorem Pt {A:Around} {C:Addr} {us:List Value} {kw:List (Str × Value)}:(A.under (.builtin "type.__call__" ⟨.ref C :: us,kw⟩)).depth=A.depth + 1:=by
 first | rfl | simp [Around.under,Code.weight,Code.isCreation,Code.isGuard,Code.isCaller,Code.frames,Code.isFrame,guardIds]
theorem Pu {A:Around} {C:Addr} {us:List Value} {kw:List (Str × Value)}:(A.under (.builtin "type.__call__" ⟨.ref C :: us,kw⟩)).units=A.units + 1:=by
 first | rfl | simp [Around.under,Code.cUnits,Code.frames,Code.isFrame]
theorem Room.make {k:Nat} {A:Around} (r:Room (k + 1) A) (C:Addr) (us:List Value) (kw:List (Str × Value)):Room k (A.under (.builtin "type.__call__" ⟨.ref C :: us,kw⟩)):=
 ⟨r.hd,by have:=r.dp;rw [Pt];omega,by have:=r.un;rw [Pu];omega⟩
theorem Room.depth {k:Nat} {A:Around} (r:Room k A):A.depth < recursionLimit:=by have:=r.dp;omega
theorem Room.units {k:Nat} {A:Around} (r:Room k A):A.units + 64 < cLine:=by have:=r.un;omega
def tNil:TA:=fun _ H Q=>Q [] H
def a96 (ta:TE) (tr:TA):TA:=fun σ H Q=>ta σ H fun x H1=>tr σ H1 fun xs H2=>Q (x :: xs) H2
section
variable {X:Cx} {e:Expr} {es:List Expr} {te:TE} {t:TA} {pos:Pos}
theorem an3:PA X [] tNil:=fun _ _ _ _ H Q I h=>Calls.spliced_nil ⟨[],H,I,.nil,h⟩
theorem Zx (ha:PE X e te) (hr:PA X es t) (hs:starEach (e :: es) X.env=(false,eval e X.env) :: starEach es X.env:=by rfl):PA X (e :: es) (a96 te t):=by
 intro pos pins s σ H Q I h
 rw [hs]
 show wpAny _ _ (spliced ((false,eval e X.env) :: backTo pos (starEach es X.env))) _ _ s
 refine Calls.spliced_cons (thn (ha pins s σ H _ I h) fun u s1 ⟨x,H1,I1,r1,q1⟩=>?_)
 exact thn (hr pos pins s1 σ H1 _ I1 q1) fun us s2 ⟨xs,H2,I2,r2,q2⟩=>⟨x :: xs,H2,I2,.cons r1 r2,q2⟩
def tTup (t:TA):TE:=fun σ H Q=>t σ H fun xs H1=>xs.length <= sizeLine /\ ∀ p,H1 p=none -> Q (.ref p) (upd H1 p (.tup xs))
def tLst (t:TA):TE:=fun σ H Q=>t σ H fun xs H1=>xs.length <= sizeLine /\ ∀ p,H1 p=none -> Q (.ref p) (upd H1 p (.lst xs))
theorem an9 {x1} (h:PA X es t):PE X (.Tuple es x1 pos) (tTup t):=by
 intro pins s σ H Q I hq
 refine wpAny_Tuple_spliced (thn (h pos pins s σ H _ I hq) fun us s1 ⟨xs,H1,I1,r,z,q⟩=>⟨by rw [<- r.length];exact z,?_⟩)
 have hf:H1 s1.heap.objs.size=none:=I1.hok.fresh (Nat.le_refl _)
 refine ⟨.ref s1.heap.objs.size,upd H1 s1.heap.objs.size (.tup xs),I1.laid (t':=s1.toks) (fun b u e=>Heap.get?_push_of_some _ e) (Nat.le_refl _) ?_,rfl,q _ hf⟩
 exact ⟨z,us,r,⟨_,Heap.get?_push_size _ rfl,rfl,_,rfl⟩⟩
theorem an5 (h:PA X es t):PE X (.List es pos) (tLst t):=by
 intro pins s σ H Q I hq
 refine wpAny_List_spliced (thn (h pos pins s σ H _ I hq) fun us s1 ⟨xs,H1,I1,r,z,q⟩=>⟨by rw [<- r.length];exact z,?_⟩)
 have hf:H1 s1.heap.objs.size=none:=I1.hok.fresh (Nat.le_refl _)
 refine ⟨.ref s1.heap.objs.size,upd H1 s1.heap.objs.size (.lst xs),I1.laid (t':=s1.toks) (fun b u e=>Heap.get?_push_of_some _ e) (Nat.le_refl _) ?_,rfl,q _ hf⟩
 exact ⟨z,us,0,r,Heap.get?_push_size _ rfl⟩
end
abbrev Sp:=List V -> Hp -> VK -> XK -> Prop
abbrev CXT:=List Env -> Hp -> Shared -> XK -> Value -> Shared -> Prop
structure Env0 (P:Program) (w:World) (K:PySem.W.Frag) (mg:Str -> Option Value) (base:Heap) (A:Around) (outer:List Env) (s:Shared) (H:Hp):Prop where
 frames:A.frames=some outer
 mod:Mod K mg base
 bs:∀ b o,base.get? b=some o -> s.heap.get? b=some o /\ H b=none
 bsz:base.objs.size <= s.heap.objs.size
 funs:s.heap.FunFrames base outer
 frf:∀ b ∈ frs outer,H b=none
 hok:HOk P w H s.heap
 bare:AllBare s.gens
def CE (outer:List Env) (P:Program) (w:World) (H:Hp) (s:Shared) (Q:VK) (u:Value) (s':Shared):Prop:=
 ∃ v H',s'.os=s.os /\ AllBare s'.gens /\ Un (frs outer) [] H H' s.heap s'.heap /\ HOk P w H' s'.heap /\ RelV v u /\ Q v H'
def CR (CX:CXT) (outer:List Env) (P:Program) (w:World) (H:Hp) (s:Shared) (Q:VK) (E:XK) (r:Result) (s':Shared):Prop:=
 match r with
 | .ok (.ret u)=>CE outer P w H s Q u s'
 | .ok _=>False
 | .error e=>CX outer H s E e s'
structure FnOk (P:Program) (w:World) (K:PySem.W.Frag) (mg:Str -> Option Value) (base:Heap) (CX:CXT) (k:Nat) (f:Addr) (fd:FuncData) (ps:List Str) (sp:Sp):Prop where
 len:∀ vs H Q E,sp vs H Q E -> vs.length=ps.length
 run:∀ (A:Around) (outer:List Env) (s:Shared) (H:Hp) (args:Args) (us:List Value) (vs:List V) (Q:VK) (E:XK),Room k A -> Env0 P w K mg base A outer s H -> BindsTo s fd args (ps.zip us) -> Vals vs us -> sp vs H Q E ->
  codeAny (model P w) A (.call (.ref f) args) (CR CX outer P w H s Q E) s
theorem FnOk.imp {P:Program} {w:World} {K:PySem.W.Frag} {mg:Str -> Option Value} {base:Heap} {CX:CXT} {k:Nat} {f:Addr} {fd:FuncData} {ps:List Str} {sp sp':Sp} (F:FnOk P w K mg base CX k f fd ps sp)
  (h:∀ vs H Q E,sp' vs H Q E -> sp vs H Q E):FnOk P w K mg base CX k f fd ps sp':=
 ⟨fun vs H Q E q=>F.len vs H Q E (h _ _ _ _ q),fun A outer s H args us vs Q E hr he hb hv hs=>F.run A outer s H args us vs Q E hr he hb hv (h _ _ _ _ hs)⟩
theorem Env0.make {P:Program} {w:World} {K:PySem.W.Frag} {mg:Str -> Option Value} {base:Heap} {A:Around} {outer:List Env} {s:Shared} {H:Hp} (e:Env0 P w K mg base A outer s H) (C:Addr) (us:List Value) (kw:List (Str × Value)) :
  Env0 P w K mg base (A.under (.builtin "type.__call__" ⟨.ref C :: us,kw⟩)) outer s H:=⟨by first | exact e.frames | (simpa [Around.under,Code.envs,Code.isFrame,pushEnvs] using e.frames),e.mod,e.bs,e.bsz,e.funs,e.frf,e.hok,e.bare⟩
section
variable {X:Cx} {pins:List (Addr × Obj)} {σ:St} {H:Hp} {s s':Shared}
theorem Inv.env0 (I:Inv X pins σ H s):Env0 X.prog X.w X.K X.mg X.base X.A X.stack s H:=
 ⟨I.ok.frames,I.ok.mod,I.bs,Nat.le_trans I.ok.bsz I.sz,I.stack,I.stkFree,I.hok,I.bare⟩
theorem Inv.after {Q:VK} {u:Value} (I:Inv X pins σ H s) (h:CE X.stack X.prog X.w H s Q u s'):EP X pins σ Q u s':=by
 obtain ⟨v,H',os,bare,un,hok,r,q⟩:=h
 obtain ⟨hh,g,d,t,os'⟩:=s'
 obtain rfl:os' = s.os:=os
 exact ⟨v,H',I.call (h':=hh) (g':=g) (d':=d) (t':=t) (ch:=[]) un hok bare (fun b z=>absurd z (by simp)),r,q⟩
end
def Binds (K:PySem.W.Frag) (fd:FuncData) (ps:List Str) (ds:List Value):Prop:=
 ∀ (s:Shared) (us:List Value),K.In s.heap -> (us ++ ds).length=ps.length -> BindsTo s fd ⟨us,[]⟩ (ps.zip (us ++ ds))
theorem Binds.all {K:PySem.W.Frag} {fd:FuncData} {ps:List Str} (h:∀ us:List Value,us.length=ps.length -> bindArgs fd ⟨us,[]⟩=pure (ps.zip us)):Binds K fd ps []:=fun s us _ hl=>by
 rw [List.append_nil] at hl ⊢
 exact .of_eq (h us hl)
section
variable {X:Cx} {CX:CXT} {k:Nat} {f C:Addr} {fd:FuncData} {ps:List Str} {sp:Sp} {dvs:List V} {ds:List Value} {E:XK} {x m:Str} {p pos apos:Pos} {e o:Expr} {es:List Expr} {ta:TE} {t:TA}
structure Mk (K:PySem.W.Frag) (C f:Addr):Prop where
 makes:PySem.W.makesIn K C=true
 init:PySem.W.findIn K (.ref C) "__init__" = some (some (.ref f))
 fn:PySem.W.isFn K (.ref f)=true
 kp:PySem.W.keepIn K (.ref C)=true
end
section
variable {X:Cx} {CX:CXT} {k:Nat} {f C:Addr} {fd:FuncData} {ps ks:List Str} {sp:Sp} {E:XK} {x m:Str} {p pos apos kpos:Pos} {e o:Expr} {es:List Expr} {kws:List Keyword} {te ta:TE} {t tk:TA} {nm:Option Str}
variable {g:List Value -> List Value -> List Value} {gV:List V -> List V -> List V}
end
structure Ai (N P:List Str) (sc:Scope):Prop where
 kind:sc.kind = .function
 co:sc.isCoroutine=false
 gen:sc.isGenerator=false
 nd:N.Nodup
 pre:N.take P.length=P
 par:∀ x ∈ P,sc.names.lookup x=some .local \/ sc.names.lookup x=some .cell
 nofree:∀ y ∈ sc.names,y.2 ≠ .free
theorem Kg {kindOf:Str -> Option NameKind} {x:Str}:∀ {binds:List (Str × Value)} {m:Str -> Option Value},(∀ v,(x,v) ∉ binds) -> bindL kindOf binds m x=m x
 | [],_,_=>rfl
 | (n,v) :: r,m,h=>by
  unfold bindL
  rw [Kg fun w hw=>h w (List.mem_cons_of_mem _ hw)]
  split
  ·have:x ≠ n:=by rintro rfl;exact h v List.mem_cons_self
   simp [this]
  ·rfl
theorem Ke {kindOf:Str -> Option NameKind} {x:Str}:∀ {binds:List (Str × Value)} {m:Str -> Option Value},(∀ v,(x,v) ∉ binds) -> bindC kindOf binds m x=m x
 | [],_,_=>rfl
 | (n,v) :: r,m,h=>by
  unfold bindC
  rw [Ke fun w hw=>h w (List.mem_cons_of_mem _ hw)]
  split
  ·rfl
  ·have:x ≠ n:=by rintro rfl;exact h v List.mem_cons_self
   simp [this]
theorem Kf {kindOf:Str -> Option NameKind} {x:Str} {v:Value}:∀ {P:List Str} {vs:List Value} {i:Nat} {m:Str -> Option Value},P.Nodup -> P[i]? = some x -> vs[i]? = some v -> kindOf x=some .local ->
  bindL kindOf (P.zip vs) m x=some v
 | [],_,_,_,_,h,_,_=>by simp at h
 | _ :: _,[],_,_,_,_,h,_=>by simp at h
 | p :: P,w :: vs,0,m,nd,h1,h2,hk=>by
  simp at h1 h2;subst h1;subst h2
  show bindL kindOf ((p,w) :: P.zip vs) m p=_
  unfold bindL
  rw [Kg fun v hv=>(List.nodup_cons.mp nd).1 (List.of_mem_zip hv).1,if_pos hk]
  simp
 | p :: P,w :: vs,i + 1,m,nd,h1,h2,hk=>by
  show bindL kindOf ((p,w) :: P.zip vs) m x=_
  unfold bindL
  exact Kf (i:=i) (List.nodup_cons.mp nd).2 (by simpa using h1) (by simpa using h2) hk
theorem Kd {kindOf:Str -> Option NameKind} {x:Str} {v:Value}:∀ {P:List Str} {vs:List Value} {i:Nat} {m:Str -> Option Value},P.Nodup -> P[i]? = some x -> vs[i]? = some v -> kindOf x ≠ some .local ->
  bindC kindOf (P.zip vs) m x=some v
 | [],_,_,_,_,h,_,_=>by simp at h
 | _ :: _,[],_,_,_,_,h,_=>by simp at h
 | p :: P,w :: vs,0,m,nd,h1,h2,hk=>by
  simp at h1 h2;subst h1;subst h2
  show bindC kindOf ((p,w) :: P.zip vs) m p=_
  unfold bindC
  rw [Ke fun v hv=>(List.nodup_cons.mp nd).1 (List.of_mem_zip hv).1,if_neg hk]
  simp
 | p :: P,w :: vs,i + 1,m,nd,h1,h2,hk=>by
  show bindC kindOf ((p,w) :: P.zip vs) m x=_
  unfold bindC
  exact Kd (i:=i) (List.nodup_cons.mp nd).2 (by simpa using h1) (by simpa using h2) hk
def El (N:List Str) (vs:List V):St:=vs.map some ++ List.replicate (N.length - vs.length) none
def cxOf (CX:CXT) (P:Program) (w:World) (K:PySem.W.Frag) (mg:Str -> Option Value) (base:Heap) (N:List Str) (qual:Str) (scope:Scope) (f:Addr) (cd:Value) (A:Around) (outer:List Env) (s:Shared) (H:Hp) (E:XK):Cx where
 prog:=P
 w:=w
 K:=K
 mg:=mg
 base:=base
 A:=A.deeper (envOfC qual scope s.heap.objs.size f cd)
 N:=N
 s₀:=s
 H₀:=H
 env:=envOfC qual scope s.heap.objs.size f cd
 outer:=outer
 stack:=envOfC qual scope s.heap.objs.size f cd :: outer
 ex:=[]
 calm:=true
 fn:=fun _=>true
 pn:=[]
 xe:=fun e s'=>wpAny (model P w) (A.deeper (envOfC qual scope s.heap.objs.size f cd)) (leaving (envOfC qual scope s.heap.objs.size f cd) e) (fun _ s''=>CX outer H s E e s'') (fun e' s''=>CX outer H s E e' s'') s'
theorem E8 {sc:Scope} {n:Nat} {x:Str} (h:sc.names.lookup x=some .cell):∃ c,(cellsFrom n sc.names []).lookup x=some c:=by
 have q:=PySem.W.cellsFrom_some sc.names n [] (.inl h)
 exact Option.isSome_iff_exists.mp q
theorem Tu {CX:CXT} {P:Program} {w:World} {K:PySem.W.Frag} {mg:Str -> Option Value} {base:Heap} {N ps:List Str} {qual:Str} {scope:Scope} {f:Addr} {cd:Value} {A:Around} {outer:List Env} {s s1:Shared} {H:Hp} {E:XK} {us:List Value} {vs:List V}
  (S:Ai N ps scope) (hd:A.handled=none) (e0:Env0 P w K mg base A outer s H) (hl:vs.length=ps.length) (r:Vals vs us)
  (x:InCallC s s.heap.objs.size (bindL (envOfC qual scope s.heap.objs.size f cd).kindOf (ps.zip us) fun _=>none) (cellsFrom (s.heap.objs.size + 1) scope.names []) (bindC (envOfC qual scope s.heap.objs.size f cd).kindOf (ps.zip us) fun _=>none) s1) :
  Inv (cxOf CX P w K mg base N qual scope f cd A outer s H E) [] (El N vs) H s1:=by
 have hpl:ps.length <= N.length:=by have:=congrArg List.length S.pre;rw [List.length_take] at this;omega
 obtain ⟨h1,tk,rfl,hk⟩:=x.done
 have noA:∀ b:Addr,b ∉ (cxOf CX P w K mg base N qual scope f cd A outer s H E).ex:=fun b z=>absurd (show b ∈ ([]:List Addr) from z) (by simp)
 refine ⟨⟨e0.mod,S.kind,rfl,rfl,Nat.le_refl _,fun y z c h1 h2=>?_,fun y hy=>?_,fun y c _ h=>?_,fun _=>hd,Around.frames_deeper e0.frames,.inr ⟨rfl,rfl⟩,fun b z=>absurd z (noA b),e0.bs,e0.bsz,fun b _ _=>noA b,fun b z=>absurd z (noA b),e0.funs,e0.frf⟩,
  rfl,e0.bare,Un.kept hk,⟨_,x.toInCall.ns,fun i y v h1 h2 h3=>?_⟩,fun y c h=>⟨_,x.cell y c h⟩,e0.hok.fresh (Nat.le_refl _),fun y c h=>?_,fun p hp=>absurd (show p ∈ ([]:List (Addr × Obj)) from hp) (by simp),e0.hok.kept hk,?_⟩
 ·exact name_of_addr x.apart (PySem.mem_of_lookup h1) (PySem.mem_of_lookup h2)
 ·have hy:scope.names.lookup y=some .cell \/ scope.names.lookup y=some .free:=hy
  rcases hy with hy | hy
  ·exact E8 hy
  ·exact absurd rfl (S.nofree _ (PySem.mem_of_lookup hy))
 ·exact Nat.le_of_lt (x.above y c (PySem.mem_of_lookup h))
 ·have hi:i < vs.length:=by
   unfold El at h2
   by_cases hi:i < vs.length
   ·exact hi
   ·rw [List.getElem?_append_right (by simpa using hi)] at h2
    rw [List.getElem?_replicate] at h2
    split at h2 <;> cases h2
  have ha:vs[i]? = some v:=by
   unfold El at h2
   rw [List.getElem?_append_left (by simpa using hi),List.getElem?_map] at h2
   cases e:vs[i]? with
   | none=>rw [e] at h2;cases h2
   | some a=>rw [e] at h2;cases h2;rfl
  obtain ⟨u,hu,rv⟩:=r.get ha
  have hp:ps[i]? = some y:=by
   rw [<- S.pre,List.getElem?_take_of_lt (by omega)];exact h1
  have ndP:ps.Nodup:=by rw [<- S.pre];exact S.nd.sublist (List.take_sublist _ _)
  refine ⟨u,rv,?_⟩
  rcases S.par y (List.mem_of_getElem? hp) with k | k
  ·exact .inl ⟨k,Kf ndP hp hu k⟩
  ·obtain ⟨c,e⟩:=E8 (n:=s.heap.objs.size + 1) k
   refine .inr ⟨.inl k,c,e,?_⟩
   have q:=x.cell y c e
   rw [Kd ndP hp hu (by show scope.names.lookup y ≠ _;rw [k];decide)] at q
   exact q
 ·exact e0.hok.fresh (Nat.le_of_lt (x.above y c (PySem.mem_of_lookup h)))
 ·unfold El
  show _=N.length
  rw [List.length_append,List.length_map,List.length_replicate]
  omega
theorem ad6 {CX:CXT} {P:Program} {w:World} {K:PySem.W.Frag} {mg:Str -> Option Value} {base:Heap} {k:Nat} {f:Addr} {name qual:Str} {params:Arguments} {body:List Stmt} {scope:Scope} {dV kV doc pm cdv ct oc:Value} {an od:Option Addr}
  {osl:Array (Option Value)} {N ps:List Str} {sp:Sp} (lk:K.lookup f=some ⟨oc,od,.func (PySem.W.fnOf name qual params body scope dV kV doc pm an cdv ct),osl⟩) (hcd:PySem.W.codeIn K cdv qual=true) (S:Ai N ps scope)
  (len:∀ vs H Q E,sp vs H Q E -> vs.length=ps.length)
  (hbody:∀ (A:Around) (outer:List Env) (s:Shared) (H:Hp) (vs:List V) (Q:VK) (E:XK),Room k (A.deeper (envOfC qual scope s.heap.objs.size f cdv)) -> sp vs H Q E ->
   ∃ t,PSs (cxOf CX P w K mg base N qual scope f cdv A outer s H E) body t /\ t { nx:=fun _ H'=>Q .non H',rt:=Q } (El N vs) H) :
  FnOk P w K mg base CX (k + 1) f (PySem.W.fnOf name qual params body scope dV kV doc pm an cdv ct) ps sp:=by
 refine ⟨len,fun A outer s H args us vs Q E hr e0 hb r hsp=>?_⟩
 have hl:=len _ _ _ _ hsp
 have KX:K.In s.heap:=e0.mod.kin.keeps fun b o e=>(e0.bs b o e).1
 have lim:s.heap.NoLimit:=e0.mod.nolimit.keeps fun b o e=>(e0.bs b o e).1
 have hkind:∀ y ∈ ps.zip us,scope.names.lookup y.1=some .local \/ (scope.names.lookup y.1=some .cell /\ ((cellsFrom (s.heap.objs.size + 1) scope.names []).lookup y.1).isSome=true):=fun ⟨n,v⟩ hy=>by
  rcases S.par n (List.of_mem_zip hy).1 with q | q
  ·exact .inl q
  ·exact .inr ⟨q,PySem.W.cellsFrom_some _ _ _ (.inl q)⟩
 refine codeAny_call_function hr.depth (KX _ _ lk) rfl S.co S.gen rfl (PySem.W.codeRec_of KX hcd) (hb _ _ _ _ ?_)
 refine wpAny_newFunctionEnv_cells S.kind hkind fun env he s1 x=>?_
 subst he
 refine ⟨lim.keeps x.toInCall.keep,codeAny_func ?_⟩
 obtain ⟨t,ht,hq⟩:=hbody A outer s H vs Q E (hr.deeper _) hsp
 have I:Inv (cxOf CX P w K mg base N qual scope f cdv A outer s H E) [] (El N vs) H s1:=Tu S hr.hd e0 hl r x
 refine wpAny_mono (ht [] s1 (El N vs) H _ I hq) (fun fl s' hs=>?_) fun e s' hs=>hs
 have fin:∀ {σ':St} {H':Hp} {v:V} {u:Value},Inv (cxOf CX P w K mg base N qual scope f cdv A outer s H E) [] σ' H' s' -> RelV v u -> Q v H' -> CE outer P w H s Q u s':=
  fun {σ' H' v u} J rv q=>⟨v,H',J.os,J.bare,J.base,J.hok,rv,q⟩
 cases fl with
 | ret u=>
  obtain ⟨v,σ',H',J,rv,q⟩:=hs
  exact fin J rv q
 | next=>
  obtain ⟨σ',H',J,q⟩:=hs
  exact fin (v:=V.non) (u:=Value.none) J rfl q
 | brk=>
  obtain ⟨_,_,_,q⟩:=hs
  exact False.elim q
 | cont=>
  obtain ⟨_,_,_,q⟩:=hs
  exact False.elim q
section
variable {X:Cx} {x:Str} {p pos:Pos} {e:Expr} {es:List Expr} {t:TA} {id T:String} {r:List V -> Hp -> VK -> Prop}
def tCB (r:List V -> Hp -> VK -> Prop) (t:TA):TE:=fun σ H Q=>t σ H fun vs H1=>r vs H1 Q
theorem Xd (hc:Bl X (.builtin id) r) (hg:Gl X x) (hm:X.mg x=none) (hv:bootBuiltins x=some (.builtin id)) (ha:PA X (e :: es) t) (hn:x ≠ "__name__" := by decide) (hdb:(x == ("__debug__" : Str))=false:=by decide)
  (he:starEach (e :: es) X.env=(false,eval e X.env) :: starEach es X.env:=by rfl) (hpl:(backTo pos (starEach es X.env)).any (·.1)=false:=by rfl):PE X (.Call (.Name x p) (e :: es) [] pos) (tCB r t):=by
 intro pins s σ H Q I h
 refine wpAny_Call_Name_kw (Er I hg hm hv ?_ hn hdb)
 exact PyProof.Rows.callWith_builtin1 (thn (ha pos pins s σ H _ I h) fun us s1 ⟨vs,H1,I1,r1,q1⟩=>hc pins s1 σ H1 vs us Q I1 r1 q1) he hpl
theorem Ur (hc:Bl X (.type T) r) (hg:Gl X x) (hm:X.mg x=none) (hv:bootBuiltins x=some (.type T)) (ha:PA X (e :: es) t) (hn:x ≠ "__name__" := by decide) (hdb:(x == ("__debug__" : Str))=false:=by decide)
  (he:starEach (e :: es) X.env=(false,eval e X.env) :: starEach es X.env:=by rfl) (hpl:(backTo pos (starEach es X.env)).any (·.1)=false:=by rfl):PE X (.Call (.Name x p) (e :: es) [] pos) (tCB r t):=by
 intro pins s σ H Q I h
 refine wpAny_Call_Name_kw (Er I hg hm hv ?_ hn hdb)
 exact PyProof.Rows.callWith_type1 (thn (ha pos pins s σ H _ I h) fun us s1 ⟨vs,H1,I1,r1,q1⟩=>hc pins s1 σ H1 vs us Q I1 r1 q1) he hpl
end
end L2
namespace HT
open PySem PyProof.Rows
section
open PySem.SeqAt
open PySem.AutoSeq1 (wpAny_loadPart')
open PySem.MeetsSeq PySem.MeetsSeq2 PySem.MeetsSeq3
end
section
variable {prog:Program} {w:World} {A:Around} {E:Value -> Shared -> Prop} {s:Shared}
theorem cat_tup {t b:Addr} {vs ws:List Value} {Q:Value -> Shared -> Prop} (ht:IsTup s.heap t vs.toArray) (hb:IsTup s.heap b ws.toArray) (hv:vs ≠ [])
  (h1:ws=[] -> Q (.ref t) s) (h2:ws ≠ [] -> Q (.ref s.heap.objs.size) { s with heap:=s.heap.push { cls:=.type "tuple", data:=.seq (vs ++ ws).toArray } })
  (hsz:vs.length + ws.length <= sizeLine):wpAny (model prog w) A (binaryOp .Add (.ref t) (.ref b)) Q E s:=by
 obtain ⟨⟨cls,dd,data,sl⟩,ho,hc,n,hd⟩:=id ht
 obtain ⟨⟨cls2,dd2,data2,sl2⟩,ho2,hc2,n2,hd2⟩:=id hb
 simp only at hc hd hc2 hd2
 subst hc hd hc2 hd2
 have e:vs.toArray ++ ws.toArray=(vs ++ ws).toArray:=by simp
 by_cases hw:ws=[]
 ·exact concat_meets ⟨_,ho,rfl⟩ ⟨_,ho2,rfl⟩ noFill_tuple_add seq_tuple_add PySem.F.slot_tuple_add PySem.F.entry_tuple_add (PySem.F.args_tuple_add_2 _ _)
   (tuple_addW1 t b vs.toArray ws.toArray n n2 dd dd2 sl sl2 (by simpa using hv) (by simp [hw])) ⟨ho,ho2,h1 hw⟩
 ·refine concat_meets ⟨_,ho,rfl⟩ ⟨_,ho2,rfl⟩ noFill_tuple_add seq_tuple_add PySem.F.slot_tuple_add PySem.F.entry_tuple_add (PySem.F.args_tuple_add_2 _ _)
   (tuple_addW2 t b vs.toArray ws.toArray n n2 dd dd2 sl sl2 (by simpa using hv) (by simpa using hw) (by rw [List.size_toArray,List.size_toArray];exact hsz)) ⟨ho,ho2,?_⟩
  rw [e]
  exact h2 hw
def sIx (n d:Nat):Option Int -> Nat
 | none=>d
 | some v=>if v < 0 then (v + (n:Int)).toNat else min v.toNat n
theorem sIx_none (n d:Nat):sIx n d none=d:=rfl
theorem sIx_nat (n d k:Nat):sIx n d (some (k:Int))=min k n:=by
 show (if (k:Int) < 0 then ((k:Int) + (n:Int)).toNat else min (k:Int).toNat n)=min k n
 rw [if_neg (by omega),Int.toNat_natCast]
theorem at8 (n d:Nat) (hd:d <= n) (o:Option Int):sIx n d o <= n:=by
 cases o with
 | none=>exact hd
 | some v=>
  show (if v < 0 then (v + (n:Int)).toNat else min v.toNat n) <= n
  by_cases hv:v < 0
  ·rw [if_pos hv];omega
  ·rw [if_neg hv];exact Nat.min_le_right _ _
theorem Q5 (v:Int) (n d:Nat):(if v < 0 then max (v + (n:Int)) 0 else min v (n:Int))=((sIx n d (some v):Nat):Int):=by
 show (if v < 0 then max (v + (n:Int)) 0 else min v (n:Int))=(((if v < 0 then (v + (n:Int)).toNat else min v.toNat n):Nat):Int)
 by_cases hv:v < 0
 ·simp only [if_pos hv];omega
 ·simp only [if_neg hv];omega
theorem Oy (lo hi:Option Int) (n:Nat):Builtin.Slice.sliceAdjust lo hi 1 (n:Int)=(((sIx n 0 lo:Nat):Int),((sIx n n hi:Nat):Int)):=by
 have h1:¬ ((1:Int) < 0):=by omega
 unfold Builtin.Slice.sliceAdjust
 simp only [h1,if_false]
 refine Prod.ext ?_ ?_
 ·cases lo with
  | none=>rfl
  | some v=>exact Q5 v n 0
 ·cases hi with
  | none=>rfl
  | some v=>exact Q5 v n n
theorem Qb (i j:Nat):Builtin.Slice.slicePlaces (i:Int) (j:Int) 1=j - i:=by
 unfold Builtin.Slice.slicePlaces
 have h1:(1:Int) > 0:=by omega
 simp only [h1,if_true,Int.ediv_one]
 split <;> omega
theorem Js {v:Value} {o:Option Int} {Q:Option Int -> Shared -> Prop} (p:IsPart v o) (h:Q o s):wpAny (model prog w) A (Builtin.Slice.slicePartIndex v) Q E s:=by
 cases p with
 | none=>exact slicePart_none h
 | int i t=>exact slicePart_int h
theorem Gg {sl:Addr} {vl vu:Value} {lo hi:Option Int} {n:Nat} {Q:Int × Int × Nat -> Shared -> Prop} (hs:s.heap.IsSliceOf sl vl vu .none) (pl:IsPart vl lo) (pu:IsPart vu hi)
  (h:Q (((sIx n 0 lo:Nat):Int),1,sIx n n hi - sIx n 0 lo) s):wpAny (model prog w) A (Builtin.Slice.sliceApplied (.ref sl) (pure (n:Int))) Q E s:=by
 obtain ⟨os,hos,hcs,hds⟩:=id hs
 unfold Builtin.Slice.sliceApplied Builtin.Slice.sliceFields
 refine wpAny_bind (wpAny_bind (wpAny_field hos hds (x:=vl) rfl (wpAny_bind (wpAny_field hos hds (x:=vu) rfl (wpAny_bind (wpAny_field hos hds (x:=.none) rfl (wpAny_pure ?_)))))))
 refine wpAny_bind (slicePart_none ?_)
 show wpAny _ _ (if ((1:Int) == 0)=true then _ else _) _ _ s
 rw [if_neg (by decide)]
 refine wpAny_bind (Js pl (wpAny_bind (Js pu (wpAny_bind (wpAny_pure ?_)))))
 show wpAny _ _ (match Builtin.Slice.sliceAdjust lo hi 1 (n:Int) with | (lo,hi)=>pure (lo,(1:Int),Builtin.Slice.slicePlaces lo hi 1)) _ _ s
 rw [Oy lo hi n]
 show wpAny _ _ (pure (((sIx n 0 lo:Nat):Int),(1:Int),Builtin.Slice.slicePlaces ((sIx n 0 lo:Nat):Int) ((sIx n n hi:Nat):Int) 1)) _ _ s
 rw [Qb]
 exact wpAny_pure h
theorem Xg (xs:Array Value) (i k:Nat):((List.range k).filterMap fun (m:Nat)=>xs[((i:Int) + (m:Int) * 1).toNat]?).toArray=((xs.toList.drop i).take k).toArray:=by
 have e:(fun (m:Nat)=>xs[((i:Int) + (m:Int) * 1).toNat]?)=fun m=>xs[i + m]?:=by
  funext m
  have:((i:Int) + (m:Int) * 1).toNat=i + m:=by omega
  rw [this]
 rw [e]
 have:=pick_run xs i k
 rw [List.filterMap_map] at this
 have e2:((fun x=>xs[x]?) ∘ fun x=>i + x)=fun m=>xs[i + m]?:=rfl
 rw [e2] at this
 rw [this]
theorem getItem_tuple_cut {t sl:Addr} {items:Array Value} {vl vu:Value} {lo hi:Option Int} {Q:Value -> Shared -> Prop} (ht:IsTup s.heap t items) (hs:s.heap.IsSliceOf sl vl vu .none) (pl:IsPart vl lo) (pu:IsPart vu hi)
  (hw:¬ (sIx items.size 0 lo=0 /\ sIx items.size items.size hi=items.size))
  (h:Q (.ref s.heap.objs.size) { s with heap:=s.heap.push { cls:=.type "tuple", data:=.seq ((items.toList.drop (sIx items.size 0 lo)).take (sIx items.size items.size hi - sIx items.size 0 lo)).toArray } })
  (hsz:items.size <= sizeLine):wpAny (model prog w) A (getItem (.ref t) (.ref sl)) Q E s:=by
 have htake:sizeOk (.seq ((items.toList.drop (sIx items.size 0 lo)).take (sIx items.size items.size hi - sIx items.size 0 lo)).toArray):=by
  show ((items.toList.drop (sIx items.size 0 lo)).take (sIx items.size items.size hi - sIx items.size 0 lo)).toArray.size <= sizeLine
  rw [List.size_toArray,List.length_take,List.length_drop,Array.length_toList]
  omega
 have hj:sIx items.size items.size hi <= items.size:=at8 _ _ (Nat.le_refl _) hi
 obtain ⟨os,hos,hcs,hds⟩:=id hs
 have hTs:s.TypeIs (.ref sl) "slice" := ⟨os,hos,hcs⟩
 unfold getItem
 try with_reducible refine wpAny_holding ?_
 first | refine wpAny_bind (wpAny_pure ?_) | skip
 refine wpAny_bind (wpAny_sequenceKey ht.typeIs (by decide) ?_)
 refine wpAny_bind (wpAny_callSpecial?_slot (name:=Str.ofString "__getitem__") ht.typeIs PyProof.Rows.slot_tuple_getitem
  (wpAny_call_entry PyProof.Rows.slot_tuple_getitem ht.typeIs entry_tuple_getitem ?_ (args_tuple_getitem _ _)))
 show wpAny _ _ (Builtin.Tuple.tupleItemsOf (.ref t) >>= _) _ _ s
 refine wpAny_bind (tupleItemsOf_ ht ?_)
 refine wpAny_bind (wpAny_typeOf hTs ?_)
 rw [if_pos (by decide)]
 refine wpAny_bind (Gg hs pl pu ?_)
 have hno:¬ ((((sIx items.size 0 lo:Nat):Int) == 0 && (1:Int) == 1 && (sIx items.size items.size hi - sIx items.size 0 lo) == items.size)=true):=by
  intro q
  rw [Bool.and_eq_true,Bool.and_eq_true] at q
  have q1:((sIx items.size 0 lo:Nat):Int)=0:=eq_of_beq q.1.1
  have q2:sIx items.size items.size hi - sIx items.size 0 lo=items.size:=eq_of_beq q.2
  exact hw ⟨by omega,by omega⟩
 show wpAny _ _ (if (((sIx items.size 0 lo:Nat):Int) == 0 && (1:Int) == 1 && (sIx items.size items.size hi - sIx items.size 0 lo) == items.size)=true then _ else _) _ _ s
 rw [if_neg hno,Xg]
 first
  | exact wpAny_bind (m:=Builtin.Tuple.tupleExact _) (wpAny_newObj_type (wpAny_pure ⟨_,rfl,wpAny_pure h⟩) htake)
  | exact wpAny_bind (m:=Builtin.Tuple.tupleExact _) (wpAny_newObj_type (wpAny_bind (wpAny_pure (wpAny_pure ⟨_,rfl,wpAny_pure h⟩))) htake)
  | exact wpAny_bind (wpAny_bind (m:=Builtin.Tuple.tupleExact _) (wpAny_newObj_type (wpAny_pure (wpAny_pure ⟨_,rfl,wpAny_pure h⟩)) htake))
  | exact wpAny_bind (wpAny_bind (m:=Builtin.Tuple.tupleExact _) (wpAny_newObj_type (wpAny_pure ⟨_,rfl,wpAny_pure h⟩) htake))
end
end HT
namespace L2
open PySem PySem.Spec PyProof.Rows
abbrev TO:=St -> Hp -> (Option Int -> Hp -> Prop) -> Prop
def PO (X:Cx) (e:Option Expr) (t:TO):Prop:=
 ∀ (pins:List (Addr × Obj)) (s:Shared) (σ:St) (H:Hp) (Q:Option Int -> Hp -> Prop),Inv X pins σ H s -> t σ H Q ->
  wpAny (model X.prog X.w) X.A (evalPart e X.env) (fun u s'=>∃ o H',Inv X pins σ H' s' /\ IsPart u o /\ Q o H') X.xe s
def ac7:TO:=fun _ H Q=>Q none H
section
variable {X:Cx} {e:Expr} {te:TE} {lo hi:Option Expr} {tl th:TO} {pos p2:Pos}
theorem Z3:PO X none ac7:=by
 intro pins s σ H Q I h
 rw [evalPart_none]
 exact wpAny_pure ⟨none,H,I,.none,h⟩
def SlR (X:Cx) (r:V -> Option Int -> Option Int -> Hp -> VK -> Prop):Prop:=
 ∀ (pins:List (Addr × Obj)) (s:Shared) (σ:St) (H:Hp) (x:V) (v vl vu:Value) (lo hi:Option Int) (sl:Addr) (Q:VK),Inv X pins σ H s -> RelV x v -> s.heap.IsSliceOf sl vl vu .none -> IsPart vl lo -> IsPart vu hi -> r x lo hi H Q ->
  ∃ T id,typeLookup (.type T) "__getitem__" = pure (some (.builtin id)) /\ s.TypeIs v T /\ wpAny (model X.prog X.w) X.A (getItem v (.ref sl)) (EP X pins σ Q) X.xe s
def cutV (xs:List V) (lo hi:Option Int):List V:=(xs.drop (HT.sIx xs.length 0 lo)).take (HT.sIx xs.length xs.length hi - HT.sIx xs.length 0 lo)
theorem Gj (xs:List V) (lo hi:Option Int):(cutV xs lo hi).length <= xs.length:=by
 unfold cutV
 rw [List.length_take,List.length_drop]
 omega
def rSlT (K:PySem.W.Frag):V -> Option Int -> Option Int -> Hp -> VK -> Prop:=fun x lo hi H Q=>∃ a xs,x = .ref a /\ SqT K H a xs /\
 ¬ (HT.sIx xs.length 0 lo=0 /\ HT.sIx xs.length xs.length hi=xs.length) /\ ∀ p,H p=none -> Q (.ref p) (upd H p (.tup (cutV xs lo hi)))
theorem av6:SlR X (rSlT X.K):=by
 intro pins s σ H x v vl vu lo hi sl Q I rx hs pl pu h
 obtain ⟨a,xs,rfl,hx,hw,q⟩:=h
 cases rx
 obtain ⟨its,r,ht,hz⟩:=I.tuple hx
 have hlen:its.toArray.size=xs.length:=by rw [List.size_toArray];exact r.length.symm
 refine ⟨"tuple", _,PyProof.Rows.slot_tuple_getitem.lookup,ht.typeIs,?_⟩
 refine HT.getItem_tuple_cut ht hs pl pu (by rw [hlen];exact hw) ?_ (by rw [hlen];exact hz)
 rw [hlen]
 refine ⟨.ref s.heap.objs.size,_,I.laid (t':=s.toks) (o:=.tup (cutV xs lo hi)) (fun b ob q=>Heap.get?_push_of_some _ q) (Nat.le_refl _) ?_,rfl,q _ (I.hok.fresh (Nat.le_refl _))⟩
 exact ⟨Nat.le_trans (Gj xs lo hi) hz,_,(r.drop (HT.sIx xs.length 0 lo)).take (HT.sIx xs.length xs.length hi - HT.sIx xs.length 0 lo),IsTup.new _ _⟩
def ag0 (K:PySem.W.Frag):R2:=fun x y H Q=>∃ a b xs ys,x = .ref a /\ y = .ref b /\ SqT K H a xs /\ SqT K H b ys /\ xs ≠ [] /\ xs.length + ys.length <= sizeLine /\
 (ys=[] -> Q (.ref a) H) /\ (ys ≠ [] -> ∀ p,H p=none -> Q (.ref p) (upd H p (.tup (xs ++ ys))))
theorem Vals.nil_iff {xs:List V} {us:List Value} (r:Vals xs us):us=[] ↔ xs=[]:=by
 cases r with
 | nil=>simp
 | cons _ _=>simp
theorem op_catT:OpR X (binaryOp .Add) (ag0 X.K):=by
 intro pins s σ H x y v u Q I rx ry h
 obtain ⟨a,b,xs,ys,rfl,rfl,ha,hb,hx,hz,q1,q2⟩:=h
 cases rx
 cases ry
 obtain ⟨its,r1,p1,_⟩:=I.tuple ha
 obtain ⟨its2,r2,p2,_⟩:=I.tuple hb
 refine HT.cat_tup p1 p2 (fun z=>hx (r1.nil_iff.mp z)) (fun z=>⟨.ref a,H,I,rfl,q1 (r2.nil_iff.mp z)⟩) (fun z=>?_) (by rw [<- r1.length,<- r2.length];exact hz)
 refine ⟨.ref s.heap.objs.size,_,I.laid (t':=s.toks) (o:=.tup (xs ++ ys)) (fun b ob q=>Heap.get?_push_of_some _ q) (Nat.le_refl _) ?_,rfl,q2 (fun w=>z (r2.nil_iff.mpr w)) _ (I.hok.fresh (Nat.le_refl _))⟩
 exact ⟨by rw [List.length_append];exact hz,_,r1.append r2,IsTup.new _ _⟩
end
def ixN (n:Nat) (i:Int):Option Nat:=if 0 <= i then (if i < n then some i.toNat else none) else if -(n:Int) <= i then some (i + n).toNat else none
def atI {α:Type} (xs:List α) (i:Int):Option α:=(ixN xs.length i).bind fun j=>xs[j]?
theorem Rf {n:Nat} {i:Int} {j:Nat} (h:ixN n i=some j):seqIndex? i n=some j /\ j < n /\ -(n:Int) <= i /\ i < n:=by
 unfold ixN at h
 by_cases h0:0 <= i
 ·rw [if_pos h0] at h
  by_cases h1:i < n
  ·rw [if_pos h1] at h
   have e:i.toNat=j:=Option.some.inj h
   exact ⟨by rw [seqIndex_of h0 h1,e],by omega,by omega,h1⟩
  ·rw [if_neg h1] at h;cases h
 ·rw [if_neg h0] at h
  by_cases h1:-(n:Int) <= i
  ·rw [if_pos h1] at h
   have e:(i + n).toNat=j:=Option.some.inj h
   exact ⟨by rw [seqIndex_neg (by omega) h1,e],by omega,h1,by omega⟩
  ·rw [if_neg h1] at h;cases h
theorem Lm {α:Type} {xs:List α} {i:Int} {v:α} (h:atI xs i=some v):∃ j,seqIndex? i xs.length=some j /\ xs[j]? = some v /\ j < xs.length /\ -(xs.length:Int) <= i /\ i < xs.length:=by
 unfold atI at h
 cases e:ixN xs.length i with
 | none=>rw [e] at h;cases h
 | some j=>
  rw [e] at h
  obtain ⟨h1,h2,h3,h4⟩:=Rf e
  exact ⟨j,h1,h,h2,h3,h4⟩
theorem B6 {α:Type} {xs:List α} {j:Nat} {v:α} (h:xs[j]? = some v):atI xs (j:Int)=some v:=by
 have hj:j < xs.length:=(List.getElem?_eq_some_iff.mp h).1
 have e:ixN xs.length (j:Int)=some j:=by
  unfold ixN
  rw [if_pos (by omega),if_pos (by omega)];simp
 unfold atI;rw [e];exact h
theorem Vy {α:Type} (xs:List α) (v:α):atI (xs ++ [v]) (-1)=some v:=by
 have hl:(xs ++ [v]).length=xs.length + 1:=by simp
 have e:ixN (xs ++ [v]).length (-1)=some xs.length:=by
  unfold ixN
  rw [hl,if_neg (by decide),if_pos (by omega)]
  congr 1
  omega
 unfold atI
 rw [e]
 show (xs ++ [v])[xs.length]? = some v
 simp
def Qv (b:Expr):Prop:=∀ o i,subscripted b false o i=operate [o,i] (getItem o i)
def IxR (X:Cx) (r:R2):Prop:=
 ∀ (value slice:Expr) (pins:List (Addr × Obj)) (s:Shared) (σ:St) (H:Hp) (x y:V) (v u:Value) (Q:VK),Inv X pins σ H s -> RelV x v -> RelV y u -> r x y H Q ->
  subscripted slice false v u=operate [v,u] (getItem v u) -> wpAny (model X.prog X.w) X.A (subscriptTail value slice v u) (EP X pins σ Q) X.xe s
def MtR (X:Cx) (id:String) (r:V -> List V -> Hp -> VK -> Prop):Prop:=
 ∀ (pins:List (Addr × Obj)) (s:Shared) (σ:St) (H:Hp) (x:V) (xs:List V) (v:Value) (us:List Value) (Q:VK),Inv X pins σ H s -> RelV x v -> Vals xs us -> r x xs H Q ->
  wpAny (model X.prog X.w) X.A (call (.builtin id) (v :: us)) (EP X pins σ Q) X.xe s
section
variable {X:Cx} {a b:Expr} {ta tb:TE} {pos:Pos}
theorem a27 {r:R2} (hr:IxR X r) (ha:PE X a ta) (hb:PE X b tb) (hs:Qv b):PE X (.Subscript a b pos) (tOp r ta tb):=by
 intro pins s σ H Q I h
 exact Subscript_ (binT ha hb I h fun v u s2 x y H2 I2 rx ry q=>hr a b pins s2 σ H2 x y v u Q I2 rx ry q (hs _ _))
def rIxL (K:PySem.W.Frag):R2:=fun x y H Q=>∃ p xs i v,x = .ref p /\ y = .int i /\ SqL K H p xs /\ atI xs i=some v /\ Q v H
def rIxT (K:PySem.W.Frag):R2:=fun x y H Q=>∃ p xs i v,x = .ref p /\ y = .int i /\ SqT K H p xs /\ atI xs i=some v /\ Q v H
def rIxS:R2:=fun x y H Q=>∃ z i c,x = .str z /\ y = .int i /\ z.length <= sizeLine /\ atI z.cps.toList i=some c /\ Q (.str ⟨#[c]⟩) H
theorem Zk:IxR X (rIxL X.K):=by
 intro value slice pins s σ H x y v u Q I rx ry h hs
 obtain ⟨p,xs,i,z,rfl,rfl,hq,he,q⟩:=h
 cases rx
 obtain ⟨t,rfl⟩:=ry
 obtain ⟨its,r,pl,hz⟩:=I.list hq
 obtain ⟨j,h1,h2,h3,h4,h5⟩:=Lm he
 obtain ⟨w,ew,rw'⟩:=r.get h2
 have hl:=r.length
 have hn:=Et
 have fin:EP X pins σ Q w s:=⟨z,H,I,rw',q⟩
 by_cases h0:0 <= i
 ·have hj:i.toNat=j:=by
   rw [seqIndex_of h0 h5] at h1
   exact Option.some.inj h1
  exact item_listR pl.isList h0 (by omega) (by rw [hj];simpa using ew) fin hs
 ·have hj:(i + (its.toArray.size:Int)).toNat=j:=by
   rw [seqIndex_neg (by omega) h4] at h1
   rw [List.size_toArray,<- hl]
   exact Option.some.inj h1
  exact subscriptTail_builtinR (x:=w) pl.isList.typeIs slot_list_getitem.lookup
   (wpAny_getItem_list_neg (Q:=fun r s'=>r=w /\ EP X pins σ Q r s') pl.isList (by omega) (by rw [List.size_toArray] <;> omega) (by omega) (by rw [hj];simpa using ew) ⟨rfl,fin⟩) hs
theorem aj8:IxR X (rIxT X.K):=by
 intro value slice pins s σ H x y v u Q I rx ry h hs
 obtain ⟨p,xs,i,z,rfl,rfl,hq,he,q⟩:=h
 cases rx
 obtain ⟨t,rfl⟩:=ry
 obtain ⟨its,r,pl,hz⟩:=I.tuple hq
 obtain ⟨j,h1,h2,h3,h4,h5⟩:=Lm he
 obtain ⟨w,ew,rw'⟩:=r.get h2
 have hl:=r.length
 have hn:=Et
 have fin:EP X pins σ Q w s:=⟨z,H,I,rw',q⟩
 exact subscriptTail_builtinR (x:=w) pl.typeIs slot_tuple_getitem.lookup
  (getItem_tuple (j:=j) (Q:=fun r s'=>r=w /\ EP X pins σ Q r s') pl (by omega) (by omega) (by rw [List.size_toArray,<- hl];exact h1) (by simpa using ew) ⟨rfl,fin⟩) hs
theorem aj7:IxR X rIxS:=by
 intro value slice pins s σ H x y v u Q I rx ry h hs
 obtain ⟨z,i,c,rfl,rfl,hz,he,q⟩:=h
 obtain ⟨t,rfl⟩:=rx
 obtain ⟨t',rfl⟩:=ry
 obtain ⟨j,h1,h2,h3,h4,h5⟩:=Lm he
 have hl:z.cps.toList.length=z.length:=by simp [Str.length]
 rw [hl] at h1 h4 h5
 have hn:=Et
 exact tail_any (typeIs_str s z t) slot_str_getitem.lookup (getItem_str (c:=c) (by
  have e1:decide (i < -(2 ^ 63:Int))=false:=decide_eq_false (by omega)
  have e2:decide (i ≥ 2 ^ 63)=false:=decide_eq_false (by omega)
  rw [e1,e2,Bool.or_false]) (by rw [h1];simpa using h2) ⟨.str ⟨#[c]⟩,H,I.tok _,⟨_,rfl⟩,q⟩) hs
theorem Pw (its:List Value) (n j:Nat) (u:Value):Obj.mapSeq (·.setIfInBounds j u) { cls:=.type "list", data:=.seq its.toArray n }={ cls:=.type "list", data:=.seq (its.set j u).toArray n }:=by
 simp [Obj.mapSeq]
theorem Inv.lst {pins:List (Addr × Obj)} {σ:St} {H:Hp} {s:Shared} {p:Addr} {xs:List V} (I:Inv X pins σ H s) (h:H p=some (.lst xs)) :
  ∃ (its:List Value) (n:Nat),Vals xs its /\ s.heap.get? p=some { cls:=.type "list", data:=.seq its.toArray n } /\ xs.length <= sizeLine:=by
 obtain ⟨z,its,n,r,e⟩:=I.hok p _ h
 exact ⟨its,n,r,e,z⟩
theorem Inv.lstUpd {pins:List (Addr × Obj)} {σ:St} {H:Hp} {s:Shared} {p:Addr} {xs ys:List V} {its its':List Value} {n n':Nat} {f:Obj -> Obj} (I:Inv X pins σ H s) (h:H p=some (.lst xs))
  (ho:s.heap.get? p=some { cls:=.type "list", data:=.seq its.toArray n }) (hf:f { cls:=.type "list", data:=.seq its.toArray n }={ cls:=.type "list", data:=.seq its'.toArray n' }) (r:Vals ys its') (hz:ys.length <= sizeLine) (t:Nat) :
  Inv X pins σ (upd H p (.lst ys)) { s with heap:=s.heap.update p f,toks:=t }:=by
 have e:(s.heap.update p f).get? p=some { cls:=.type "list", data:=.seq its'.toArray n' }:=by
  rw [Heap.get?_update_self f ho (by rw [hf] <;> rfl),hf]
 refine I.write (x:=p) (e:=p) (by rw [h];trivial) (.inl rfl) (fun b u hb q=>(Heap.get?_update_other _ _ (Ne.symm hb)).trans q) ⟨_,e⟩ ?_
 exact ⟨hz,its',n',r,e⟩
def a40:V -> V -> V -> Hp -> (Hp -> Prop) -> Prop:=fun o i v H Q=>∃ p xs k j,o = .ref p /\ i = .int k /\ H p=some (.lst xs) /\ ixN xs.length k=some j /\ Q (upd H p (.lst (xs.set j v)))
theorem Ya:PSet X a40:=by
 intro pins s σ H o i v ov iv u Q I ro ri rv h
 obtain ⟨p,xs,k,j,rfl,rfl,hp,hj,q⟩:=h
 cases ro
 obtain ⟨t,rfl⟩:=ri
 obtain ⟨its,n,r,ho,hz⟩:=I.lst hp
 obtain ⟨h1,h2,h3,h4⟩:=Rf hj
 have hl:=r.length
 have hn:=Et
 have I':Inv X pins σ (upd H p (.lst (xs.set j v))) { s with heap:=s.heap.update p (Obj.mapSeq (·.setIfInBounds j u)) }:=
  I.lstUpd hp ho (Pw its n j u) (r.set rv j) (by rw [List.length_set];exact hz) s.toks
 by_cases h0:0 <= k
 ·have hk:k.toNat=j:=by
   rw [seqIndex_of h0 h4] at h1
   exact Option.some.inj h1
  exact PySem.W.ki_setAt ho h0 (by omega) (by rw [List.size_toArray,<- hl];exact h4) (by rw [hk];exact ⟨_,I',q⟩)
 ·have hk:(k + (its.toArray.size:Int)).toNat=j:=by
   rw [seqIndex_neg (by omega) h3] at h1
   rw [List.size_toArray,<- hl]
   exact Option.some.inj h1
  exact PySem.W.ki_setBack ho (by omega) (by rw [List.size_toArray,<- hl];exact h3) (by omega) (by rw [hk];exact ⟨_,I',q⟩)
theorem Mm (lo hi:Option Int) (n:Nat):(sliceBounds lo hi none n).1=((HT.sIx n 0 lo:Nat):Int) /\ (sliceBounds lo hi none n).2.1=((HT.sIx n n hi:Nat):Int) /\ (sliceBounds lo hi none n).2.2=1:=by
 refine ⟨?_,?_,rfl⟩
 ·cases lo with
  | none=>simp [sliceBounds,HT.sIx]
  | some i=>
   simp only [sliceBounds,HT.sIx,Option.getD_none,show (1:Int) > 0 by decide,if_true]
   by_cases h:i < 0
   ·simp only [h,if_true] <;> omega
   ·simp only [h,if_false] <;> omega
 ·cases hi with
  | none=>simp [sliceBounds,HT.sIx]
  | some i=>
   simp only [sliceBounds,HT.sIx,Option.getD_none,show (1:Int) > 0 by decide,if_true]
   by_cases h:i < 0
   ·simp only [h,if_true] <;> omega
   ·simp only [h,if_false] <;> omega
theorem J9 (its:List Value) (lo hi:Option Int):slicePick its.toArray lo hi none=((its.drop (HT.sIx its.length 0 lo)).take (HT.sIx its.length its.length hi - HT.sIx its.length 0 lo)).toArray:=by
 obtain ⟨h1,h2,h3⟩:=Mm lo hi its.toArray.size
 unfold slicePick
 rw [h1,h2,h3]
 simp only [sliceRange_one,pick_run,List.size_toArray] <;> rfl
def rSlL (K:PySem.W.Frag):V -> Option Int -> Option Int -> Hp -> VK -> Prop:=fun x lo hi H Q=>∃ a xs,x = .ref a /\ SqL K H a xs /\ ∀ p,H p=none -> Q (.ref p) (upd H p (.lst (cutV xs lo hi)))
theorem ac1:SlR X (rSlL X.K):=by
 intro pins s σ H x v vl vu lo hi sl Q I rx hs pl pu h
 obtain ⟨a,xs,rfl,hx,q⟩:=h
 cases rx
 obtain ⟨its,r,ht,hz⟩:=I.list hx
 have hlen:=r.length
 refine ⟨"list", _,slot_list_getitem.lookup,ht.isList.typeIs,?_⟩
 refine wpAny_getItem_list_slice ht.isList hs pl pu .none (by simp) ?_ (by rw [List.size_toArray] <;> omega)
 rw [J9,<- hlen]
 refine ⟨.ref s.heap.objs.size,_,I.laid (t':=s.toks) (o:=.lst (cutV xs lo hi)) (fun b ob q=>Heap.get?_push_of_some _ q) (Nat.le_refl _) ?_,rfl,q _ (I.hok.fresh (Nat.le_refl _))⟩
 exact ⟨Nat.le_trans (Gj xs lo hi) hz,_,0,(r.drop (HT.sIx xs.length 0 lo)).take (HT.sIx xs.length xs.length hi - HT.sIx xs.length 0 lo),Heap.get?_push_size _ rfl⟩
def A7:V -> Bool
 | .non=>true
 | .bl _=>true
 | .int _=>true
 | .str _=>true
 | _=>false
def eqV:V -> V -> Bool
 | .non,.non=>true
 | .bl a,.bl b=>a == b
 | .bl a,.int b=>(if a then 1 else 0) == b
 | .int a,.bl b=>a == (if b then 1 else 0)
 | .int a,.int b=>a == b
 | .str a,.str b=>a == b
 | _,_=>false
theorem Pi {A:Around} {s:Shared} {y x:V} {u v:Value} (ry:RelV y u) (rx:RelV x v) (fy:A7 y=true) (fx:A7 x=true):SeqAt.EqAt A s u v (eqV y x):=by
 cases y with
 | non=>
  cases ry
  cases x with
  | non=>cases rx;exact SeqAt.EqAt.same _
  | bl b=>cases rx;exact SeqAt.EqAt.none_bool b
  | int b=>obtain ⟨t,rfl⟩:=rx;exact SeqAt.EqAt.none_int b t
  | str b=>obtain ⟨t,rfl⟩:=rx;exact SeqAt.EqAt.none_str b t
  | _=>exact absurd (show false=true from fx) Bool.false_ne_true
 | bl a=>
  cases ry
  cases x with
  | non=>cases rx;exact SeqAt.EqAt.bool_none a
  | bl b=>cases rx;exact SeqAt.EqAt.bool_bool a b
  | int b=>obtain ⟨t,rfl⟩:=rx;exact SeqAt.EqAt.bool_int a b t
  | str b=>obtain ⟨t,rfl⟩:=rx;exact SeqAt.EqAt.bool_str a b t
  | _=>exact absurd (show false=true from fx) Bool.false_ne_true
 | int a=>
  obtain ⟨t',rfl⟩:=ry
  cases x with
  | non=>cases rx;exact SeqAt.EqAt.int_none a t'
  | bl b=>cases rx;exact SeqAt.EqAt.int_bool a t' b
  | int b=>obtain ⟨t,rfl⟩:=rx;exact SeqAt.EqAt.int_int a t' b t
  | str b=>obtain ⟨t,rfl⟩:=rx;exact SeqAt.EqAt.int_str a t' b t
  | _=>exact absurd (show false=true from fx) Bool.false_ne_true
 | str a=>
  obtain ⟨t',rfl⟩:=ry
  cases x with
  | non=>cases rx;exact SeqAt.EqAt.str_none a t'
  | bl b=>cases rx;exact SeqAt.EqAt.str_bool a t' b
  | int b=>obtain ⟨t,rfl⟩:=rx;exact SeqAt.EqAt.str_int a t' b t
  | str b=>obtain ⟨t,rfl⟩:=rx;exact SeqAt.EqAt.str_str a t' b t
  | _=>exact absurd (show false=true from fx) Bool.false_ne_true
 | _=>exact absurd (show false=true from fy) Bool.false_ne_true
def eqU (x:V) (u:Value):Bool:=match u with
 | .none=>eqV .non x
 | .bool b=>eqV (.bl b) x
 | .int i _=>eqV (.int i) x
 | .str z _=>eqV (.str z) x
 | _=>false
theorem Wd {x y:V} {u:Value} (r:RelV y u) (f:A7 y=true):eqU x u=eqV y x:=by
 cases y with
 | non=>cases r;rfl
 | bl b=>cases r;rfl
 | int i=>obtain ⟨t,rfl⟩:=r;rfl
 | str z=>obtain ⟨t,rfl⟩:=r;rfl
 | _=>exact absurd (show false=true from f) Bool.false_ne_true
theorem E5 {x:V}:∀ {xs:List V} {us:List Value},Vals xs us -> xs.all A7=true -> us.any (eqU x)=xs.any fun y=>eqV y x
 | _,_,.nil,_=>rfl
 | y :: xs,u :: us,.cons r t,f=>by
  rw [List.all_cons,Bool.and_eq_true] at f
  rw [List.any_cons,List.any_cons,Wd r f.1,E5 t f.2]
theorem Dz {A:Around} {s:Shared} {x:V} {v:Value} (rx:RelV x v) (fx:A7 x=true):∀ {xs:List V} {us:List Value},Vals xs us -> xs.all A7=true -> ∀ u ∈ us,SeqAt.EqAt A s u v (eqU x u)
 | _,_,.nil,_=>fun u hu=>by cases hu
 | y :: xs,u :: us,.cons r t,f=>fun u' hu=>by
  rw [List.all_cons,Bool.and_eq_true] at f
  rcases List.mem_cons.mp hu with rfl | hu
  ·rw [Wd r f.1];exact Pi r rx f.1 fx
  ·exact Dz rx fx t f.2 u' hu
def inV (x:V) (xs:List V):Bool:=xs.any fun y=>eqV y x
def rIn (K:PySem.W.Frag) (neg:Bool):R2:=fun x y H Q=>∃ p xs,y = .ref p /\ (SqL K H p xs \/ SqT K H p xs) /\ A7 x=true /\ xs.all A7=true /\ Q (.bl (if neg then !inV x xs else inV x xs)) H
theorem Uo:OpR X (compareOp .In) (rIn X.K false):=by
 intro pins s σ H x y v u Q I rx ry h
 obtain ⟨p,xs,rfl,hq,fx,fs,q⟩:=h
 cases ry
 rcases hq with hq | hq
 ·obtain ⟨its,r,pl,hz⟩:=I.list hq
  refine SeqAt.in_listAt (eqU x) pl.isList (fun w hw=>Dz rx fx r fs w (by simpa using hw)) ⟨.bl _,H,I,rfl,?_⟩
  rw [show its.toArray.any (eqU x)=its.any (eqU x) by simp,E5 r fs]
  exact q
 ·obtain ⟨its,r,pl,hz⟩:=I.tuple hq
  refine SeqAt.in_tupleAt (eqU x) pl (fun w hw=>Dz rx fx r fs w (by simpa using hw)) ⟨.bl _,H,I,rfl,?_⟩
  rw [show its.toArray.any (eqU x)=its.any (eqU x) by simp,E5 r fs]
  exact q
theorem Me:OpR X (compareOp .NotIn) (rIn X.K true):=by
 intro pins s σ H x y v u Q I rx ry h
 obtain ⟨p,xs,rfl,hq,fx,fs,q⟩:=h
 cases ry
 rcases hq with hq | hq
 ·obtain ⟨its,r,pl,hz⟩:=I.list hq
  refine SeqAt.notIn_listAt (eqU x) pl.isList (fun w hw=>Dz rx fx r fs w (by simpa using hw)) ⟨.bl _,H,I,rfl,?_⟩
  rw [show its.toArray.any (eqU x)=its.any (eqU x) by simp,E5 r fs]
  exact q
 ·obtain ⟨its,r,pl,hz⟩:=I.tuple hq
  refine SeqAt.notIn_tupleAt (eqU x) pl (fun w hw=>Dz rx fx r fs w (by simpa using hw)) ⟨.bl _,H,I,rfl,?_⟩
  rw [show its.toArray.any (eqU x)=its.any (eqU x) by simp,E5 r fs]
  exact q
theorem Lq:Bl X (.builtin "len") (fun xs H Q=>∃ p ys,xs=[.ref p] /\ (SqL X.K H p ys \/ SqT X.K H p ys) /\ Q (.int ys.length) H):=by
 intro pins s σ H xs us Q I r h
 obtain ⟨p,ys,rfl,hq,q⟩:=h
 obtain ⟨u,rfl,rx⟩:=Fr r
 cases rx
 have hn:=Et
 rcases hq with hq | hq
 ·obtain ⟨its,r',pl,hz⟩:=I.list hq
  have hlen:=r'.length
  exact Calls.call_len_list pl.isList (by simp only [List.size_toArray] <;> omega) ⟨.int ys.length,H,I.tok _,⟨s.toks + 1,by rw [List.size_toArray,hlen]⟩,q⟩
 ·obtain ⟨its,r',pl,hz⟩:=I.tuple hq
  have hlen:=r'.length
  exact len_tuple pl (by simp only [List.size_toArray] <;> omega) ⟨.int ys.length,H,I.tok _,⟨s.toks + 1,by rw [List.size_toArray,hlen]⟩,q⟩
theorem Lr:Bl X (.builtin "len") (fun xs H Q=>∃ z,xs=[.str z] /\ z.length <= sizeLine /\ Q (.int z.length) H):=by
 intro pins s σ H xs us Q I r h
 obtain ⟨z,rfl,hz,q⟩:=h
 obtain ⟨u,rfl,t,rfl⟩:=Fr r
 have hn:=Et
 exact len_str (by omega) ⟨.int z.length,H,I.tok _,⟨_,rfl⟩,q⟩
theorem Ls:Bl X (.type "list") (fun xs H Q=>∃ p ys,xs=[.ref p] /\ (SqL X.K H p ys \/ SqT X.K H p ys) /\ ∀ l,H l=none -> Q (.ref l) (upd H l (.lst ys))):=by
 intro pins s σ H xs us Q I r h
 obtain ⟨p,ys,rfl,hq,q⟩:=h
 obtain ⟨u,rfl,rx⟩:=Fr r
 cases rx
 have fin:∀ (its:List Value),Vals ys its -> ys.length <= sizeLine -> ∀ (h':Heap) (c':Nat),(∀ b o',s.heap.get? b=some o' -> h'.get? b=some o') ->
   h'.get? s.heap.objs.size=some { cls:=.type "list", dict:=none,data:=.seq its.toArray c',slots:=#[] } -> EP X pins σ Q (.ref s.heap.objs.size) { s with heap:=h' }:=fun its r' hz h' c' kp e=>
  ⟨.ref s.heap.objs.size,_,I.laid (t':=s.toks) kp (Nat.le_refl _) (show ObjOk X.prog X.w _ h' _ (.lst ys) from ⟨hz,its,c',r',e⟩),rfl,q _ (I.hok.fresh (Nat.le_refl _))⟩
 rcases hq with hq | hq
 ·obtain ⟨its,r',pl,hz⟩:=I.list hq
  have hlen:=r'.length
  obtain ⟨o,ho,hc,n,hd⟩:=pl.isList
  exact call_list_seq p (.inl rfl) ho hc hd (fun h' c' kp e=>fin its r' hz h' c' kp e) (by simp only [List.size_toArray] <;> omega)
 ·obtain ⟨its,r',pl,hz⟩:=I.tuple hq
  have hlen:=r'.length
  obtain ⟨o,ho,hc,n,hd⟩:=pl
  exact call_list_seq p (.inr rfl) ho hc hd (fun h' c' kp e=>fin its r' hz h' c' kp e) (by simp only [List.size_toArray] <;> omega)
theorem J6:Bl X (.type "tuple") (fun xs H Q=>∃ p ys,xs=[.ref p] /\ ((SqL X.K H p ys /\ ∀ l,H l=none -> Q (.ref l) (upd H l (.tup ys))) \/ (SqT X.K H p ys /\ Q (.ref p) H))):=by
 intro pins s σ H xs us Q I r h
 obtain ⟨p,ys,rfl,h⟩:=h
 obtain ⟨u,rfl,rx⟩:=Fr r
 cases rx
 rcases h with ⟨hq,q⟩ | ⟨hq,q⟩
 ·obtain ⟨its,r',pl,hz⟩:=I.list hq
  have hlen:=r'.length
  refine call_tuple_list pl.isList (fun h' kp=>?_) (by simp only [List.size_toArray] <;> omega)
  have I1:Inv X pins σ H { s with heap:=h' }:=I.kept (t':=s.toks) kp
  have I2:Inv X pins σ (upd H h'.objs.size (.tup ys)) { s with heap:=h'.push { cls:=.type "tuple", data:=.seq its.toArray } }:=
   I1.laid (t':=s.toks) (fun b o e=>Heap.get?_push_of_some _ e) (Nat.le_refl _) (show ObjOk X.prog X.w _ _ _ (.tup ys) from ⟨hz,its,r',IsTup.new _ _⟩)
  exact ⟨.ref h'.objs.size,_,I2,rfl,q _ (I1.hok.fresh (Nat.le_refl _))⟩
 ·obtain ⟨its,r',pl,hz⟩:=I.tuple hq
  exact call_tuple_same pl ⟨.ref p,H,I,rfl,q⟩
def tyV (K:PySem.W.Frag) (T:String) (x:V) (H:Hp):Prop:=match x with
 | .str _=>T = "str"
 | .int _=>T = "int"
 | .ref p=>(T = "list" /\ ∃ xs,SqL K H p xs) \/ (T = "tuple" /\ ∃ o,K.lookup p=some o /\ o.cls = .type "tuple" /\ o.dict=none) \/
   (T = "dict" /\ ((∃ kvs,H p=some (.dK kvs)) \/ ∃ kvs,H p=some (.dT kvs))) \/ (T = "set" /\ ∃ S n,H p=some (.set S n))
 | _=>False
theorem Yr {pins:List (Addr × Obj)} {σ:St} {H:Hp} {s:Shared} {T:String} {x:V} {v:Value} (I:Inv X pins σ H s) (r:RelV x v) (ty:tyV X.K T x H) :
  s.TypeIs v T /\ ∀ a,v = .ref a -> ∃ ob,s.heap.get? a=some ob /\ ob.dict=none:=by
 cases x with
 | str z=>
  obtain ⟨t,rfl⟩:=r
  cases (show T = "str" from ty)
  exact ⟨typeIs_str s z t,fun _ e=>nomatch e⟩
 | int i=>
  obtain ⟨t,rfl⟩:=r
  cases (show T = "int" from ty)
  exact ⟨typeIs_int s i t,fun _ e=>nomatch e⟩
 | ref p=>
  cases r
  rcases ty with ⟨rfl,xs,hq⟩ | ⟨rfl,o,hk,hc,hd⟩ | ⟨rfl,hk⟩ | ⟨rfl,S,n,hk⟩
  ·obtain ⟨its,_,pl,_⟩:=I.list hq
   refine ⟨pl.isList.typeIs,fun a e=>?_⟩
   cases e
   obtain ⟨o,n,e,c,hd,_⟩:=pl
   exact ⟨o,e,hd⟩
  ·refine ⟨⟨o,I.kIn p o hk,hc⟩,fun a e=>?_⟩
   cases e
   exact ⟨o,I.kIn _ o hk,hd⟩
  ·have z:∃ o,s.heap.get? p=some o /\ o.ExactDict:=by
    rcases hk with ⟨kvs,hk⟩ | ⟨kvs,hk⟩
    ·obtain ⟨_,_,_,_,o,_,_,e,ex,_⟩:=I.hok p _ hk
     exact ⟨o,e,ex⟩
    ·obtain ⟨_,_,_,_,o,_,_,e,ex,_⟩:=I.hok p _ hk
     exact ⟨o,e,ex⟩
   obtain ⟨o,e,ex⟩:=z
   refine ⟨⟨o,e,ex.1⟩,fun a e2=>?_⟩
   cases e2
   exact ⟨o,e,ex.2.1⟩
  ·obtain ⟨o,_,_,_,e,ex,_⟩:=I.hok p _ hk
   refine ⟨⟨o,e,ex.1⟩,fun a e2=>?_⟩
   cases e2
   exact ⟨o,e,ex.2.1⟩
 | _=>exact False.elim ty
variable {o e:Expr} {es:List Expr} {to:TE} {t:TA} {name:Str} {apos cpos:Pos} {T id:String} {r:V -> List V -> Hp -> VK -> Prop}
/- xs.append(e),list.index on a module's tuple .. are MtR facts of 06m -/
end
def MtM (X:Cx) (id:String) (r:V -> List V -> Hp -> VK -> Prop):Prop:=
 ∀ (pins:List (Addr × Obj)) (s:Shared) (σ:St) (H:Hp) (x:V) (xs:List V) (v:Value) (us:List Value) (Q:VK),Inv X pins σ H s -> RelV x v -> Vals xs us -> r x xs H Q ->
  wpAny (model X.prog X.w) X.A (call (.builtin id) (v :: us)) (EP X pins σ Q) X.xe s
theorem Vals.one:∀ {x:V} {us:List Value},Vals [x] us -> ∃ u,us=[u] /\ RelV x u
 | _,_,.cons r .nil=>⟨_,rfl,r⟩
theorem Vals.two:∀ {x y:V} {us:List Value},Vals [x,y] us -> ∃ u v,us=[u,v] /\ RelV x u /\ RelV y v
 | _,_,_,.cons r (.cons q .nil)=>⟨_,_,rfl,r,q⟩
theorem Vals.zero:∀ {us:List Value},Vals [] us -> us=[]
 | _,.nil=>rfl
theorem Vals.reverse {xs:List V} {us:List Value} (h:Vals xs us):Vals xs.reverse us.reverse:=by
 induction h with
 | nil=>exact .nil
 | cons r t ih=>rw [List.reverse_cons,List.reverse_cons];exact Vals.append ih (.cons r .nil)
section
variable {X:Cx} {pins:List (Addr × Obj)} {σ:St} {H:Hp} {s:Shared} {l b:Addr} {xs ys zs:List V}
theorem Inv.lset {its its':List Value} {n:Nat} {f:Array Value -> Array Value} {t':Nat} (I:Inv X pins σ H s) (hH:H l=some (.lst xs))
  (e:s.heap.get? l=some { cls:=.type "list", data:=.seq its.toArray n }) (hf:f its.toArray=its'.toArray) (hv:Vals ys its') (hz:ys.length <= sizeLine) :
  Inv X pins σ (upd H l (.lst ys)) { s with heap:=s.heap.update l (Obj.mapSeq f),toks:=t' }:=by
 have q:=PySem.IsL.update e f
 rw [hf] at q
 refine I.write (x:=l) (e:=l) (by rw [hH];exact trivial) (.inl rfl) (fun b' u hb hu=>(Heap.get?_update_other s.heap (Obj.mapSeq f) (Ne.symm hb)).trans hu) ⟨_,q⟩ ?_
 exact ⟨hz,its',_,hv,q⟩
theorem Inv.lnew {its:List Value} {t':Nat} (I:Inv X pins σ H s) (hv:Vals ys its) (hz:ys.length <= sizeLine) :
  Inv X pins σ (upd H s.heap.objs.size (.lst ys)) { s with heap:=s.heap.push { cls:=.type "list", data:=.seq its.toArray },toks:=t' }:=
 I.laid (fun _ _ q=>Heap.get?_push_of_some _ q) (Nat.le_refl _) ⟨hz,its,0,hv,Heap.get?_push_size _ rfl⟩
theorem Inv.fresh (I:Inv X pins σ H s):H s.heap.objs.size=none:=I.hok.fresh (Nat.le_refl _)
theorem Inv.lstM (I:Inv X pins σ H s) (hH:H l=some (.lst xs)):xs.length <= sizeLine /\ ∃ (its:List Value) (n:Nat),Vals xs its /\ xs.length=its.length /\ s.heap.get? l=some { cls:=.type "list", data:=.seq its.toArray n }:=by
 obtain ⟨z,its,n,r,e⟩:=I.hok l _ hH
 exact ⟨z,its,n,r,r.length,e⟩
theorem W7 {n:Nat} (h:n <= sizeLine):Builtin.List.listTooLong n=false:=by
 unfold Builtin.List.listTooLong
 exact decide_eq_false (by omega)
end
section
variable {X:Cx}
def B8:V -> List V -> Hp -> VK -> Prop:=fun x vs H Q=>∃ l xs y,x = .ref l /\ vs=[y] /\ H l=some (.lst xs) /\ xs.length < sizeLine /\ Q .non (upd H l (.lst (xs ++ [y])))
theorem K7:MtM X "list.append" B8:=by
 intro pins s σ H x vs v us Q I rx rv h
 obtain ⟨l,xs,y,rfl,rfl,hH,hz,q⟩:=h
 cases rx
 obtain ⟨u,rfl,ru⟩:=rv.one
 obtain ⟨z,its,n,r,hl,e⟩:=I.lstM hH
 refine call_meets F.slot_list_append ⟨_,e,rfl⟩ F.entry_list_append (F.args_list_append_2 _ _) (PySem.list_append l its.toArray n u (by rw [List.size_toArray];omega)) ⟨e,?_⟩
 refine ⟨.non,_,I.lset (its':=its ++ [u]) hH e (by simp) (r.append (.cons ru .nil)) ?_,rfl,q⟩
 rw [List.length_append,List.length_singleton]
 omega
def Ho:V -> List V -> Hp -> VK -> Prop:=fun x vs H Q=>∃ l b xs zs,x = .ref l /\ vs=[.ref b] /\ H l=some (.lst xs) /\ H b=some (.lst zs) /\ xs.length + zs.length <= sizeLine /\ Q .non (upd H l (.lst (xs ++ zs)))
theorem Uh:MtM X "list.extend" Ho:=by
 intro pins s σ H x vs v us Q I rx rv h
 obtain ⟨l,b,xs,zs,rfl,rfl,hH,hB,hz,q⟩:=h
 cases rx
 obtain ⟨u,rfl,ru⟩:=rv.one
 cases ru
 obtain ⟨z,its,n,r,hl,e⟩:=I.lstM hH
 obtain ⟨z2,its2,n2,r2,hl2,e2⟩:=I.lstM hB
 have hsz:its.toArray.size + its2.toArray.size <= sizeLine:=by rw [List.size_toArray,List.size_toArray];omega
 have hlong:¬ (!its.toArray.isEmpty && Builtin.List.listTooLong (its.toArray.size + its2.toArray.size))=true:=by
  rw [W7 hsz,Bool.and_false]
  exact Bool.false_ne_true
 refine call_meets F.slot_list_extend ⟨_,e,rfl⟩ F.entry_list_extend (F.args_list_extend_2 _ _)
  (AutoSeq1.list_extend_list_list_0 l its.toArray n b its2.toArray n2 hlong (by rw [List.size_toArray];omega) (by omega)) ⟨e,e2,?_⟩
 refine ⟨.non,_,I.lset (its':=its ++ its2) hH e (by simp) (r.append r2) ?_,rfl,q⟩
 rw [List.length_append]
 omega
def Fm:V -> List V -> Hp -> VK -> Prop:=fun x vs H Q=>∃ l xs,x = .ref l /\ vs=[] /\ H l=some (.lst xs) /\ Q .non (upd H l (.lst xs.reverse))
theorem Pz:MtM X "list.reverse" Fm:=by
 intro pins s σ H x vs v us Q I rx rv h
 obtain ⟨l,xs,rfl,rfl,hH,q⟩:=h
 cases rx
 have hus:=rv.zero
 subst hus
 obtain ⟨z,its,n,r,hl,e⟩:=I.lstM hH
 refine call_meets F.slot_list_reverse ⟨_,e,rfl⟩ F.entry_list_reverse (F.args_list_reverse_1 _) (AutoSeq1.list_reverse_list_0 l its.toArray n (by rw [List.size_toArray];omega)) ⟨e,?_⟩
 refine ⟨.non,_,I.lset (its':=its.reverse) hH e (by simp) r.reverse ?_,rfl,q⟩
 rw [List.length_reverse]
 omega
def Iy:V -> List V -> Hp -> VK -> Prop:=fun x vs H Q=>∃ l xs,x = .ref l /\ vs=[] /\ H l=some (.lst xs) /\ Q .non (upd H l (.lst []))
theorem W4:MtM X "list.clear" Iy:=by
 intro pins s σ H x vs v us Q I rx rv h
 obtain ⟨l,xs,rfl,rfl,hH,q⟩:=h
 cases rx
 have hus:=rv.zero
 subst hus
 obtain ⟨z,its,n,r,hl,e⟩:=I.lstM hH
 refine call_meets F.slot_list_clear ⟨_,e,rfl⟩ F.entry_list_clear (F.args_list_clear_1 _) (AutoSeq1.list_clear_list_0 l its.toArray n (by rw [List.size_toArray];omega)) ⟨e,?_⟩
 exact ⟨.non,_,I.lset (its':=[]) (ys:=[]) hH e rfl .nil (Nat.zero_le _),rfl,q⟩
def rCat:R2:=fun x y H Q=>∃ l b xs zs,x = .ref l /\ y = .ref b /\ H l=some (.lst xs) /\ H b=some (.lst zs) /\ xs.length + zs.length <= sizeLine /\ ∀ p,H p=none -> Q (.ref p) (upd H p (.lst (xs ++ zs)))
theorem op_cat:OpR X (binaryOp .Add) rCat:=by
 intro pins s σ H x y v u Q I rx ry h
 obtain ⟨l,b,xs,zs,rfl,rfl,hH,hB,hz,q⟩:=h
 cases rx
 cases ry
 obtain ⟨z,its,n,r,hl,e⟩:=I.lstM hH
 obtain ⟨z2,its2,n2,r2,hl2,e2⟩:=I.lstM hB
 refine PySem.P.add_list e e2 ?_ (by rw [List.size_toArray,List.size_toArray];omega)
 have ea:its.toArray ++ its2.toArray=(its ++ its2).toArray:=by simp
 rw [ea]
 exact ⟨.ref _,_,I.lnew (t':=s.toks) (r.append r2) (by rw [List.length_append];omega),rfl,q _ I.fresh⟩
end
section
variable {prog:Program} {w:World} {A:Around} {E:Value -> Shared -> Prop} {s:Shared}
set_option maxRecDepth 100000 in
end
section
variable {X:Cx}
end
end L2
namespace Att
open PySem PySem.W PySem.Calls PyProof.Rows
theorem Gy {P:Params} {h:Heap}:∀ (ns:List Int) (vs:List Value),WellAll P h vs (ns.map WData.int) -> IntsAre vs ns:=by
 intro ns
 induction ns with
 | nil=>
  intro vs w
  rw [List.map_nil] at w
  cases w
  exact .nil
 | cons n ns ih=>
  intro vs w
  rw [List.map_cons] at w
  cases w with
  | cons a b=>
   cases a
   exact .cons _ _ (ih _ b)
theorem U0 {l:OpenLaw} {n:Nat} (hn:l.most=some n) {P:Params} {h:Heap} {args:List WData} {vals:List Value}
  (hpre:l.row.toRowW.claim.pre args=true) (hwl:WellAll P h vals args) :
  ∃ a vs ns,vals=[Value.ref a] /\ args=[WData.list (ns.map WData.int)] /\ h.get? a=some { cls:=.type "list", data:=.seq vs.toArray } /\ IntsAre vs ns /\ ns.length <= n:=by
 have hsh:WShape.hasAll [] args [.list .int]=true:=(pre_splitW hpre).1
 have hc:l.pre.holds [] { args:=args }=true:=(pre_splitW hpre).2
 obtain ⟨d,r,rfl,h1,h2⟩:=hasAllW_cons hsh
 obtain rfl:=hasAllW_nil h2
 obtain ⟨xs,rfl,h3⟩:=hasW_list h1
 obtain ⟨ns,rfl⟩:=items_int h3
 have hlen:ns.length <= n:=by
  unfold OpenLaw.pre at hc
  have h4:(WTm.not (.lt (.lit (.int (n:Int))) (.len (.arg 0)))).holds [] { args:=[.list (ns.map .int)] }=true:=by
   have h4:=(holds_andW hc).1
   rw [hn] at h4
   exact h4
  have h5:=condW_of h4 (w_not (w_lt w_lit (w_len_list (w_arg rfl))))
  rw [List.length_map] at h5
  refine Nat.le_of_not_lt fun q=>?_
  have q':(n:Int) < ((ns.length:Nat):Int):=by omega
  first
   | (rw [decide_eq_true q'] at h5;exact absurd h5 (by decide))
   | (simp at h5;omega)
 cases hwl with
 | cons w1 w2=>
  cases w2
  cases w1 with
  | list ho hall=>exact ⟨_,_,ns,rfl,rfl,ho,Gy ns _ hall,hlen⟩
theorem Uv (l:OpenLaw) (args:List WData):l.row.toRowW.claim.post args (.bool true) args=true:=
 postW_of (r:=l.row.toRowW) (X:=(true == true))
  (show WShape.has [] (.bool true) .bool=true by first | rfl | decide | simp [WShape.has,WShape.arms,WShape.armsAll])
  (show (WTm.eq .res (.lit (.bool true))).value [] { args:=args,res:=some (.bool true),after:=args }=some (.bool (true == true)) from w_eq_bool (w_res rfl) w_lit) rfl
theorem attach_call {l:OpenLaw} {n:Nat} {q:Program} {loose:List Str} {XP:(Str -> Option Value) -> Heap -> Prop} {YP:World -> Heap -> Prop} {d:DefRec}
  (hn:l.most=some n) (hdf:d.params.defaults=[])
  (call:∀ (w:World) (s₀ s₁:Shared) (mg mb:Str -> Option Value) (fa:Addr) (o:Obj) (pm cd doc:Value) (a:Addr) (vs:List Value) (ns:List Int),
   Ground q loose [] XP w s₀ mg mb s₁.heap -> YP w s₁.heap ->
   s₁.heap.get? fa=some o -> o.data = .func (docDef d.name d.params d.body d.scope pm cd doc) -> s₁.heap.CodeRec cd d.name -> mg d.name=some (.ref fa) ->
   s₁.heap.get? a=some { cls:=.type "list", data:=.seq vs.toArray } -> IntsAre vs ns -> ns.length <= n -> s₁.gens = #[] ->
   codeAny (model l.prog w) callerA (.call (.ref fa) ⟨[.ref a],[]⟩) (fun r s'=>r = .ok (.ret (.bool true)) /\ OldK s₁.heap s'.heap /\ s'.os=s₁.os /\ AllBare s'.gens) s₁) :
  WalkO q loose XP YP l.row.toRowW d [] (fun f vs=>PySem.call f vs):=by
 intro w s₀ s₁ mg mb G Y fa o pm cd doc dV kV ho hd hcd hD hmg hg args vals as hpre hlay hrd hwl hlo
 obtain rfl:dV = .none:=Dflts.none hD hdf
 obtain rfl:kV = .none:=Dflts.noKw hD
 obtain ⟨a,vs,ns,rfl,rfl,hobj,hints,hlen⟩:=U0 hn hpre hwl
 refine enter_call (codeAny_mono (call w s₀ s₁ mg mb fa o pm cd doc a vs ns G Y ho (fd_plain hd) hcd hmg hobj hints hlen hg) fun r s' hq=>?_)
 obtain ⟨rfl,h2,h3,h4⟩:=hq
 exact ⟨.inl ⟨.bool true,.bool true,[],rfl,fun _=>rfl,.bool true,Uv l _,fun _=>⟨List.Pairwise.nil,fun _ hm=>(nomatch hm)⟩⟩,h2,h3,h4⟩
section
variable {prog:Program} {w:World} {A:Around} {E:Value -> Shared -> Prop} {s:Shared} {K:Frag}
end
end Att
namespace L2
open PySem PySem.Spec PyProof.Rows
theorem Lf:∀ {vs:List Value} {ns:List Int},IntsAre vs ns -> Vals (ns.map V.int) vs
 | _,_,.nil=>.nil
 | _,_,.cons n t h=>.cons ⟨t,rfl⟩ (Lf h)
def Only (H:Hp):Prop:=∀ b,H b=none \/ ∃ o xs,H b=some (.frz o (.lst xs))
theorem Wu {P:Program} {w:World} {K:PySem.W.Frag} {mg mb:Str -> Option Value} {CX:CXT} {k:Nat} {fa a:Addr} {fd:FuncData} {x:Str} {sp:Sp} {s₁:Shared} {vs:List Value} {ns:List Int}
  (KX:K.In s₁.heap) (hns:s₁.heap.Ns mainGlobals mg) (hb:s₁.heap.Ns builtinsNs mb) (hbb:∀ x:Str,x ≠ "__name__" -> mb x=bootBuiltins x) (hlim:s₁.heap.NoLimit) (hg:s₁.gens = #[])
  (ha:s₁.heap.get? a=some { cls:=.type "list", data:=.seq vs.toArray }) (hi:IntsAre vs ns) (hl:ns.length <= sizeLine) (hr:Room k callerA)
  (F:∀ base:Heap,K.In base -> base.Ns mainGlobals mg -> FnOk P w K mg base CX k fa fd [x] sp) (hbind:∀ (s:Shared) (u:Value),BindsTo s fd ⟨[u],[]⟩ [(x,u)])
  (hsp:∀ H:Hp,Only H -> SqL K H a (ns.map V.int) -> sp [.ref a] H (fun v _=>v = .bl true) fun _ _ _=>False)
  (hCX:∀ H e s',CX [] H s₁ (fun _ _ _=>False) e s' -> False) :
  codeAny (model P w) callerA (.call (.ref fa) ⟨[.ref a],[]⟩) (fun r s'=>r = .ok (.ret (.bool true)) /\ OldK s₁.heap s'.heap /\ s'.os=s₁.os /\ AllBare s'.gens) s₁:=by
 have rv:=Lf hi
 have lenV:=hi.length
 have core:∀ H:Hp,Only H -> SqL K H a (ns.map V.int) -> HOk P w H s₁.heap -> (∀ b,H b ≠ none -> b=a) -> (H a ≠ none -> K.lookup a=none) ->
   codeAny (model P w) callerA (.call (.ref fa) ⟨[.ref a],[]⟩) (fun r s'=>r = .ok (.ret (.bool true)) /\ OldK s₁.heap s'.heap /\ s'.os=s₁.os /\ AllBare s'.gens) s₁:=by
  intro H hO hS hok hA hK
  have base_of:∀ {b:Addr} {o:Obj},s₁.heap.get? b=some o -> H b=none -> (hidT s₁.heap H).get? b=some o:=fun e n=>Wq e n
  have noA:∀ {b:Addr} {o:Obj} {es:Array DictEntry} {ep:Nat},s₁.heap.get? b=some o -> o.data = .dict es ep -> H b=none:=fun {b o es ep} e d=>by
   cases q:H b with
   | none=>rfl
   | some u=>
    have e':b=a:=hA b (by rw [q];simp)
    subst e'
    rw [ha] at e;cases e
    have d':Data.seq vs.toArray _=Data.dict es ep:=d
    cases d'
  have nsK:∀ {b:Addr} {m:Str -> Option Value},s₁.heap.Ns b m -> (hidT s₁.heap H).Ns b m:=fun {b m} ⟨o,es,ep,e,d,r⟩=>⟨o,es,ep,base_of e (noA e d),d,r⟩
  have hKb:K.In (hidT s₁.heap H):=fun b o e=>base_of (KX b o e) (by
   cases q:H b with
   | none=>rfl
   | some u=>
    have e':b=a:=hA b (by rw [q];simp)
    subst e'
    rw [hK (by rw [q];simp)] at e;cases e)
  have hM:Mod K mg (hidT s₁.heap H):=⟨hKb,nsK hns,⟨mb,nsK hb,hbb⟩,let ⟨mc,h1,h2⟩:=hlim;⟨mc,nsK h1,h2⟩⟩
  have e0:Env0 P w K mg (hidT s₁.heap H) callerA [] s₁ H:=⟨rfl,hM,fun b o e=>Zs e,Nat.le_of_eq (Tt _ _),trivial,fun b hb=>absurd (show b ∈ ([]:List Addr) from hb) (by simp),hok,.of_eq hg⟩
  refine codeAny_mono ((F _ hKb (nsK hns)).run callerA [] s₁ H ⟨[.ref a],[]⟩ [.ref a] [.ref a] _ _ hr e0 (hbind s₁ (.ref a)) (.cons rfl .nil) (hsp H hO hS)) fun r s' h=>?_
  cases r with
  | error e=>exact (hCX H e s' h).elim
  | ok fl=>
   cases fl with
   | next=>exact False.elim h
   | brk=>exact False.elim h
   | cont=>exact False.elim h
   | ret u=>
    obtain ⟨v,H',os,bare,un,hok',r',q⟩:=h
    have q':v = .bl true:=q
    subst q'
    obtain rfl:u=Value.bool true:=r'
    refine ⟨rfl,OldK.of_keep fun b o e=>?_,os,bare⟩
    cases q:H b with
    | none=>exact un.keep b o e q (by intro z;exact absurd (show b ∈ ([]:List Addr) from z) (by simp)) (by simp)
    | some u=>
     rcases hO b with z | ⟨ob,xs,z⟩
     ·rw [q] at z;cases z
     ·have z2:=un.frzs b ob _ z
      obtain ⟨e1,_⟩:=hok b _ z
      obtain ⟨e2,_⟩:=hok' b _ z2
      rw [e] at e1;cases e1
      exact e2
 cases hk:K.lookup a with
 | some o=>
  have e:=KX a o hk
  rw [ha] at e
  cases e
  refine core (fun _=>none) (fun _=>.inl rfl) (.inr ⟨_,vs.toArray,_,hk,rfl,rfl,rfl,by rw [List.size_toArray,lenV];exact hl,by simpa using rv⟩) (fun b u z=>by have z':(none:Option HO)=some u:=z;cases z') (fun b z=>absurd rfl z) fun z=>absurd rfl z
 | none=>
  refine core (fun b=>if b=a then some (.frz { cls:=.type "list", data:=.seq vs.toArray } (.lst (ns.map V.int))) else none) (fun b=>?_) (.inl (.inr ⟨{ cls:=.type "list", data:=.seq vs.toArray },if_pos rfl⟩)) (fun b u z=>?_) (fun b z=>?_) fun _=>hk
  ·by_cases hb:b=a
   ·exact .inr ⟨_,_,if_pos hb⟩
   ·exact .inl (if_neg hb)
  ·by_cases hb:b=a
   ·have z':=(if_pos hb).symm.trans z
    cases z'
    subst hb
    exact ⟨ha,by rw [List.length_map];exact hl,vs,_,rv,ha⟩
   ·have z':=(if_neg hb).symm.trans z
    cases z'
  ·by_cases hb:b=a
   ·exact hb
   ·exact absurd (if_neg hb) z
theorem walk_of {l:PySem.W.OpenLaw} {n k:Nat} {q:Program} {loose:List Str} {XP:(Str -> Option Value) -> Heap -> Prop} {YP:World -> Heap -> Prop} {d:DefRec} {K:Params -> PySem.W.Frag} {CX:World -> CXT} {sp:World -> Sp} {x:Str}
  (hn:l.most=some n) (hn2:n <= sizeLine) (hdf:d.params.defaults=[]) (hr:Room k callerA)
  (hY:∀ (w:World) (h:Heap),YP w h -> (K w.params).In h)
  (F:∀ (w:World) (mg:Str -> Option Value) (fa:Addr) (h:Heap),(K w.params).In h -> h.Ns mainGlobals mg -> mg d.name=some (.ref fa) ->
   ∃ fd:FuncData,(∀ (s:Shared) (u:Value),BindsTo s fd ⟨[u],[]⟩ [(x,u)]) /\
    ∀ base:Heap,(K w.params).In base -> base.Ns mainGlobals mg -> FnOk l.prog w (K w.params) mg base (CX w) k fa fd [x] (sp w))
  (hsp:∀ (w:World) (H:Hp) (a:Addr) (ns:List Int),ns.length <= n -> Only H -> SqL (K w.params) H a (ns.map V.int) -> sp w [.ref a] H (fun v _=>v = .bl true) fun _ _ _=>False)
  (hCX:∀ (w:World) (H:Hp) (s:Shared) (e:Value) (s':Shared),CX w [] H s (fun _ _ _=>False) e s' -> False) :
  PySem.W.WalkO q loose XP YP l.row.toRowW d [] (fun f vs=>PySem.call f vs):=by
 refine Att.attach_call hn hdf fun w s₀ s₁ mg mb fa o pm cd doc a vs ns G Y ho hd hcd hmg hobj hints hlen hg=>?_
 have KX:=hY w _ Y
 obtain ⟨fd,hb,hF⟩:=F w mg fa _ KX G.T.g hmg
 exact Wu KX G.T.g G.T.b G.T.builtins G.T.nolimit hg hobj hints (Nat.le_trans hlen hn2) hr hF hb (fun H hO hS=>hsp w H a ns hlen hO hS) fun H e s'=>hCX w H s₁ e s'
end L2
/- THE LAST THEOREM (shape;LID,My.* are yours):
   My.Adr: a structure of the addresses that your layer names (classes,functions);My.Txt K t: a structure (Prop) of the equations over K;
   My.txt_mk:{K} {implicit addresses ..} (e1:nsIn K mainGlobals "law" = some (some (.ref f))) (e2:K.lookup f=some ⟨oc,od,.func (fnOf "law" "law" params body scope dV kV doc pm an cdv ct),sl⟩) (e3:codeIn K cdv "law" = true) ..:∃ t,My.Txt K t
set_option maxRecDepth 100000 in
set_option maxHeartbeats 0 in
theorem PySem.Challenge.cw_LID_holds : PySem.Challenge.rw_LID.Holds := by
 w_on;o_law;k_head;(case hw=>w_witness2)
 k_fill
 refine L2.walk_of (l:=PySem.Challenge.rw_LID) (n:=63) (k:=40) (x := "script") (CX:=fun w=>..) (sp:=fun _=>My.sp_law) rfl (by decide) rfl ⟨rfl,by decide,by decide⟩ (fun w h Y=>PySem.W.kIn_of Y) ?F ?S ?C
 case F=>
  intro w mg fa h KX G hmg
  have T:∃ t,My.Txt (L2.KOf KX) t:=by
   dsimp only [L2.KOf]                          -- K must stand as «<heap const> w.params» for k_is
   refine' My.txt_mk ?e1 ?e2 ?e3 ..
   (case e1=>PySem.W.k_is)                    -- in the order: a name -> its address -> its object -> its parts
   (case e2=>PySem.W.k_is)
   ..
  obtain ⟨t,T⟩:=T
  have e0:=hmg.symm.trans (PySem.W.mg_of KX G T.law)
  cases e0                                       -- fa is the law's own address
  exact ⟨_,fun s u=>.of_eq rfl,fun base kb nb=>My.law_fn T kb nb⟩     -- if «.of_eq rfl» comes too early: refine' ⟨_,?b,fun base kb nb=>My.law_fn T kb nb⟩;exact fun s u=>.of_eq rfl
 case S=>exact fun w H a ns hl hO hS=>..
 case C=>exact ..
(the tactic k_is has no namespace: write k_is) -/
namespace L2
open PySem PySem.Spec PyProof.Rows
def Bj (s:Stmt) (j:Nat):Stmt:=match s with
 | .ClassDef _ _ _ body _ _ _ _ _ _ _=>body.getD j (.Pass ⟨0,0,0,0⟩)
 | _=>.Pass ⟨0,0,0,0⟩
def A9 (s:Stmt):Arguments:=match s with
 | .FunctionDef _ a _ _ _ _ _ _ _ _=>a
 | _=>{ posonlyargs:=[],args:=[],vararg:=none,kwonlyargs:=[],kw_defaults:=[],kwarg:=none,defaults:=[] }
def Ag (s:Stmt):List Stmt:=match s with
 | .FunctionDef _ _ b _ _ _ _ _ _ _=>b
 | _=>[]
def Aa (s:Stmt):Scope:=match s with
 | .FunctionDef _ _ _ _ _ _ sc _ _ _=>sc
 | _=>{ kind:=.function,names:=[],isGenerator:=false,isCoroutine:=false }
abbrev CX0:CXT:=fun _ _ _ _ _ _=>False
structure Fun (K:PySem.W.Frag) (x qual:Str) (st:Stmt) (f:Addr) (fd:FuncData):Prop where
 ex:∃ (oc:Value) (od:Option Addr) (kV doc pm:Value) (an:Option Addr) (cdv ct:Value) (osl:Array (Option Value)),
  fd=PySem.W.fnOf x qual (A9 st) (Ag st) (Aa st) .none kV doc pm an cdv ct /\ K.lookup f=some ⟨oc,od,.func fd,osl⟩ /\ PySem.W.codeIn K cdv qual=true
 kp:PySem.W.keepIn K (.ref f)=true
section
variable {P:Program} {w:World} {K:PySem.W.Frag} {mg:Str -> Option Value} {base:Heap}
theorem Fun.binds {x qual:Str} {st:Stmt} {f:Addr} {fd:FuncData} {ps:List Str} (F:Fun K x qual st f fd)
  (h:∀ (kV doc pm:Value) (an:Option Addr) (cdv ct:Value) (us:List Value),us.length=ps.length -> bindArgs (PySem.W.fnOf x qual (A9 st) (Ag st) (Aa st) .none kV doc pm an cdv ct) ⟨us,[]⟩=pure (ps.zip us)):Binds K fd ps []:=by
 obtain ⟨oc,od,kV,doc,pm,an,cdv,ct,osl,rfl,lk,hcd⟩:=F.ex
 exact .all (h kV doc pm an cdv ct)
theorem Pj {x qual:Str} {st:Stmt} {f:Addr} {oc:Value} {od an:Option Addr} {osl:Array (Option Value)} {kV doc pm cdv ct:Value} (l:K.lookup f=some ⟨oc,od,.func (PySem.W.fnOf x qual (A9 st) (Ag st) (Aa st) .none kV doc pm an cdv ct),osl⟩)
  (c:PySem.W.codeIn K cdv qual=true) (k:PySem.W.keepIn K (.ref f)=true):Fun K x qual st f (PySem.W.fnOf x qual (A9 st) (Ag st) (Aa st) .none kV doc pm an cdv ct):=⟨⟨oc,od,kV,doc,pm,an,cdv,ct,osl,rfl,l,c⟩,k⟩
end
section
variable {X:Cx}
end
theorem iteF {A B:Prop} (h:B):if false=true then A else B:=by
 rw [if_neg Bool.false_ne_true]
 exact h
theorem iteT {A B:Prop} (h:A):if true=true then A else B:=by
 rw [if_pos rfl]
 exact h
theorem ite2 {c A B:Prop} [Decidable c] (h1:c -> A) (h2:¬ c -> B):if c then A else B:=by
 by_cases h:c
 ·rw [if_pos h]
  exact h1 h
 ·rw [if_neg h]
  exact h2 h
def Same (H H':Hp):Prop:=∀ b o,H b=some o -> H' b=some o
theorem Same.refl (H:Hp):Same H H:=fun _ _ h=>h
theorem Same.trans {H H1 H2:Hp} (a:Same H H1) (b:Same H1 H2):Same H H2:=fun c o h=>b c o (a c o h)
theorem Same.free {H H':Hp} (e:Same H H') {l:Addr} (h:H' l=Option.none):H l=Option.none:=by
 cases q:H l with
 | none=>rfl
 | some o=>
  rw [e l o q] at h
  cases h
def Cx.comp (X:Cx) (N':List Str) (scope:Scope) (cl:List (Str × Addr)) (fp:List Addr) (C:Addr) (s:Shared) (H:Hp) (xe:Value -> Shared -> Prop):Cx:=
 {prog:=X.prog,w:=X.w,K:=X.K,mg:=X.mg,base:=X.base,A:=X.A,N:=N',s₀:=s,H₀:=H,env:=compEnvC scope cl C X.env,outer:=X.stack,stack:=X.stack,
  ex:=fp,fn:=fun x=>(cl.lookup x).isNone,calm:=X.calm,pn:=[],xe:=xe }
def capt (srcs:List (Option Nat)) (σ:St):St:=srcs.map fun o=>o.bind fun j=>(σ[j]?).join
structure Hv (X:Cx) (N':List Str) (srcs:List (Option Nat)) (scope:Scope) (cl:List (Str × Addr)):Prop where
 clos:closureFor scope X.env=pure cl
 nocell:∀ y ∈ scope.names,y.2 ≠ .cell
 kind:scope.kind = .function
 names:∀ y ∈ scope.names,y.2 = .local -> scope.names.lookup y.1=some .local
 sub:∀ x c,cl.lookup x=some c -> X.env.cells.lookup x=some c
 has:∀ x,((relabel scope X.env).names.lookup x=some .cell \/ (relabel scope X.env).names.lookup x=some .free) -> ∃ c,cl.lookup x=some c
 len:srcs.length=N'.length
 src:∀ (k j:Nat) (x:Str),N'[k]? = some x -> srcs[k]? = some (some j) -> X.N[j]? = some x /\ (X.env.scope.names.lookup x=some .cell \/ X.env.scope.names.lookup x=some .free) /\
  ((relabel scope X.env).names.lookup x=some .cell \/ (relabel scope X.env).names.lookup x=some .free)
def PIfs (X:Cx) (ifs:List Expr) (t:TT):Prop:=
 ∀ (pins:List (Addr × Obj)) (s:Shared) (σ:St) (H:Hp) (Q:Bool -> Hp -> Prop),Inv X pins σ H s -> t σ H Q ->
  wpAny (model X.prog X.w) X.A (forIn ifs true fun c r=>if r=true then do let ok <- isTrue c X.env (eval c X.env);pure (ForInStep.yield ok) else pure (ForInStep.yield r)) (TP X pins σ Q) X.xe s
def tYes:TT:=fun _ H Q=>Q true H
theorem Xh {X:Cx}:PIfs X [] tYes:=fun _ _ _ H _ I h=>wpAny_tests_nil ⟨H,I,h⟩
theorem Xi {X:Cx} {c:Expr} {t:TT} (h:PT X c t):PIfs X [c] t:=fun pins s σ H Q I q=>wpAny_tests_one (h pins s σ H Q I q)
def Yo (srcs:List (Option Nat)) (wi:TI) (g:TG) (tc:TT) (te:TE):TE:=fun σ H Q=>wi σ H fun J H1=>∀ D,H1 D=none ->
 ∃ W:Nat -> Nat -> St -> Hp -> Prop,(∃ m,W 0 m (capt srcs σ) (upd H1 D (.lst []))) /\ ∀ i m σ' H',W i m σ' H' ->
  (J.stop i H' /\ Q (.ref D) H') \/ (J.go i H' /\ ∃ N:St -> Hp -> Prop,(∀ σ2 H2,N σ2 H2 -> ∃ m',m' < m /\ W (i + 1) m' σ2 H2) /\ ∀ x H2,J.yld i H' x H2 -> g x σ' H2 fun σ3 H3=>tc σ3 H3 fun b H4=>if b=true then
    te σ3 H4 fun v H5=>∃ ys,H5 D=some (.lst ys) /\ ys.length < sizeLine /\ N σ3 (upd H5 D (.lst (ys ++ [v])))
   else N σ3 H4)
section
variable {g:TG} {tc:TT} {te:TE} {D:Addr} {R:Hp -> Prop} {σ:St} {H:Hp}
end
section
variable {prog:Program} {w:World} {A:Around} {E:Value -> Shared -> Prop} {R:Result -> Shared -> Prop} {s:Shared}
theorem Lv {elt target iter:Expr} {ifs:List Expr} {scope:Scope} {pos:Pos} {it acc:Value} {env:Env} (I:Nat -> Shared -> Prop)
  (turn:∀ n s,I n s -> wpAny (model prog w) A (pyNext it) (fun r s₁=>match r with
   | none=>R (.ok .next) s₁
   | some v=>wpAny (model prog w) A (letOwnedTupleGo target it v) (fun _ s₀=>wpAny (model prog w) A (assign target env v) (fun _ s₂=>
     wpAny (model prog w) A (forIn ifs true fun c r=>if r=true then do let ok <- isTrue c env (eval c env);pure (ForInStep.yield ok) else pure (ForInStep.yield r)) (fun ok s₃=>
      if ok=true then wpAny (model prog w) A (eval elt env) (fun x s₄=>
       wpAny (model prog w) A (call (.builtin "list.append") [acc,x]) (fun _ s₅=>∃ m,m < n /\ I m s₅) (notedBy (model prog w) A env fun e s'=>R (.error e) s') s₄) (notedBy (model prog w) A env fun e s'=>R (.error e) s') s₃
      else ∃ m,m < n /\ I m s₃) (notedBy (model prog w) A env fun e s'=>R (.error e) s') s₂) (notedBy (model prog w) A env fun e s'=>R (.error e) s') s₀) (notedBy (model prog w) A env fun e s'=>R (.error e) s') s₁) (notedBy (model prog w) A env fun e s'=>R (.error e) s') s)
  (n:Nat) (h:I n s) :
  codeAny (model prog w) A (.compLoop (.ListComp elt [⟨target,iter,ifs,0⟩] scope pos) 0 it acc env) R s:=by
 refine codeAny_loop rfl I (fun n s hI=>?_) n h
 show wpAny _ A ((compTurn (.ListComp elt [⟨target,iter,ifs,0⟩] scope pos) 0 it acc env).onRaise (fun x=>do noteFrame x env;theTreesLotGoes x)) _ _ s
 refine wpAny_noted ?_
 rw [compTurn_list]
 refine wpAny_bind (wpAny_standAt (wpAny_bind (wpAny_mono (turn n s hI) (fun r s₁ h₁=>?_) fun _ _ h'=>h')))
 cases r with
 | none=>exact wpAny_pure h₁
 | some v=>
  refine wpAny_bind (wpAny_mono h₁ (fun _ s₀ h₀=>?_) fun _ _ h'=>h')
  refine wpAny_bind (wpAny_mono h₀ (fun _ s₂ h₂=>wpAny_bind (wpAny_mono h₂ (fun ok s₃ h₃=>?_) fun _ _ h'=>h')) fun _ _ h'=>h')
  cases ok with
  | false=>exact wpAny_pure ⟨rfl,h₃⟩
  | true=>
   exact wpAny_bind (wpAny_bind (wpAny_mono h₃ (fun x s₄ h₄=>wpAny_bind (wpAny_mono h₄ (fun _ s₅ h₅=>wpAny_pure (wpAny_pure ⟨rfl,h₅⟩)) fun _ _ h'=>h')) fun _ _ h'=>h'))
end
section
variable {X:Cx} {elt tg iter:Expr} {ifs:List Expr} {scope:Scope} {pos:Pos} {N':List Str} {srcs:List (Option Nat)} {cl:List (Str × Addr)} {wi:TI} {g:TG} {tc:TT} {te:TE}
theorem Pd {xe:Value -> Shared -> Prop} {pins:List (Addr × Obj)} {σ:St} {H:Hp} {s:Shared} {fp:List Addr} {C D:Addr} {h₁:Heap} {tk:Nat} (S:Hv X N' srcs scope cl) (I:Inv X pins σ H s) (f:∀ b ∈ fp,FpOk X pins H b) (fo:∀ b ∈ fp,b < s.heap.objs.size)
  (hD:s.heap.objs.size <= D) (hC:s.heap.objs.size <= C) (hDC:C ≠ D) (hns:∃ m,h₁.Ns C m) (old:∀ b o,s.heap.get? b=some o -> h₁.get? b=some o) (hacc:∃ n,h₁.get? D=some { cls:=.type "list", data:=.seq ([]:List Value).toArray n }) :
  Inv (X.comp N' scope cl fp C s H xe) [] (capt srcs σ) (upd H D (.lst [])) { s with heap:=h₁,toks:=tk }:=by
 have hfD:=I.hok.fresh hD
 have ok:(X.comp N' scope cl fp C s H xe).Ok:=by
  refine ⟨I.ok.mod,S.kind,I.ok.glob,I.ok.blt,hC,fun x y c a b=>I.ok.inj x y c (S.sub x c a) (S.sub y c b),S.has,fun x c hf hl=>?_,I.ok.hd,I.ok.frames,.inl rfl,fun b hb=>⟨?_,fun x c hl=>?_⟩,I.bs,Nat.le_trans I.ok.bsz I.sz,fun b o e hb=>?_,fun b hb hfs=>?_,I.stack,I.stkFree⟩
  ·have hl':cl.lookup x=some c:=hl
   have hf':(cl.lookup x).isNone=true:=hf
   rw [hl'] at hf'
   cases hf'
  ·exact Nat.ne_of_lt (Nat.lt_of_lt_of_le (fo b hb) hC)
  ·exact (f b hb).2.2.2.2.1 x c (S.sub x c hl)
  ·rcases (f b hb).2.2.2.1 with z | z
   ·exact I.ok.noex b o e z
   ·exact absurd (Nat.lt_of_lt_of_le (Heap.lt_size e) (Nat.le_trans I.ok.bsz z)) (Nat.lt_irrefl _)
  ·rcases List.mem_cons.mp (I.stkSub b hfs) with z | z
   ·exact (f b hb).2.1 z
   ·exact (f b hb).2.2.1 z
 obtain ⟨m0,hns⟩:=hns
 obtain ⟨nn,hacc⟩:=hacc
 refine ⟨ok,rfl,I.bare,Un.laid old hD hfD,⟨m0,hns,fun k x v e1 e2 e3=>?_⟩,fun x c hl=>?_,?_,fun x c hl=>?_,fun p hp=>absurd (show p ∈ ([]:List (Addr × Obj)) from hp) (by simp),I.hok.laid old hD ⟨Nat.zero_le _,[],nn,.nil,hacc⟩,?_⟩
 ·-- the captured names
  have e1:N'[k]? = some x:=e1
  have e2:(srcs.map fun o=>o.bind fun j=>(σ[j]?).join)[k]? = some (some v):=e2
  rw [List.getElem?_map] at e2
  cases hk:srcs[k]? with
  | none=>rw [hk] at e2;cases e2
  | some o=>
   rw [hk] at e2
   cases o with
   | none=>cases e2
   | some j=>
    have e2':(σ[j]?).join=some v:=Option.some.inj e2
    have e3':σ[j]? = some (some v):=by
     cases hj:σ[j]? with
     | none=>rw [hj] at e2';cases e2'
     | some y=>rw [hj] at e2';exact congrArg some e2'
    obtain ⟨a1,a2,a3⟩:=S.src k j x e1 hk
    obtain ⟨m,hn,hl⟩:=I.loc
    obtain ⟨u,r,l⟩:=hl j x v a1 e3' (a2.elim (fun z=>.inr (.inl z)) fun z=>.inr (.inr z))
    refine ⟨u,r,.inr ⟨a3,?_⟩⟩
    obtain ⟨c,hc⟩:=S.has x a3
    refine ⟨c,hc,?_⟩
    rcases l with ⟨z,_⟩ | ⟨_,c',hc',o,ho,hd⟩
    ·have z':X.env.scope.names.lookup x=some .local:=z
     rcases a2 with q | q <;> rw [q] at z' <;> cases z'
    ·have e:=S.sub x c hc
     rw [hc'] at e
     cases e
     exact ⟨o,old _ o ho,hd⟩
 ·obtain ⟨v,o,ho,hd⟩:=I.cell x c (S.sub x c hl)
  exact ⟨v,o,old _ o ho,hd⟩
 ·show upd H D (.lst []) C=none
  rw [Ad hDC]
  exact I.hok.fresh hC
 ·have hx:=S.sub x c hl
  obtain ⟨v,o,ho,hd⟩:=I.cell x c hx
  rw [Ad (Nat.ne_of_lt (Nat.lt_of_lt_of_le (Heap.lt_size ho) hD))]
  exact I.freeC x c hx
 ·show (capt srcs σ).length=N'.length
  unfold capt
  rw [List.length_map,S.len]
def A0 (X:Cx) (scope:Scope) (cl:List (Str × Addr)) (use:Option (Value -> Sem Unit)) (Q2:Value -> Shared -> Prop) (D C:Addr):Value -> Shared -> Prop:=
 notedBy (model X.prog X.w) X.A (compEnvC scope cl C X.env) fun e s'=>compPost (model X.prog X.w) X.A X.xe use Q2 (.ref D) C (.error e) s'
theorem Km {pins:List (Addr × Obj)} {s:Shared} {σ:St} {H:Hp} {Q:VK} {use:Option (Value -> Sem Unit)} {Q2:Value -> Shared -> Prop} (hc:X.calm=true) (S:Hv X N' srcs scope cl) (hi:PI X tg iter wi)
  (hb:∀ fp C D s2 H2,Inv X pins σ H2 s2 -> (∀ b ∈ fp,FpOk X pins H2 b) -> s2.heap.objs.size <= C -> PG (X.comp N' scope cl fp C s2 H2 (A0 X scope cl use Q2 D C)) tg g /\ PIfs (X.comp N' scope cl fp C s2 H2 (A0 X scope cl use Q2 D C)) ifs tc /\ PE (X.comp N' scope cl fp C s2 H2 (A0 X scope cl use Q2 D C)) elt te)
  (I:Inv X pins σ H s) (h:Yo srcs wi g tc te σ H Q)
  (fin:∀ (D C:Addr) (H':Hp) (s':Shared),Inv X pins σ H' s' -> (∃ m,s'.heap.Ns C m) -> FpOk X pins H' C -> Q (.ref D) H' -> compPost (model X.prog X.w) X.A X.xe use Q2 (.ref D) C (.ok .next) s')
  (hs:∀ x,foldedSetIterable iter X.env x=pure x) :
  wpAny (model X.prog X.w) X.A (comprehension (.ListComp elt [⟨tg,iter,ifs,0⟩] scope pos) scope X.env (firstIterPos [⟨tg,iter,ifs,0⟩] pos) (newList []) false (eval iter X.env) use) Q2 X.xe s:=by
 refine wpAny_comprehension_free rfl hs S.clos S.kind S.names (thn (hi pins s σ H _ I h) fun v s1 h1=>thn h1 fun itv s2 h2=>?_)
 obtain ⟨it,fp,tn,J,H2,e,I2,T,st2,f2,q2⟩:=h2
 subst e
 refine wpAny_newObj_type (wpAny_newFunctionEnv S.nocell (by intro y hy;simp at hy) (fun h₁ hns₁ hsb₁=>?_) S.kind)
 dsimp only at hns₁ hsb₁ ⊢
 generalize hH2:s2.heap.push { cls:=.type "list", dict:=none,data:=.seq ([]:List Value).toArray }=G2 at hns₁ hsb₁ ⊢
 have hCe:G2.objs.size=s2.heap.objs.size + 1:=by rw [<- hH2,Heap.size_push]
 have hDC:G2.objs.size ≠ s2.heap.objs.size:=by rw [hCe];exact Nat.ne_of_gt (Nat.lt_succ_self _)
 have hCle:s2.heap.objs.size <= G2.objs.size:=by rw [hCe];exact Nat.le_succ _
 have old:∀ b o,s2.heap.get? b=some o -> h₁.get? b=some o:=fun b o e=>
  hsb₁.extBut b o (Nat.ne_of_lt (Nat.lt_of_lt_of_le (Heap.lt_size e) hCle)) (Heap.get?_push_of_some _ (hH2 ▸ Heap.get?_push_of_some _ e))
 have hacc:∃ n,h₁.get? s2.heap.objs.size=some { cls:=.type "list", data:=.seq ([]:List Value).toArray n }:=⟨_,hsb₁.extBut _ _ (Ne.symm hDC) (Heap.get?_push_of_some _ (hH2 ▸ Heap.get?_push_size _ rfl))⟩
 have fo:∀ b ∈ fp,b < s2.heap.objs.size:=fun b hb=>by
  obtain ⟨o,ho,_⟩:=T.obj _ _ st2 b hb
  exact Heap.lt_size ho
 have st3:tn 0 h₁:=T.keep _ _ _ st2 fun b _ o e=>old b o e
 obtain ⟨hg,ht,he⟩:=hb fp G2.objs.size s2.heap.objs.size s2 H2 I2 f2 hCle
 obtain ⟨W,⟨m0,w0⟩,turn⟩:=q2 s2.heap.objs.size (I2.hok.fresh (Nat.le_refl _))
 have loop:∀ s3:Shared,s3={ s2 with heap:=h₁,toks:=s2.toks + ([]:List (Str × Value)).length } ->
   codeAny (model X.prog X.w) X.A (.compLoop (.ListComp elt [⟨tg,iter,ifs,0⟩] scope pos) 0 (.ref it) (.ref s2.heap.objs.size) (compEnvC scope cl G2.objs.size X.env))
    (compPost (model X.prog X.w) X.A X.xe use Q2 (.ref s2.heap.objs.size) G2.objs.size) s3:=by
  rintro s3 rfl
  have I3:Inv (X.comp N' scope cl fp G2.objs.size s2 H2 (A0 X scope cl use Q2 s2.heap.objs.size G2.objs.size)) [] (capt srcs σ) (upd H2 s2.heap.objs.size (.lst [])) { s2 with heap:=h₁,toks:=s2.toks + ([]:List (Str × Value)).length }:=
   Pd S I2 f2 fo (Nat.le_refl _) hCle hDC ⟨_,hns₁⟩ old hacc
  have stat:∀ {H':Hp},(∀ b ∈ fp,H' b=none) -> ∀ b ∈ fp,FpOk (X.comp N' scope cl fp G2.objs.size s2 H2 (A0 X scope cl use Q2 s2.heap.objs.size G2.objs.size)) [] H' b:=fun hn b hb=>
   ⟨hn b hb,Nat.ne_of_lt (Nat.lt_of_lt_of_le (fo b hb) hCle),(fun z=>(List.mem_cons.mp (I2.stkSub b z)).elim (f2 b hb).2.1 (f2 b hb).2.2.1),.inl hb,fun x c hl=>(f2 b hb).2.2.2.2.1 x c (S.sub x c hl),fun p hp=>absurd (show p ∈ ([]:List (Addr × Obj)) from hp) (by simp)⟩
  refine Lv (fun n s'=>∃ i σ' H',Inv (X.comp N' scope cl fp G2.objs.size s2 H2 (A0 X scope cl use Q2 s2.heap.objs.size G2.objs.size)) [] σ' H' s' /\ tn i s'.heap /\ (∀ b ∈ fp,H' b=none) /\ W i n σ' H') ?_ m0
   ⟨0,_,_,I3,st3,fun b hb=>by rw [Ad (Nat.ne_of_lt (fo b hb))];exact (f2 b hb).1,w0⟩
  rintro n s4 ⟨i,σ4,H4,I4,st4,fr4,w4⟩
  rcases turn i n σ4 H4 w4 with ⟨stop,qn⟩ | ⟨go,NN,hNN,step⟩
  ·refine thn (T.done (X.comp N' scope cl fp G2.objs.size s2 H2 (A0 X scope cl use Q2 s2.heap.objs.size G2.objs.size)) rfl rfl rfl hc i [] s4 σ4 H4 _ I4 (stat fr4) st4 stop) fun r s5 ⟨hr,I5⟩=>?_
   subst hr
   obtain ⟨m5,hn5,_⟩:=id I5.loc
   have I6:Inv X pins σ H4 s5:=I2.call' (ch:=fp) I5.os I5.base I5.hok I5.bare fun b hb=>⟨(f2 b hb).2.2.2.1,(f2 b hb).2.1,(f2 b hb).2.2.2.2.1,(f2 b hb).2.2.2.2.2⟩
   exact fin _ _ H4 s5 I6 ⟨m5,hn5⟩ (I2.fpOk hCle I5.free) qn
  ·refine thn (T.item (X.comp N' scope cl fp G2.objs.size s2 H2 (A0 X scope cl use Q2 s2.heap.objs.size G2.objs.size)) rfl rfl rfl hc i [] s4 σ4 H4 _ I4 (stat fr4) st4 go) fun r s5 ⟨u,hr,h5⟩=>?_
   subst hr
   refine thn h5 fun _ s6 ⟨x,H6,I6,r6,y6,st6,fr6⟩=>?_
   have I6':=I6.pinned (stat fr6) (T.obj _ _ st6)
   refine thn (hg _ s6 σ4 H6 x u _ I6' r6 (step x H6 y6)) fun _ s7 ⟨σ7,H7,I7,q7⟩=>?_
   have again:∀ {s9:Shared} {H9:Hp},Inv (X.comp N' scope cl fp G2.objs.size s2 H2 (A0 X scope cl use Q2 s2.heap.objs.size G2.objs.size)) ([] ++ Gd fp s6.heap) σ7 H9 s9 -> NN σ7 H9 ->
     ∃ m,m < n /\ ∃ i σ' H',Inv (X.comp N' scope cl fp G2.objs.size s2 H2 (A0 X scope cl use Q2 s2.heap.objs.size G2.objs.size)) [] σ' H' s9 /\ tn i s9.heap /\ (∀ b ∈ fp,H' b=none) /\ W i m σ' H':=fun {s9 H9} I9 n9=>by
    obtain ⟨m',hm,w9⟩:=hNN σ7 H9 n9
    refine ⟨m',hm,i + 1,σ7,H9,I9.unpinned,T.keep _ _ _ st6 fun b hb o e=>(I9.pin (b,o) (List.mem_append_right _ (List.mem_append_right _ (Dh hb e)))).1,fun b hb=>?_,w9⟩
    obtain ⟨o,e,d⟩:=T.obj _ _ st6 b hb
    exact (I9.pin (b,o) (List.mem_append_right _ (List.mem_append_right _ (Dh hb e)))).2.1
   refine thn (ht _ s7 σ7 H7 _ I7 q7) fun b s8 ⟨H8,I8,q8⟩=>?_
   cases b with
   | false=>
    rw [if_neg Bool.false_ne_true] at q8
    exact again I8 q8
   | true=>
    rw [if_pos rfl] at q8
    refine thn (he _ s8 σ7 H8 _ I8 q8) fun y s9 ⟨v9,H9,I9,r9,ys,hD,hlen,w9⟩=>?_
    refine thn (K7 (X:=X.comp N' scope cl fp G2.objs.size s2 H2 (A0 X scope cl use Q2 s2.heap.objs.size G2.objs.size)) ([] ++ Gd fp s6.heap) s9 σ7 H9 (.ref s2.heap.objs.size) [v9] (.ref s2.heap.objs.size) [y] (fun _ H'=>H' = upd H9 s2.heap.objs.size (.lst (ys ++ [v9]))) I9 rfl (.cons r9 .nil)
     ⟨_,ys,v9,rfl,rfl,hD,hlen,rfl⟩) fun _ s10 ⟨_,H10,I10,_,e10⟩=>?_
    subst e10
    exact again I10 w9
 exact codeAny_compStart_list (loop _ rfl) (T.self X.A 0 _ _ _ st3 (loop _ rfl))
theorem V5 {pins:List (Addr × Obj)} {s:Shared} {σ:St} {H:Hp} {Q:VK} (hc:X.calm=true) (S:Hv X N' srcs scope cl) (hi:PI X tg iter wi)
  (hb:∀ Q2 fp C D s2 H2,Inv X pins σ H2 s2 -> (∀ b ∈ fp,FpOk X pins H2 b) -> s2.heap.objs.size <= C -> PG (X.comp N' scope cl fp C s2 H2 (A0 X scope cl none Q2 D C)) tg g /\ PIfs (X.comp N' scope cl fp C s2 H2 (A0 X scope cl none Q2 D C)) ifs tc /\ PE (X.comp N' scope cl fp C s2 H2 (A0 X scope cl none Q2 D C)) elt te)
  (I:Inv X pins σ H s) (h:Yo srcs wi g tc te σ H Q) (hs:∀ x,foldedSetIterable iter X.env x=pure x) :
  wpAny (model X.prog X.w) X.A (eval (.ListComp elt [⟨tg,iter,ifs,0⟩] scope pos) X.env) (EP X pins σ Q) X.xe s:=by
 rw [eval_ListComp]
 refine Km (use:=none) hc S hi (fun fp C D s2 H2=>hb _ fp C D s2 H2) I h (fun D C H' s' I' ns fo q=>?_) hs
 obtain ⟨m,hn⟩:=ns
 obtain ⟨f0,f1,f2,f3,f4,f5⟩:=fo
 exact ⟨m,hn,fun h' sb=>⟨.ref D,H',I'.turned (t':=s'.toks) (fun b o hb e=>(sb.2 b hb).trans e) f0 f1 f3 f4 f5,rfl,q⟩⟩
theorem V4 {i:Nat} {x:Str} {pos' spos:Pos} {pins:List (Addr × Obj)} {s:Shared} {σ:St} {H:Hp} {D:Ends} (hc:X.calm=true) (hN:X.N.Nodup) (hx:X.N[i]? = some x) (hl:X.env.scope.names.lookup x=some .local) (S:Hv X N' srcs scope cl) (hi:PI X tg iter wi)
  (hb:∀ us Q2 fp C D s2 H2,Inv X pins σ H2 s2 -> (∀ b ∈ fp,FpOk X pins H2 b) -> s2.heap.objs.size <= C -> PG (X.comp N' scope cl fp C s2 H2 (A0 X scope cl us Q2 D C)) tg g /\ PIfs (X.comp N' scope cl fp C s2 H2 (A0 X scope cl us Q2 D C)) ifs tc /\ PE (X.comp N' scope cl fp C s2 H2 (A0 X scope cl us Q2 D C)) elt te)
  (I:Inv X pins σ H s) (h:tAsg (Yo srcs wi g tc te) (Wk i) D σ H)
  (hsw:swapsWith (.ListComp elt [⟨tg,iter,ifs,0⟩] scope pos) (some (.Name x pos')) spos.line X.env=pure true) (hs:∀ x,foldedSetIterable iter X.env x=pure x) :
  wpAny (model X.prog X.w) X.A (exec (.Assign [.Name x pos'] (.ListComp elt [⟨tg,iter,ifs,0⟩] scope pos) spos) X.env) (SP X pins D) X.xe s:=by
 rw [exec_Assign_Name_used _ _ _ _ hsw]
 refine wpAny_bind (wpAny_standAt (wpAny_bind ?_))
 show wpAny _ X.A (do let _ <- comprehension (.ListComp elt [⟨tg,iter,ifs,0⟩] scope pos) scope X.env _ (newList []) false (eval iter X.env) (some (assign (.Name x pos') X.env))) _ _ s
 refine wpAny_bind (thn (Km (use:=some (assign (.Name x pos') X.env)) (Q:=fun v H'=>D.nx (σ.set i (some v)) H') (Q2:=fun _ s'=>SP X pins D .next s') hc S hi (fun fp C D s2 H2=>hb _ _ fp C D s2 H2) I h (fun L C H' s' I' ns fo q=>?_) hs) fun _ s' hq=>wpAny_pure (wpAny_pure hq))
 obtain ⟨m,hn⟩:=ns
 obtain ⟨f0,f1,f2,f3,f4,f5⟩:=fo
 obtain ⟨oC,es,ep,hoC,hd,hr⟩:=id hn
 have I2:Inv X (pins ++ [(C,oC)]) σ H' s':=I'.pins_of fun p hp=>(List.mem_append.mp hp).elim (fun z=>I'.pin p (List.mem_append_right _ z)) fun z=>by
  have z':p=(C,oC):=by simpa using z
  subst z'
  exact ⟨hoC,f0,f1,f2,fun v e=>by rw [hd] at e;cases e⟩
 refine wpAny_assign_Name (Fp (i:=i) (v:=.ref L) I2 hN hx (.inl hl) rfl (fun s2 I3=>?_) (.inr hl))
 have hoC':=(I3.pin (C,oC) (List.mem_append_right _ (List.mem_append_right _ (by simp)))).1
 refine ⟨m,⟨oC,es,ep,hoC',hd,hr⟩,fun h' sb=>?_⟩
 exact ⟨_,H',(I3.unpinned).turned (t':=s2.toks) (fun b o hb e=>(sb.2 b hb).trans e) f0 f1 f3 f4 f5,q⟩
end
def Its (x:Str):It:=⟨fun i _=>i < x.cps.size,fun i H v H'=>H' = H /\ ∃ c,x.cps[i]? = some c /\ v = .str ⟨#[c]⟩,fun i _=>i=x.cps.size⟩
theorem Yq {P:Program} {w:World} {K:PySem.W.Frag} {tg:Expr} (it:Addr) (x:Str) (t:Tok) (ty:String) (hty:ty = "str_ascii_iterator" \/ ty = "str_iterator") :
  Turn P w K tg (Its x) [it] it (fun i h=>h.IsStrIter it ty x t i) where
 mem:=by simp
 obj:=fun i h st b hb=>by
  have e:b=it:=by simpa using hb
  subst e
  obtain ⟨o,e,c,d⟩:=st
  exact ⟨o,e,fun v z=>by rw [d] at z;cases z⟩
 keep:=fun i h h' st k=>by
  obtain ⟨o,e,r⟩:=st
  exact ⟨o,k it (by simp) o e,r⟩
 item:=by
  intro X hP hw hK hc i pins s σ H E I hf st hg
  subst hP hw hK
  obtain ⟨f0,f1,f2,f3,f4,f5⟩:=hf it (by simp)
  have W:Walks X.prog X.w X.A it [it] [it] x.cps.size (SignAt x) (fun i h=>h.IsStrIter it ty x t i):=by
   rcases hty with rfl | rfl
   ·exact Walks.strAscii (I.ok.hd hc) it x t
   ·exact Walks.strWide (I.ok.hd hc) it x t
  refine W.item i s _ _ hg st fun v h' tk hv st' kk=>?_
  obtain ⟨c,u,hcp,rfl⟩:=hv
  have I1:Inv X pins σ H { s with heap:=h',toks:=tk }:=I.turned (fun b o hb e=>kk b o (by simpa using hb) e) f0 f1 f3 f4 f5
  obtain ⟨o,e,cc,d⟩:=id st'
  exact ⟨_,rfl,Kv (s:={ s with heap:=h',toks:=tk }) e cc d (by rcases hty with rfl | rfl <;> decide) ⟨.str ⟨#[c]⟩,H,I1,⟨_,rfl⟩,⟨rfl,c,hcp,rfl⟩,st',fun b hb=>(hf b hb).1⟩⟩
 done:=by
  intro X hP hw hK hc i pins s σ H E I hf st hg
  subst hP hw hK
  obtain ⟨f0,f1,f2,f3,f4,f5⟩:=hf it (by simp)
  have hg:i=x.cps.size:=hg
  subst hg
  have W:Walks X.prog X.w X.A it [it] [it] x.cps.size (SignAt x) (fun i h=>h.IsStrIter it ty x t i):=by
   rcases hty with rfl | rfl
   ·exact Walks.strAscii (I.ok.hd hc) it x t
   ·exact Walks.strWide (I.ok.hd hc) it x t
  exact W.done s _ _ st fun h' tk kk=>⟨rfl,I.turned (fun b o hb e=>kk b o (by simpa using hb) e) f0 f1 f3 f4 f5⟩
 self:=by
  intro A i s Q E st h
  rcases hty with rfl | rfl
  ·exact wpAny_pyIter_striter_ascii st h
  ·exact wpAny_pyIter_striter_wide st h
section
variable {X:Cx} {tg:Expr}
end
section
variable {X:Cx} {pins:List (Addr × Obj)} {σ:St} {H:Hp} {s:Shared} {h':Heap} {ch:List Addr} {t':Nat}
theorem Inv.turnedL (I:Inv X pins σ H s) (hf:∀ b ∈ ch,FpOk X pins H b) (k:∀ b o,b ∉ ch -> s.heap.get? b=some o -> h'.get? b=some o):Inv X pins σ H { s with heap:=h',toks:=t' }:=by
 have tr:∀ b ob,H b=some ob -> b ∉ ch:=fun b ob e hb=>by rw [(hf b hb).1] at e;cases e
 refine I.step (g':=s.gens) (d':=s.drawn) (ch:=ch) (fun b hb=>⟨(hf b hb).2.2.2.1,(hf b hb).2.1,(hf b hb).2.2.2.2.1,(hf b hb).2.2.2.2.2⟩) (fun b o _ _ hb e _=>k b o hb e) (fun b o _ _ hb e _=>⟨o.slots,k b o hb e⟩) (fun _ _ _ _ n=>n) (fun b o hb e=>⟨o,k b o hb e⟩)
  (fun _ _ e=>e) (fun _ _ _ e=>e) (fun b ps e=>⟨#[],by rw [e];simp⟩) (fun m hm=>?_) (fun b ob e=>?_) I.bare
 ·obtain ⟨o,es,ep,ho,r⟩:=hm
  exact ⟨o,es,ep,k _ o (fun z=>(hf _ z).2.1 rfl) ho,r⟩
 ·refine (I.hok b ob e).stay (fun b' w' hc' q=>k b' w' ?_ q) (fun _ q=>q) fun _ _ q=>q
  rcases hc' with rfl | hc'
  ·exact tr _ _ e
  ·exact tr _ _ hc'
theorem Inv.turnedN {T:Addr} {o:HO} (I:Inv X pins σ H s) (hf:∀ b ∈ ch,FpOk X pins H b) (k:∀ b o,b ∉ ch -> s.heap.get? b=some o -> h'.get? b=some o) (hT:s.heap.objs.size <= T) (new:ObjOk X.prog X.w (upd H T o) h' T o) :
  Inv X pins σ (upd H T o) { s with heap:=h',toks:=t' }:=by
 have tr:∀ b ob,H b=some ob -> b ∉ ch:=fun b ob e hb=>by rw [(hf b hb).1] at e;cases e
 have hn:=I.hok.fresh hT
 have nT:∀ {b o},s.heap.get? b=some o -> b ≠ T:=fun e=>Nat.ne_of_lt (Nat.lt_of_lt_of_le (Heap.lt_size e) hT)
 refine I.step (g':=s.gens) (d':=s.drawn) (ch:=ch) (fun b hb=>⟨(hf b hb).2.2.2.1,(hf b hb).2.1,(hf b hb).2.2.2.2.1,(hf b hb).2.2.2.2.2⟩) (fun b o _ _ hb e _=>k b o hb e) (fun b o _ _ hb e _=>⟨o.slots,k b o hb e⟩) (fun b o _ e n=>by rw [Ad (nT e)];exact n) (fun b o hb e=>⟨o,k b o hb e⟩)
  (fun b zs e=>by rw [Ad (Af e hn)];exact e) (fun b o zs e=>by rw [Ad (Af e hn)];exact e) (fun b ps e=>⟨#[],by rw [Ad (Af e hn),e];simp⟩) (fun m hm=>?_) (fun b ob e=>?_) I.bare
 ·obtain ⟨o,es,ep,ho,r⟩:=hm
  exact ⟨o,es,ep,k _ o (fun z=>(hf _ z).2.1 rfl) ho,r⟩
 ·by_cases hb:b=T
  ·subst hb
   rw [Ac] at e
   cases e
   exact new
  ·rw [Ad hb] at e
   refine (I.hok b ob e).stay (fun b' w' hc' q=>k b' w' ?_ q) (fun b' q=>by rw [Ad (Af q hn)];exact q) fun b' zs q=>by rw [Ad (Af q hn)];exact q
   rcases hc' with rfl | hc'
   ·exact tr _ _ e
   ·exact tr _ _ hc'
end
section
variable {X:Cx}
end
theorem Ux {bs:List Bool}:(List.range bs.length).all (fun i=>bs.getD i true)=bs.all fun b=>b:=by
 rw [Bool.eq_iff_iff,List.all_eq_true,List.all_eq_true]
 constructor
 ·intro h b hb
  obtain ⟨i,hi,e⟩:=List.mem_iff_getElem.mp hb
  have q:=h i (List.mem_range.mpr hi)
  rw [List.getD_eq_getElem?_getD,List.getElem?_eq_getElem hi,e] at q
  exact q
 ·intro h i hi
  have hi:=List.mem_range.mp hi
  rw [List.getD_eq_getElem?_getD,List.getElem?_eq_getElem hi]
  exact h _ (List.getElem_mem hi)
section
variable {X:Cx}
theorem V1 (hc:X.calm=true):Bl X (.builtin "all") (fun xs H Q=>∃ (p:Addr) (bs:List Bool),xs=[.ref p] /\ SqL X.K H p (bs.map V.bl) /\ Q (.bl (bs.all fun b=>b)) H):=by
 intro pins s σ H xs us Q I r h
 obtain ⟨p,bs,rfl,hq,q⟩:=h
 obtain ⟨u,rfl,ru⟩:=r.one
 cases ru
 obtain ⟨its,rv,pl,hz⟩:=I.list hq
 have hlen:=rv.length
 rw [List.length_map] at hlen
 obtain ⟨o,n,e,c,hd,ds⟩:=id pl
 have plt:=Heap.lt_size e
 refine call_all_walk (wpAny_pyIter_list pl.isList ?_)
 refine ⟨s.heap.objs.size,_,_,_,_,_,(fun i=>bs.getD i true),rfl,Walks.list (A:=X.A.in1) (show X.A.in1.handled=none from I.ok.hd hc) s.heap.objs.size p (Nat.ne_of_lt plt) its.toArray,⟨⟨_,Heap.get?_push_size _ rfl,rfl,rfl⟩,pl.isList.push _⟩,?_,fun h' tk kk=>?_⟩
 ·intro i v s' Q' E' hv hq'
  have hv:its[i]? = some v:=by simpa using hv
  have hi:i < bs.length:=by rw [hlen];exact (List.getElem?_eq_some_iff.mp hv).1
  have e1:(bs.map V.bl)[i]? = some (.bl bs[i]):=by simp [hi]
  obtain ⟨u',hu',ru'⟩:=rv.get e1
  rw [hv] at hu'
  cases hu'
  cases ru'
  have e2:bs.getD i true=bs[i]:=by simp [List.getD_eq_getElem?_getD,hi]
  have hq':Q' (bs.getD i true) s':=hq'
  rw [e2] at hq'
  exact wpAny_truthy_bool hq'
 ·have e3:(List.range its.toArray.size).all (fun i=>bs.getD i true)=bs.all fun b=>b:=by
   rw [List.size_toArray,<- hlen]
   exact Ux
  rw [e3]
  refine ⟨.bl _,H,I.kept (t':=tk) fun b o' eb=>kk b o' ?_ (Heap.get?_push_of_some _ eb),rfl,q⟩
  have hb:b ≠ s.heap.objs.size:=Nat.ne_of_lt (Heap.lt_size eb)
  simpa using hb
theorem V2:Bl X (.builtin "isinstance") (fun xs H Q=>∃ x T t b,xs=[x,.ty T] /\ TyOf X.K H x t /\ PySem.W.kitOne X.K t (.type T)=some b /\ Q (.bl b) H):=by
 intro pins s σ H xs us Q I r h
 obtain ⟨x,T,t,b,rfl,ty,e,q⟩:=h
 obtain ⟨u,v,rfl,ru,rv⟩:=r.two
 cases rv
 exact K0 I ru ty e fun tk=>⟨.bl b,H,I.tok tk,rfl,q⟩
theorem Up:OpR X (compareOp .LtE) (fun x y H Q=>∃ i j,x = .str i /\ y = .str j /\ Q (.bl (!decide (j.cps.toList < i.cps.toList))) H):=by
 intro pins s σ H x y v u Q I rx ry h
 obtain ⟨i,j,rfl,rfl,q⟩:=h
 obtain ⟨t,rfl⟩:=rx
 obtain ⟨t',rfl⟩:=ry
 exact PySem.P.le_str ⟨.bl _,H,I,rfl,q⟩
end
def eqVs (xs ys:List V):Bool:=decide (xs.length=ys.length) && (List.range xs.length).all fun j=>eqV (xs.getD j .non) (ys.getD j .non)
theorem Fd {xs ys:List V} (h:xs.length ≠ ys.length):eqVs xs ys=false:=by
 unfold eqVs
 rw [decide_eq_false h]
 rfl
def rEqL (K:PySem.W.Frag) (neg:Bool):R2:=fun x y H Q=>∃ a b xs ys,x = .ref a /\ y = .ref b /\ SqL K H a xs /\ SqL K H b ys /\ xs.all A7=true /\ ys.all A7=true /\ Q (.bl (if neg then !eqVs xs ys else eqVs xs ys)) H
section
variable {X:Cx}
theorem Ih {A:Around} {s:Shared} {xs ys:List V} {us ws:List Value} (rx:Vals xs us) (ry:Vals ys ws) (fx:xs.all A7=true) (fy:ys.all A7=true) (j:Nat) (h1:j < us.toArray.size) (h2:j < ws.toArray.size) :
  SeqAt.EqAt A s us.toArray[j] ws.toArray[j] (eqV (xs.getD j .non) (ys.getD j .non)):=by
 have e1:=rx.length
 have e2:=ry.length
 have h1':j < us.length:=by simpa using h1
 have h2':j < ws.length:=by simpa using h2
 have a1:xs[j]? = some (xs[j]'(by omega)):=by simp
 have a2:ys[j]? = some (ys[j]'(by omega)):=by simp
 obtain ⟨u,hu,ru⟩:=rx.get a1
 obtain ⟨v,hv,rv⟩:=ry.get a2
 have b1:us.toArray[j]=u:=by
  have:us[j]? = some us[j]:=by simp
  rw [this] at hu
  simpa using Option.some.inj hu
 have b2:ws.toArray[j]=v:=by
  have:ws[j]? = some ws[j]:=by simp
  rw [this] at hv
  simpa using Option.some.inj hv
 have c1:xs.getD j .non=xs[j]'(by omega):=by rw [List.getD_eq_getElem?_getD,a1];rfl
 have c2:ys.getD j .non=ys[j]'(by omega):=by rw [List.getD_eq_getElem?_getD,a2];rfl
 rw [b1,b2,c1,c2]
 exact Pi ru rv (List.all_eq_true.mp fx _ (List.getElem_mem _)) (List.all_eq_true.mp fy _ (List.getElem_mem _))
theorem am4 (hu:X.A.units < cLine):OpR X (compareOp .Eq) (rEqL X.K false):=by
 intro pins s σ H x y v u Q I rx ry h
 obtain ⟨a,b,xs,ys,rfl,rfl,qa,qb,fx,fy,q⟩:=h
 cases rx
 cases ry
 obtain ⟨its,r,pl,hz⟩:=I.list qa
 obtain ⟨its2,r2,pl2,hz2⟩:=I.list qb
 have e1:=r.length
 have e2:=r2.length
 by_cases hl:xs.length=ys.length
 ·refine SeqAt.eq_listAt (e:=fun j=>eqV (xs.getD j .non) (ys.getD j .non)) pl.isList pl2.isList (by simp;omega) hu (fun j h1 h2=>Ih r r2 fx fy j h1 h2) ⟨.bl _,H,I,rfl,?_⟩
  have e:eqVs xs ys=(List.range its.toArray.size).all fun j=>eqV (xs.getD j .non) (ys.getD j .non):=by
   unfold eqVs
   rw [decide_eq_true hl,List.size_toArray,<- e1]
   rfl
  rw [<- e]
  exact q
 ·refine SeqAt.eq_list_lengthsAt pl.isList pl2.isList (by simp;omega) hu ⟨.bl _,H,I,rfl,?_⟩
  rw [Fd hl] at q
  exact q
theorem am9 (hu:X.A.units < cLine):OpR X (compareOp .NotEq) (rEqL X.K true):=by
 intro pins s σ H x y v u Q I rx ry h
 obtain ⟨a,b,xs,ys,rfl,rfl,qa,qb,fx,fy,q⟩:=h
 cases rx
 cases ry
 obtain ⟨its,r,pl,hz⟩:=I.list qa
 obtain ⟨its2,r2,pl2,hz2⟩:=I.list qb
 have e1:=r.length
 have e2:=r2.length
 by_cases hl:xs.length=ys.length
 ·refine SeqAt.RcNeAt.lists (e:=fun j=>eqV (xs.getD j .non) (ys.getD j .non)) pl.isList pl2.isList (by simp;omega) hu (fun j h1 h2=>Ih r r2 fx fy j h1 h2) _ _ _ _ ⟨.bl _,H,I,rfl,?_⟩
  have e:eqVs xs ys=(List.range its.toArray.size).all fun j=>eqV (xs.getD j .non) (ys.getD j .non):=by
   unfold eqVs
   rw [decide_eq_true hl,List.size_toArray,<- e1]
   rfl
  rw [<- e]
  exact q
 ·refine SeqAt.RcNeAt.lists_lengths pl.isList pl2.isList (by simp;omega) hu _ _ _ _ ⟨.bl _,H,I,rfl,?_⟩
  rw [Fd hl] at q
  exact q
end
theorem Ww {cl:List (Str × Addr)} {x:Str} (h:x ∈ cl.map (·.1)):∃ c,cl.lookup x=some c:=by
 induction cl with
 | nil=>simp at h
 | cons p r ih=>
  obtain ⟨n,a⟩:=p
  rw [List.lookup_cons]
  cases e:x == n with
  | true=>exact ⟨a,rfl⟩
  | false=>
   refine ih ?_
   rcases List.mem_cons.mp h with q | q
   ·rw [show x=n from q] at e;simp at e
   ·exact q
section
variable {X:Cx} {e:Expr} {te:TE} {lo hi:Option Expr} {tl th:TO} {pos p2:Pos}
theorem Qn {ys:List Str}:∀ {us:List Value},Vals (ys.map V.str) us -> StrsAre us ys:=by
 induction ys with
 | nil=>intro us r;rw [List.map_nil] at r;cases r;exact .nil
 | cons y ys ih=>
  intro us r
  rw [List.map_cons] at r
  cases r with
  | cons r1 r2=>
   obtain ⟨t,e⟩:=r1
   subst e
   exact .cons y t (ih r2)
theorem Zr:MtR X "str.join" (fun x xs H Q=>∃ z p ys,x = .str z /\ xs=[.ref p] /\ SqL X.K H p (ys.map V.str) /\ (ys.map (·.length)).sum + ys.length * z.length <= 16777216 /\ Q (.str (Txt.join z ys)) H):=by
 intro pins s σ H x xs v us Q I rx rs h
 obtain ⟨z,p,ys,rfl,rfl,hq,hz,q⟩:=h
 obtain ⟨t,rfl⟩:=rx
 obtain ⟨u,rfl,ru⟩:=rs.one
 cases ru
 obtain ⟨its,rv,pl,_⟩:=I.list hq
 exact PyProof.Rows.join_list pl.isList (by simpa using Qn rv) hz fun t' k=>⟨.str _,H,I.tok k,⟨_,rfl⟩,q⟩
end
end L2
set_option maxHeartbeats 4000000
namespace L2
open PySem PySem.Spec PyProof.Rows
section
variable {κ:Type} [DecidableEq κ]
def valV (kvs:List (κ × V)) (k:κ):Option V:=(kvs.find? fun kv=>decide (kv.1=k)).map (·.2)
def putK (kvs:List (κ × V)) (k:κ) (v:V):List (κ × V):=
 if (kvs.any fun kv=>decide (kv.1=k))=true then kvs.map (fun kv=>if kv.1=k then (kv.1,v) else kv) else kvs ++ [(k,v)]
theorem Eb {p:κ × V} {r:List (κ × V)} {k:κ} (e:p.1=k):valV (p :: r) k=some p.2:=by simp [valV,List.find?_cons,e]
theorem Db {p:κ × V} {r:List (κ × V)} {k:κ} (e:¬ p.1=k):valV (p :: r) k=valV r k:=by simp [valV,List.find?_cons,e]
theorem J3 (k:κ):∀ kvs:List (κ × V),(kvs.any fun kv=>decide (kv.1=k))=(valV kvs k).isSome
 | []=>rfl
 | p :: r=>by
  rw [List.any_cons]
  by_cases e:p.1=k
  ·simp only [Eb e,decide_eq_true e,Bool.true_or,Option.isSome_some]
  ·rw [Db e,decide_eq_false e,Bool.false_or];exact J3 k r
theorem Dy (kvs:List (κ × V)) (k:κ) (v:V):(putK kvs k v).length <= kvs.length + 1:=by
 unfold putK
 split
 ·rw [List.length_map];omega
 ·rw [List.length_append,List.length_cons,List.length_nil];omega
theorem Iw {kvs:List (κ × V)} {k:κ} (v:V) (h:valV kvs k=none):putK kvs k v=kvs ++ [(k,v)]:=by
 unfold putK
 rw [J3,h]
 exact if_neg (by decide)
theorem RelO.isSome_eq {o:Option V} {u:Option Value} (r:RelO o u):o.isSome=u.isSome:=by
 cases o with
 | none=>cases u with
  | none=>rfl
  | some _=>exact (show False from r).elim
 | some _=>cases u with
  | none=>exact (show False from r).elim
  | some _=>rfl
theorem RelO.getD {o:Option V} {u:Option Value} {d:V} {d':Value} (r:RelO o u) (rd:RelV d d'):RelV (o.getD d) (u.getD d'):=by
 cases o with
 | none=>cases u with
  | none=>exact rd
  | some _=>exact (show False from r).elim
 | some _=>cases u with
  | none=>exact (show False from r).elim
  | some _=>exact r
theorem KV.val {kvs:List (κ × V)} {vs:List (κ × Value)} (r:KV kvs vs) (k:κ):RelO (valV kvs k) (valueAt vs k):=by
 unfold KV at r
 induction r with
 | nil=>exact True.intro
 | @cons p q ps qs h t ih=>
  obtain ⟨h1,h2⟩:=h
  by_cases e:p.1=k
  ·have e':q.1=k:=h1.symm.trans e
   have b:valueAt (q :: qs) k=some q.2:=by simp [valueAt,List.find?_cons,e']
   rw [Eb e,b];exact h2
  ·have e':¬ q.1=k:=fun z=>e (h1.trans z)
   have b:valueAt (q :: qs) k=valueAt qs k:=by simp [valueAt,List.find?_cons,e']
   rw [Db e,b];exact ih
theorem KV.any {kvs:List (κ × V)} {vs:List (κ × Value)} (r:KV kvs vs) (k:κ):(kvs.any fun kv=>decide (kv.1=k))=vs.any fun kv=>decide (kv.1=k):=by
 unfold KV at r
 induction r with
 | nil=>rfl
 | cons h t ih=>rw [List.any_cons,List.any_cons,ih,h.1]
theorem KV.repl {kvs:List (κ × V)} {vs:List (κ × Value)} (r:KV kvs vs) (k:κ) {y:V} {u:Value} (ry:RelV y u) :
  KV (kvs.map fun kv=>if kv.1=k then (kv.1,y) else kv) (vs.map fun kv=>if kv.1=k then (kv.1,u) else kv):=by
 unfold KV at r ⊢
 induction r with
 | nil=>exact .nil
 | @cons p q ps qs h t ih=>
  rw [List.map_cons,List.map_cons]
  refine .cons ?_ ih
  obtain ⟨h1,h2⟩:=h
  by_cases e:p.1=k
  ·rw [if_pos e,if_pos (h1.symm.trans e)];exact ⟨h1,ry⟩
  ·rw [if_neg e,if_neg (fun z=>e (h1.trans z))];exact ⟨h1,h2⟩
theorem KV.put {kvs:List (κ × V)} {vs:List (κ × Value)} (r:KV kvs vs) (k:κ) {y:V} {u:Value} (ry:RelV y u):KV (putK kvs k y) (stored vs k u):=by
 unfold putK stored
 rw [r.any k]
 by_cases e:(vs.any fun kv=>decide (kv.1=k))=true
 ·rw [if_pos e,if_pos e];exact r.repl k ry
 ·rw [if_neg e,if_neg e];exact Paired.snoc r ⟨rfl,ry⟩
theorem KV.keys {kvs:List (κ × V)} {vs:List (κ × Value)} (r:KV kvs vs):kvs.map (·.1)=vs.map (·.1):=by
 unfold KV at r
 induction r with
 | nil=>rfl
 | cons h t ih=>rw [List.map_cons,List.map_cons,ih,h.1]
theorem KV.length {kvs:List (κ × V)} {vs:List (κ × Value)} (r:KV kvs vs):kvs.length=vs.length:=Paired.length r
end
theorem Gm {P:Program} {w:World} {k:Key} {u:Value} (r:RelV (kV k) u):(Ao P w).is k u=true:=by
 cases k with
 | inl i=>obtain ⟨t,e⟩:=(show ∃ t,u=Value.int i t from r);subst e;exact N0 P w i t
 | inr x=>obtain ⟨t,e⟩:=(show ∃ t,u=Value.str x t from r);subst e;exact N1 P w x t
theorem K1 {P:Program} {w:World}:∀ {ks:List Key} {us:List Value},Vals (ks.map kV) us -> ItemsAre (Ao P w) ks us
 | [],_,r=>by rw [List.map_nil] at r;cases r;exact .nil
 | k :: ks,_,r=>by
  rw [List.map_cons] at r
  cases r with
  | cons h t=>exact .cons (Gm h) (K1 t)
abbrev KT (H:Hp):List (List Key × V) -> List (List Key × Addr × Value) -> Prop:=Paired fun p q=>p.1=q.1 /\ H q.2.1=some (.tup (p.1.map kV)) /\ RelV p.2 q.2.2
theorem KT.val {H:Hp} {kvs:List (List Key × V)} {xs:List (List Key × Addr × Value)} (r:KT H kvs xs) (k:List Key):RelO (valV kvs k) ((atKey xs k).map (·.2)):=by
 induction r with
 | nil=>exact True.intro
 | @cons p q ps qs h t ih=>
  obtain ⟨h1,_,h2⟩:=h
  by_cases e:p.1=k
  ·have e':q.1=k:=h1.symm.trans e
   have b:atKey (q :: qs) k=some q.2:=by simp [atKey,List.find?_cons,e']
   rw [Eb e,b];exact h2
  ·have e':¬ q.1=k:=fun z=>e (h1.trans z)
   have b:atKey (q :: qs) k=atKey qs k:=by simp [atKey,List.find?_cons,e']
   rw [Db e,b];exact ih
theorem KT.repl {H:Hp} {kvs:List (List Key × V)} {xs:List (List Key × Addr × Value)} (r:KT H kvs xs) (k:List Key) {y:V} {u:Value} (ry:RelV y u) :
  KT H (kvs.map fun kv=>if kv.1=k then (kv.1,y) else kv) (xs.map (putAt k u)):=by
 induction r with
 | nil=>exact .nil
 | @cons p q ps qs h t ih=>
  rw [List.map_cons,List.map_cons]
  refine .cons ?_ ih
  obtain ⟨h1,h2,h3⟩:=h
  unfold putAt
  by_cases e:p.1=k
  ·rw [if_pos e,if_pos (h1.symm.trans e)];exact ⟨h1,h2,ry⟩
  ·rw [if_neg e,if_neg (fun z=>e (h1.trans z))];exact ⟨h1,h2,h3⟩
theorem KT.put {H:Hp} {kvs:List (List Key × V)} {xs:List (List Key × Addr × Value)} (r:KT H kvs xs) (k:List Key) {b:Addr} {y:V} {u:Value} (hb:H b=some (.tup (k.map kV))) (ry:RelV y u) :
  KT H (putK kvs k y) (storedH xs k b u):=by
 have e:(kvs.any fun kv=>decide (kv.1=k))=(atKey xs k).isSome:=by
  rw [J3,(r.val k).isSome_eq,Option.isSome_map]
 unfold putK storedH
 rw [e]
 by_cases q:(atKey xs k).isSome=true
 ·rw [if_pos q,if_pos q];exact r.repl k ry
 ·rw [if_neg q,if_neg q];exact Paired.snoc r ⟨rfl,hb,ry⟩
theorem KT.keeps {H H':Hp} {kvs:List (List Key × V)} {xs:List (List Key × Addr × Value)} (r:KT H kvs xs) (ht:∀ b ys,H b=some (.tup ys) -> H' b=some (.tup ys)):KT H' kvs xs:=
 Paired.mapP r fun _ _ z=>⟨z.1,ht _ _ z.2.1,z.2.2⟩
section
variable {P:Program} {w:World} {H:Hp} {h:Heap} {a:Addr}
theorem ag4 {u:HO} (ok:HOk P w H h) (e:Rd H a u):ObjOk P w H h a u:=e.ok ok
theorem Cp {kvs:List (Key × V)} (ok:HOk P w H h) (e:Rd H a (.dK kvs)):kvs.length <= sizeLine /\ (a == sysModules)=false /\ ∃ vs,KV kvs vs /\ h.DictOf (Ao P w) a vs:=
 show ObjOk P w H h a (.dK kvs) from ag4 ok e
theorem V8 {kvs:List (Key × V)} (ok:HOk P w H h) (e:H a=some (.dK kvs)):kvs.length <= sizeLine /\ (a == sysModules)=false /\ ∃ vs,KV kvs vs /\ h.DictOf (Ao P w) a vs:=Cp ok (.inl e)
theorem Ep {ks:List Key} (ok:HOk P w H h) (e:H a=some (.tup (ks.map kV))):(tupleKind (Ao P w)).is h ks a:=by
 obtain ⟨_,its,r,o,h1,h2,n,h3⟩:=(show ObjOk P w H h a (.tup (ks.map kV)) from ok a _ e)
 exact ⟨o,its.toArray,n,h1,h2,h3,by simpa using K1 r⟩
theorem Ia {kvs:List (List Key × V)} (ok:HOk P w H h) (e:Rd H a (.dT kvs)):kvs.length <= sizeLine /\ (a == sysModules)=false /\
  ∃ xs,KT H kvs xs /\ h.DictOfH (tupleKind (Ao P w)) a xs:=by
 obtain ⟨z,y,xs,r,o,es,ep,h1,h2,h3,h4,h5⟩:=(show ObjOk P w H h a (.dT kvs) from ag4 ok e)
 refine ⟨z,y,xs,r,o,es,ep,h1,h2,h3,h4,fun x hx=>?_,h5⟩
 have all:∀ {l:List (List Key × V)} {m:List (List Key × Addr × Value)},KT H l m -> ∀ x ∈ m,(tupleKind (Ao P w)).is h x.1 x.2.1:=by
  intro l m q
  induction q with
  | nil=>intro x hx;exact nomatch hx
  | @cons p q ps qs hq t ih=>
   intro x hx
   rcases List.mem_cons.mp hx with e | hx
   ·subst e
    exact Ep ok (by rw [<- hq.1];exact hq.2.1)
   ·exact ih x hx
 exact all r x hx
theorem ay5 {kvs:List (List Key × V)} (ok:HOk P w H h) (e:H a=some (.dT kvs)):kvs.length <= sizeLine /\ (a == sysModules)=false /\
  ∃ xs,KT H kvs xs /\ h.DictOfH (tupleKind (Ao P w)) a xs:=Ia ok (.inl e)
end
def DGet (H:Hp) (a:Addr) (y:V) (r:Option V):Prop:=
 (∃ kvs k,Rd H a (.dK kvs) /\ y=kV k /\ r=valV kvs k) \/ ∃ kvs k b,Rd H a (.dT kvs) /\ y = .ref b /\ H b=some (.tup (k.map kV)) /\ r=valV kvs k
def DPut (H:Hp) (a:Addr) (y v:V) (H':Hp):Prop:=
 (∃ kvs k,H a=some (.dK kvs) /\ y=kV k /\ kvs.length < sizeLine /\ H' = upd H a (.dK (putK kvs k v))) \/
 ∃ kvs k b,H a=some (.dT kvs) /\ y = .ref b /\ H b=some (.tup (k.map kV)) /\ kvs.length < sizeLine /\ H' = upd H a (.dT (putK kvs k v))
theorem DGet.k {H:Hp} {a:Addr} {kvs:List (Key × V)} {k:Key} (e:H a=some (.dK kvs)):DGet H a (kV k) (valV kvs k):=.inl ⟨kvs,k,.inl e,rfl,rfl⟩
theorem DGet.t {H:Hp} {a b:Addr} {kvs:List (List Key × V)} {k:List Key} (e:H a=some (.dT kvs)) (eb:H b=some (.tup (k.map kV))):DGet H a (.ref b) (valV kvs k):=.inr ⟨kvs,k,b,.inl e,rfl,eb,rfl⟩
theorem DPut.k {H:Hp} {a:Addr} {kvs:List (Key × V)} {k:Key} {v:V} (e:H a=some (.dK kvs)) (hl:kvs.length < sizeLine):DPut H a (kV k) v (upd H a (.dK (putK kvs k v))):=.inl ⟨kvs,k,e,rfl,hl,rfl⟩
theorem DPut.t {H:Hp} {a b:Addr} {kvs:List (List Key × V)} {k:List Key} {v:V} (e:H a=some (.dT kvs)) (eb:H b=some (.tup (k.map kV))) (hl:kvs.length < sizeLine) :
  DPut H a (.ref b) v (upd H a (.dT (putK kvs k v))):=.inr ⟨kvs,k,b,e,rfl,eb,hl,rfl⟩
section
variable {X:Cx} {pins:List (Addr × Obj)} {σ:St} {H:Hp} {s:Shared} {a:Addr} {y v:V} {u r:Value} {o:Option V} {A:Around} {E:Value -> Shared -> Prop}
theorem Inv.big (I:Inv X pins σ H s):sysModules < s.heap.objs.size:=by
 have h:mainGlobals < s.heap.objs.size:=(I.mod.glob.keeps I.bk).lt
 exact Nat.lt_trans (by decide) h
theorem Ti {Q:Value -> Shared -> Prop} (hu:A.units + 1 < cLine) (I:Inv X pins σ H s) (g:DGet H a y (some v)) (ry:RelV y u) (h:∀ w' s',Inv X pins σ H s' -> RelV v w' -> Q w' s') :
  wpAny (model X.prog X.w) A (getItem (.ref a) u) Q E s:=by
 rcases g with ⟨kvs,k,e,ey,l⟩ | ⟨kvs,k,b,e,ey,eb,l⟩
 ·subst ey
  obtain ⟨z,hd,vs,rel,dd⟩:=Cp I.hok e
  obtain ⟨w',hw,rw'⟩:=RelO.some_of (v:=v) (o:=valueAt vs k) (by rw [l];exact rel.val k)
  exact wpAny_getItem_of (Gm ry) dd.mapOf hw (h w' _ (I.tok _) rw')
 ·subst ey
  cases (show u=Value.ref b from ry)
  obtain ⟨z,hd,xs,rel,dd⟩:=Ia I.hok e
  obtain ⟨w',hw,rw'⟩:=RelO.some_of (v:=v) (o:=(atKey xs k).map (·.2)) (by rw [l];exact rel.val k)
  obtain ⟨p,hp,hp2⟩:=Option.map_eq_some_iff.mp hw
  refine wpAny_getItem_heap (tupleKind_room_in1 hu) (Ep I.hok eb) dd hp ?_
  rw [hp2]
  exact h w' _ (I.tok _) rw'
theorem d_in {Q:Value -> Shared -> Prop} (hu:A.units + 1 < cLine) (I:Inv X pins σ H s) (g:DGet H a y o) (ry:RelV y u) (h:∀ s',Inv X pins σ H s' -> Q (.bool o.isSome) s') :
  wpAny (model X.prog X.w) A (compareOp .In u (.ref a)) Q E s:=by
 rcases g with ⟨kvs,k,e,ey,l⟩ | ⟨kvs,k,b,e,ey,eb,l⟩
 ·subst ey
  obtain ⟨z,hd,vs,rel,dd⟩:=Cp I.hok e
  refine wpAny_in_of (Gm ry) hd dd.mapOf ?_
  rw [<- (rel.val k).isSome_eq,<- l]
  exact h _ (I.tok _)
 ·subst ey
  cases (show u=Value.ref b from ry)
  obtain ⟨z,hd,xs,rel,dd⟩:=Ia I.hok e
  refine wpAny_in_heap (tupleKind_room_in1 hu) (Ep I.hok eb) hd dd ?_
  have q:=(rel.val k).isSome_eq
  rw [Option.isSome_map] at q
  rw [<- q,<- l]
  exact h _ (I.tok _)
theorem Y8 {Q:Value -> Shared -> Prop} (hu:A.units + 1 < cLine) (I:Inv X pins σ H s) (g:DGet H a y o) (ry:RelV y u) (h:∀ s',Inv X pins σ H s' -> Q (.bool (!o.isSome)) s') :
  wpAny (model X.prog X.w) A (compareOp .NotIn u (.ref a)) Q E s:=by
 rcases g with ⟨kvs,k,e,ey,l⟩ | ⟨kvs,k,b,e,ey,eb,l⟩
 ·subst ey
  obtain ⟨z,hd,vs,rel,dd⟩:=Cp I.hok e
  refine wpAny_notIn_of (Gm ry) hd dd.mapOf ?_
  rw [<- (rel.val k).isSome_eq,<- l]
  exact h _ (I.tok _)
 ·subst ey
  cases (show u=Value.ref b from ry)
  obtain ⟨z,hd,xs,rel,dd⟩:=Ia I.hok e
  refine wpAny_notIn_heap (tupleKind_room_in1 hu) (Ep I.hok eb) hd dd ?_
  have q:=(rel.val k).isSome_eq
  rw [Option.isSome_map] at q
  rw [<- q,<- l]
  exact h _ (I.tok _)
theorem G6 {h':Heap} {t':Nat} {ob:HO} (I:Inv X pins σ H s) (mu:Mut (H a)) (hs:Heap.SameBut a s.heap h') (he:∃ q,h'.get? a=some q) (new:ObjOk X.prog X.w (upd H a ob) h' a ob) :
  Inv X pins σ (upd H a ob) { s with heap:=h',toks:=t' }:=
 I.write (x:=a) (e:=a) mu (.inl rfl) (fun b q hb z=>(hs.2 b hb).trans z) he new
theorem Pf {P:Program} {w:World} {H':Hp} {h':Heap} {kvs:List (Key × V)} {vs:List (Key × Value)} (z:kvs.length <= sizeLine) (hd:(a == sysModules)=false) (rel:KV kvs vs) (dd:h'.DictOf (Ao P w) a vs) :
  ObjOk P w H' h' a (.dK kvs):=⟨z,hd,vs,rel,dd⟩
theorem Tj {H':Hp} {Q:Unit -> Shared -> Prop} (hu:A.units + 1 < cLine) (I:Inv X pins σ H s) (g:DPut H a y v H') (ry:RelV y u) (rv:RelV v r) (h:∀ s',Inv X pins σ H' s' -> Q () s') :
  wpAny (model X.prog X.w) A (setItem (.ref a) u r) Q E s:=by
 rcases g with ⟨kvs,k,e,ey,l,eH⟩ | ⟨kvs,k,b,e,ey,eb,l,eH⟩
 ·subst ey eH
  obtain ⟨z,hd,vs,rel,dd⟩:=V8 I.hok e
  have hz:vs.length <= sizeLine:=by rw [<- rel.length];exact z
  have hl:(putK kvs k v).length <= sizeLine:=by have:=Dy kvs k v;omega
  refine wpAny_setItem_pairs (hsz:=hz) (Gm ry) dd fun h' dd' hs=>h _ ?_
  have he:∃ q,h'.get? a=some q:=let ⟨q,_,_,hq,_⟩:=dd';⟨q,hq⟩
  exact G6 I (by rw [e];exact True.intro) hs he (Pf hl hd (rel.put k rv) dd')
 ·subst ey eH
  cases (show u=Value.ref b from ry)
  obtain ⟨z,hd,xs,rel,dd⟩:=ay5 I.hok e
  have hz:xs.length <= sizeLine:=by rw [<- Paired.length rel];exact z
  have hl:(putK kvs k v).length <= sizeLine:=by have:=Dy kvs k v;omega
  refine wpAny_setItem_heap (hsz:=hz) (tupleKind_room_in1 hu) (Ep I.hok eb) dd fun h' dd' hs=>h _ ?_
  obtain ⟨q,es,ep,hq,h2,h3,h4,_,h5⟩:=dd'
  refine G6 I (by rw [e];exact True.intro) hs ⟨q,hq⟩ ⟨hl,hd,_,(rel.put k eb rv).keeps fun c ys ec=>?_,q,es,ep,hq,h2,h3,h4,h5⟩
  rw [Ad (az3 ec e (fun z=>nomatch z))]
  exact ec
end
section
variable {X:Cx} {pins:List (Addr × Obj)} {σ:St} {H:Hp} {s:Shared} {a:Addr} {kvs:List (Key × V)} {k:Key} {u:Value} {A:Around} {E:Value -> Shared -> Prop}
theorem Y7 {Q:Value -> Shared -> Prop} (I:Inv X pins σ H s) (e:H a=some (.dK kvs)) (h:∀ s',Inv X pins σ (upd H a (.dK [])) s' -> Q .none s'):wpAny (model X.prog X.w) A (call (.builtin "dict.clear") [.ref a]) Q E s:=by
 obtain ⟨z,hd,vs,rel,dd⟩:=V8 I.hok e
 refine call_meetsIn PySem.F.slot_dict_clear dd.typeIs PySem.F.entry_dict_clear (PySem.F.args_dict_clear_1 _) (meets_dict_clear (Ao X.prog X.w) a) ⟨vs,dd,by rw [<- rel.length];exact z,fun h' dd' hs=>h _ ?_⟩
 have he:∃ q,h'.get? a=some q:=let ⟨q,_,_,hq,_⟩:=dd';⟨q,hq⟩
 exact G6 (t':=s.toks) I (by rw [e];exact True.intro) hs he (Pf (Nat.zero_le _) hd .nil dd')
theorem ay3 {Q:Value -> Shared -> Prop} (I:Inv X pins σ H s) (e:Rd H a (.dK kvs)) (h:∀ t s',Inv X pins σ H s' -> Q (.int kvs.length t) s'):wpAny (model X.prog X.w) A (call (.builtin "len") [.ref a]) Q E s:=by
 obtain ⟨z,hd,vs,rel,dd⟩:=Cp I.hok e
 refine call_len_dict hd dd (by rw [<- rel.length];rw [sizeLine_eq] at z;omega) ?_
 rw [<- rel.length]
 exact h _ _ (I.tok _)
end
theorem Nm {X:Cx} {pins:List (Addr × Obj)} {σ:St} {H:Hp} {s:Shared} {a:Addr} {y:V} {o:Option V} (I:Inv X pins σ H s) (g:DGet H a y o):s.TypeIs (.ref a) "dict" := by
 rcases g with ⟨kvs,k,e,_,_⟩ | ⟨kvs,k,b,e,_,_,_⟩
 ·obtain ⟨_,_,vs,_,dd⟩:=Cp I.hok e
  exact dd.typeIs
 ·obtain ⟨_,_,xs,_,dd⟩:=Ia I.hok e
  exact dd.typeIs
section
variable {X:Cx} {o i e value:Expr} {pos pos' tpos:Pos} {td ty tv:TE}
end
theorem Nn {P:Program} {w:World} {H:Hp} (h:Heap) (hb:sysModules < h.objs.size):ObjOk P w H (h.push { cls:=.type "dict", data:=.dict #[] }) h.objs.size (.dK []):=
 ⟨Nat.zero_le _,beq_eq_false_iff_ne.mpr (Ne.symm (Nat.ne_of_lt hb)),[],.nil,Heap.DictOf.new h⟩
theorem V9 {P:Program} {w:World} {H:Hp} (h:Heap) (hb:sysModules < h.objs.size):ObjOk P w H (h.push { cls:=.type "dict", data:=.dict #[] }) h.objs.size (.dT []):=
 ⟨Nat.zero_le _,beq_eq_false_iff_ne.mpr (Ne.symm (Nat.ne_of_lt hb)),[],.nil,_,#[],0,Heap.get?_push_size _ rfl,⟨rfl,rfl,rfl⟩,rfl,rfl,List.nodup_nil⟩
section
variable {X:Cx} {pos:Pos}
end
def Mu:List (TE × TE) -> St -> Hp -> (List (V × V) -> Hp -> Prop) -> Prop
 | [],_,H,Q=>Q [] H
 | (tk,tv) :: r,σ,H,Q=>tk σ H fun x H1=>tv σ H1 fun y H2=>Mu r σ H2 fun ps H3=>Q ((x,y) :: ps) H3
abbrev VV:List (V × V) -> List (Value × Value) -> Prop:=Paired fun p q=>RelV p.1 q.1 /\ RelV p.2 q.2
def PPs (X:Cx) (pos:Pos) (keys:List (Option Expr)) (values:List Expr) (trs:List (TE × TE)):Prop:=
 ∀ (pins:List (Addr × Obj)) (s:Shared) (σ:St) (H:Hp) (Q:List (V × V) -> Hp -> Prop),Inv X pins σ H s -> Mu trs σ H Q ->
  wpAny (model X.prog X.w) X.A (evalPairs (pairTrees keys values X.env pos)) (fun vs s'=>∃ ps H',Inv X pins σ H' s' /\ VV ps vs /\ Q ps H') X.xe s
theorem Z4 {X:Cx} {pos:Pos}:PPs X pos [] [] []:=fun pins s σ H Q I h=>pairTrees_nil_walk ⟨[],H,I,.nil,h⟩
theorem Xk {X:Cx} {pos:Pos} {k v:Expr} {ks:List (Option Expr)} {vs:List Expr} {tk tv:TE} {trs:List (TE × TE)} (hk:PE X k tk) (hv:PE X v tv) (hr:PPs X pos ks vs trs) :
  PPs X pos (some k :: ks) (v :: vs) ((tk,tv) :: trs):=fun pins s σ H Q I h=>
 pairTrees_cons_walk (thn (hk pins s σ H _ I h) fun u s1 ⟨x,H1,I1,rx,q1⟩=>thn (hv pins s1 σ H1 _ I1 q1) fun w2 s2 ⟨y,H2,I2,ry,q2⟩=>
  thn (hr pins s2 σ H2 _ I2 q2) fun ws s3 ⟨ps,H3,I3,rel,q3⟩=>⟨(x,y) :: ps,H3,I3,.cons ⟨rx,ry⟩ rel,q3⟩)
def Eu (kvs more:List (Key × V)):List (Key × V):=more.foldl (fun acc kv=>putK acc kv.1 kv.2) kvs
theorem KV.merge:∀ {more:List (Key × V)} {rs:List (Key × Value)} {kvs:List (Key × V)} {vs:List (Key × Value)},KV more rs -> KV kvs vs -> KV (Eu kvs more) (merged vs rs):=by
 intro more rs kvs vs r
 unfold KV at r
 induction r generalizing kvs vs with
 | nil=>intro q;exact q
 | @cons p q ps qs h t ih=>
  intro r0
  have e:KV (putK kvs p.1 p.2) (stored vs q.1 q.2):=by
   have:=r0.put p.1 h.2
   rw [<- h.1];exact this
  exact ih e
theorem Ek:∀ (more kvs:List (Key × V)),(Eu kvs more).length <= kvs.length + more.length
 | [],kvs=>by show kvs.length <= kvs.length + 0;omega
 | p :: r,kvs=>by
  have h1:=Ek r (putK kvs p.1 p.2)
  have h2:=Dy kvs p.1 p.2
  show (Eu (putK kvs p.1 p.2) r).length <= _
  rw [List.length_cons];omega
theorem Hz {P:Program} {w:World}:∀ {kvs:List (Key × V)} {ws:List (Value × Value)},VV (kvs.map fun kv=>(kV kv.1,kv.2)) ws -> ∃ rs,Carries (Ao P w) ws rs /\ KV kvs rs
 | [],_,r=>by rw [List.map_nil] at r;cases r;exact ⟨[],True.intro,.nil⟩
 | p :: kvs,_,r=>by
  rw [List.map_cons] at r
  cases r with
  | @cons a b as bs h t=>
   obtain ⟨rs,c,q⟩:=Hz (P:=P) (w:=w) t
   obtain ⟨b1,b2⟩:=b
   exact ⟨(p.1,b2) :: rs,⟨Gm h.1,rfl,c⟩,.cons ⟨rfl,h.2⟩ q⟩
def a98 (trs:List (TE × TE)):TE:=fun σ H Q=>∀ p,H p=none -> Mu trs σ (upd H p (.dK [])) fun ps H2=>H2 p=some (.dK []) /\ ∃ kvs:List (Key × V),ps=kvs.map (fun kv=>(kV kv.1,kv.2)) /\ kvs.length <= 15 /\ Q (.ref p) (upd H2 p (.dK (Eu [] kvs)))
theorem Z0 {X:Cx} {pos:Pos} {keys:List (Option Expr)} {values:List Expr} {trs:List (TE × TE)} (h:PPs X pos keys values trs) (hall:keys.all (·.isSome)=true) (hl:keys.length=values.length) (h0:keys ≠ [])
  (h15:keys.length <= 15):PE X (.Dict keys values pos) (a98 trs):=by
 intro pins s σ H Q I q
 have hn:=I.hok.fresh (Nat.le_refl s.heap.objs.size)
 have I1:=I.laid (a:=s.heap.objs.size) (o:=.dK []) (h':=s.heap.push { cls:=.type "dict", data:=.dict #[] }) (t':=s.toks) (fun _ _ q=>Heap.get?_push_of_some _ q) (Nat.le_refl _) (Nn s.heap I.big)
 refine wpAny_Dict_walk (knd:=Ao X.prog X.w) hall hl h0 h15 (thn (h pins _ σ _ _ I1 (q _ hn)) fun ws s2 ⟨ps,H2,I2,rel,e,kvs,ep,lk,q2⟩=>?_)
 subst ep
 obtain ⟨rs,c,rk⟩:=Hz (P:=X.prog) (w:=X.w) rel
 obtain ⟨z,hd,vs0,r0,dd⟩:=V8 I2.hok e
 cases r0
 refine ⟨rs,c,dd,fun h' dd' hs=>⟨.ref s.heap.objs.size,_,?_,rfl,q2⟩⟩
 have hz:(Eu [] kvs).length <= sizeLine:=by
  have h1:=Ek kvs []
  rw [List.length_nil] at h1
  rw [sizeLine_eq];omega
 have he:∃ q,h'.get? s.heap.objs.size=some q:=let ⟨q,_,_,hq,_⟩:=dd';⟨q,hq⟩
 exact G6 I2 (by rw [e];exact True.intro) hs he (Pf hz hd (rk.merge .nil) dd')
section
variable {X:Cx} {pins:List (Addr × Obj)} {σ:St} {H:Hp} {s:Shared} {a:Addr} {y d:V} {u r:Value} {o:Option V} {A:Around} {E:Value -> Shared -> Prop}
theorem ai5 {Q:Value -> Shared -> Prop} (hu:A.units + 1 < cLine) (I:Inv X pins σ H s) (g:DGet H a y o) (ry:RelV y u) (h:∀ w' s',Inv X pins σ H s' -> RelV (o.getD .non) w' -> Q w' s') :
  wpAny (model X.prog X.w) A (call (.builtin "dict.get") [.ref a,u]) Q E s:=by
 rcases g with ⟨kvs,k,e,ey,l⟩ | ⟨kvs,k,b,e,ey,eb,l⟩
 ·subst ey
  obtain ⟨z,hd,vs,rel,dd⟩:=Cp I.hok e
  refine call_meetsIn PySem.F.slot_dict_get dd.typeIs PySem.F.entry_dict_get (PySem.F.args_dict_get_2 _ _) (meets_dict_get (Ao X.prog X.w) a (Gm ry) hd) ⟨_,dd.mapOf,h _ _ (I.tok _) ?_⟩
  rw [l]
  exact (rel.val k).getD rfl
 ·subst ey
  cases (show u=Value.ref b from ry)
  obtain ⟨z,hd,xs,rel,dd⟩:=Ia I.hok e
  refine call_meetsIn PySem.F.slot_dict_get dd.typeIs PySem.F.entry_dict_get (PySem.F.args_dict_get_2 _ _) (meetsH_dict_get (tupleKind (Ao X.prog X.w)) a b hd) ⟨tupleKind_room_in1 hu,k,xs,Ep I.hok eb,dd,h _ _ (I.tok _) ?_⟩
  rw [l]
  exact (rel.val k).getD rfl
theorem ai6 {Q:Value -> Shared -> Prop} (hu:A.units + 1 < cLine) (I:Inv X pins σ H s) (g:DGet H a y o) (ry:RelV y u) (rd:RelV d r) (h:∀ w' s',Inv X pins σ H s' -> RelV (o.getD d) w' -> Q w' s') :
  wpAny (model X.prog X.w) A (call (.builtin "dict.get") [.ref a,u,r]) Q E s:=by
 rcases g with ⟨kvs,k,e,ey,l⟩ | ⟨kvs,k,b,e,ey,eb,l⟩
 ·subst ey
  obtain ⟨z,hd,vs,rel,dd⟩:=Cp I.hok e
  refine call_meetsIn PySem.F.slot_dict_get dd.typeIs PySem.F.entry_dict_get (PySem.F.args_dict_get_3 _ _ _) (meets_dict_get_default (Ao X.prog X.w) a (Gm ry) hd r) ⟨_,dd.mapOf,h _ _ (I.tok _) ?_⟩
  rw [l]
  exact (rel.val k).getD rd
 ·subst ey
  cases (show u=Value.ref b from ry)
  obtain ⟨z,hd,xs,rel,dd⟩:=Ia I.hok e
  refine call_meetsIn PySem.F.slot_dict_get dd.typeIs PySem.F.entry_dict_get (PySem.F.args_dict_get_3 _ _ _) (meetsH_dict_get_default (tupleKind (Ao X.prog X.w)) a b hd r) ⟨tupleKind_room_in1 hu,k,xs,Ep I.hok eb,dd,h _ _ (I.tok _) ?_⟩
  rw [l]
  exact (rel.val k).getD rd
end
section
variable {X:Cx} {o e f:Expr} {apos cpos:Pos} {td ty tx:TE}
end
section
variable {X:Cx} {pins:List (Addr × Obj)} {σ:St} {H:Hp} {s:Shared} {a:Addr} {kvs:List (Key × V)} {A:Around} {E:Value -> Shared -> Prop}
end
section
variable {X:Cx} {pins:List (Addr × Obj)} {σ:St} {H:Hp} {s:Shared} {a:Addr} {y:V} {u:Value} {A:Around} {E:Value -> Shared -> Prop}
end
abbrev EK:=Addr -> Hp -> Prop
abbrev DE:=St -> Hp -> VK -> EK -> Prop
abbrev DT:=St -> Hp -> (Bool -> Hp -> Prop) -> EK -> Prop
abbrev DA:=St -> Hp -> (List V -> Hp -> Prop) -> EK -> Prop
structure Outs where
 nx:St -> Hp -> Prop
 rt:VK
 bk:St -> Hp -> Prop
 ct:St -> Hp -> Prop
 ex:St -> EK
abbrev DS:=Outs -> St -> Hp -> Prop
abbrev Ar (C:Addr) (dx:Option Addr) (vs:Array Value):Obj:={ cls:=.ref C,dict:=dx,data:=.fields vs }
def excO (a C:Addr) (dx:Option Addr):HO:=.ext fun h=>∃ vs:Array Value,h.get? a=some (Ar C dx vs) /\ vs.size=6 /\ vs[1]? = some .none
def flO (a C:Addr) (dx:Option Addr):HO:=.ext fun h=>∃ vs:Array Value,h.get? a=some (Ar C dx vs) /\ vs.size=6
def xdO (dx:Addr) (fs:List (Str × V)):HO:=.ext fun h=>fs.length <= 1000 /\ ∃ mA,h.Ns1 dx mA /\ (∀ f,RelO (fs.lookup f) (mA f)) /\ PySem.Within mA (fs.map (·.1))
def E3 (X:Cx) (pins:List (Addr × Obj)) (H:Hp) (a:Addr) (s:Shared):Prop:=
 ∃ (C:Addr) (dx:Option Addr) (vs:Array Value),H a=some (flO a C dx) /\ s.heap.get? a=some (Ar C dx vs) /\ vs.size=6 /\
  (vs[1]? = some .none \/ ∃ (T:Addr) (oT:Obj) (ts:Array Value),vs[1]? = some (.ref T) /\ T ≠ a /\ s.heap.get? T=some oT /\ oT.data = .fields ts /\ (∃ z,ts[3]? = some z) /\ FpOk X pins H T)
def Bv (X:Cx) (Ex:St -> EK):Prop:=
 ∀ (pins:List (Addr × Obj)) (σ:St) (H:Hp) (s:Shared) (a:Addr),Inv X pins σ H s -> E3 X pins H a s -> Ex σ a H -> X.xe (.ref a) s
def QE (X:Cx) (e:Expr) (t:DE):Prop:=∀ Ex,Bv X Ex -> PE X e (fun σ H Q=>t σ H Q (Ex σ))
def QT (X:Cx) (e:Expr) (t:DT):Prop:=∀ Ex,Bv X Ex -> PT X e (fun σ H Q=>t σ H Q (Ex σ))
def QW (X:Cx) (e:Expr) (t:DT):Prop:=∀ Ex,Bv X Ex -> PW X e (fun σ H Q=>t σ H Q (Ex σ))
def QA (X:Cx) (es:List Expr) (t:DA):Prop:=∀ Ex,Bv X Ex -> PA X es (fun σ H Q=>t σ H Q (Ex σ))
def outs (Ex:St -> EK) (D:Ends):Outs:=⟨D.nx,D.rt,D.bk,D.ct,Ex⟩
def QS (X:Cx) (st:Stmt) (t:DS):Prop:=∀ Ex,Bv X Ex -> PS X st (fun D σ H=>t (outs Ex D) σ H)
def QSs (X:Cx) (st:List Stmt) (t:DS):Prop:=∀ Ex,Bv X Ex -> PSs X st (fun D σ H=>t (outs Ex D) σ H)
def dNo:DE:=fun _ _ _ _=>False
def dVar (i:Nat):DE:=fun σ H Q _=>match σ[i]? with
 | some (some v)=>Q v H
 | _=>False
def dC (v:V):DE:=fun _ H Q _=>Q v H
def dBin (r:R2) (a b:DE):DE:=fun σ H Q E=>a σ H (fun x H1=>b σ H1 (fun y H2=>r x y H2 Q) E) E
def dUn (r:V -> Hp -> VK -> Prop) (a:DE):DE:=fun σ H Q E=>a σ H (fun x H1=>r x H1 Q) E
def Cy (r r':R2) (a b c:DE):DE:=fun σ H Q E=>a σ H (fun x H1=>b σ H1 (fun y H2=>r x y H2 fun z H3=>match z with
 | .bl k=>if k=true then c σ H3 (fun w H4=>r' y w H4 Q) E else Q (.bl false) H3
 | _=>False) E) E
def dAnd (a b:DT):DT:=fun σ H Q E=>a σ H (fun k H1=>if k=true then b σ H1 Q E else Q false H1) E
def dOr (a b:DT):DT:=fun σ H Q E=>a σ H (fun k H1=>if k=true then Q true H1 else b σ H1 Q E) E
def dNot (a:DT):DT:=fun σ H Q E=>a σ H (fun k H1=>Q (!k) H1) E
def dIfE (t:DT) (a b:DE):DE:=fun σ H Q E=>t σ H (fun k H1=>if k=true then a σ H1 Q E else b σ H1 Q E) E
def truD (K:PySem.W.Frag) (x:V) (H:Hp) (Q:Bool -> Hp -> Prop):Prop:=match x with
 | .bl k=>Q k H
 | .non=>Q false H
 | .int i=>Q (i != 0) H
 | .str y=>y.length <= sizeLine /\ Q ((y.length:Int) != 0) H
 | .ref p=>∃ k,TruV K (.ref p) H k /\ Q k H
 | _=>False
def Kn (K:PySem.W.Frag) (a b:DE):DE:=fun σ H Q E=>a σ H (fun x H1=>truD K x H1 fun k H2=>if k=true then b σ H2 Q E else Q x H2) E
def dOrV (K:PySem.W.Frag) (a b:DE):DE:=fun σ H Q E=>a σ H (fun x H1=>truD K x H1 fun k H2=>if k=true then Q x H2 else b σ H2 Q E) E
def V7 (K:PySem.W.Frag) (a:DE):DE:=fun σ H Q E=>a σ H (fun x H1=>truD K x H1 fun k H2=>Q (.bl (!k)) H2) E
def dTru (K:PySem.W.Frag) (a:DE):DT:=fun σ H Q E=>a σ H (fun x H1=>truD K x H1 Q) E
def dTst (a:DE):DT:=fun σ H Q E=>a σ H (fun x H1=>match x with
 | .bl k=>Q k H1
 | _=>False) E
def dNil:DA:=fun _ H Q _=>Q [] H
def Ab (a:DE) (r:DA):DA:=fun σ H Q E=>a σ H (fun x H1=>r σ H1 (fun xs H2=>Q (x :: xs) H2) E) E
def dTup (t:DA):DE:=fun σ H Q E=>t σ H (fun xs H1=>xs.length <= sizeLine /\ ∀ p,H1 p=none -> Q (.ref p) (upd H1 p (.tup xs))) E
def dLst (t:DA):DE:=fun σ H Q E=>t σ H (fun xs H1=>xs.length <= sizeLine /\ ∀ p,H1 p=none -> Q (.ref p) (upd H1 p (.lst xs))) E
def dFn (r:List V -> Hp -> VK -> EK -> Prop) (t:DA):DE:=fun σ H Q E=>t σ H (fun vs H1=>r vs H1 Q E) E
def dMt (r:V -> Hp -> (Hp -> (List V -> Hp -> Prop) -> Prop) -> VK -> Prop) (o:DE) (t:DA):DE:=fun σ H Q E=>o σ H (fun x H1=>r x H1 (fun H2 R=>t σ H2 R E) Q) E
def Ae:DS:=fun D σ H=>D.nx σ H
def Bo:DS:=fun _ _ _=>False
def dSeq (t u:DS):DS:=fun D σ H=>t { D with nx:=u D } σ H
def dRet (e:DE):DS:=fun D σ H=>e σ H D.rt (D.ex σ)
def ad3:DS:=fun D _ H=>D.rt .non H
def B9 (e:DE):DS:=fun D σ H=>e σ H (fun _ H1=>D.nx σ H1) (D.ex σ)
def dIf (c:DT) (t u:DS):DS:=fun D σ H=>c σ H (fun b H1=>if b=true then t D σ H1 else u D σ H1) (D.ex σ)
def dBrk:DS:=fun D σ H=>D.bk σ H
def dCnt:DS:=fun D σ H=>D.ct σ H
def dSet (i:Nat) (e:DE):DS:=fun D σ H=>e σ H (fun v H1=>D.nx (σ.set i (some v)) H1) (D.ex σ)
abbrev DG:=TG
def dAsg (e:DE) (g:DG):DS:=fun D σ H=>e σ H (fun v H1=>g v σ H1 D.nx) (D.ex σ)
abbrev DI:=St -> Hp -> (It -> Hp -> Prop) -> EK -> Prop
def ForW (J:It) (g:DG) (tb:DS) (D:Outs) (σ:St) (H:Hp):Prop:=∃ W:Nat -> Nat -> St -> Hp -> Prop,(∃ m,W 0 m σ H) /\ ∀ i m σ H,W i m σ H ->
 (J.stop i H /\ D.nx σ H) \/ (J.go i H /\ ∃ N:St -> Hp -> Prop,(∀ σ' H',N σ' H' -> ∃ m',m' < m /\ W (i + 1) m' σ' H') /\ ∀ x H',J.yld i H x H' -> g x σ H' (fun σ2 H2=>tb { D with nx:=N,ct:=N,bk:=D.nx } σ2 H2))
def Thaw (H0 H:Hp) (P:Hp -> Prop):Prop:=P H \/ ∃ p o kvs,H0 p=some (.dK kvs) /\ H p=some (.frz o (.dK kvs)) /\ P (upd H p (.dK kvs))
def dFor (wi:DI) (g:DG) (tb:DS):DS:=fun D σ H=>wi σ H (fun J H1=>ForW J g tb { D with nx:=fun σ' H'=>Thaw H H' (D.nx σ') } σ H1) (D.ex σ)
def CmpW (J:It) (g:DG) (tc:DT) (te:DE) (D:Addr) (R:Hp -> Prop) (σ:St) (H:Hp) (E:EK):Prop:=
 ∃ W:Nat -> Nat -> St -> Hp -> Prop,(∃ m,W 0 m σ H) /\ ∀ i m σ' H',W i m σ' H' ->
  (J.stop i H' /\ R H') \/ (J.go i H' /\ ∃ N:St -> Hp -> Prop,(∀ σ2 H2,N σ2 H2 -> ∃ m',m' < m /\ W (i + 1) m' σ2 H2) /\ ∀ x H2,J.yld i H' x H2 -> g x σ' H2 (fun σ3 H3=>tc σ3 H3 (fun b H4=>if b=true then
    te σ3 H4 (fun v H5=>∃ ys,H5 D=some (.lst ys) /\ ys.length < sizeLine /\ N σ3 (upd H5 D (.lst (ys ++ [v])))) E
   else N σ3 H4) E))
def Bp (srcs:List (Option Nat)) (wi:DI) (g:DG) (tc:DT) (te:DE):DE:=fun σ H Q E=>wi σ H (fun J H1=>∀ D,H1 D=none -> CmpW J g tc te D (fun H'=>Q (.ref D) H') (capt srcs σ) (upd H1 D (.lst [])) E) E
def dYes:DT:=fun _ H Q _=>Q true H
def gdN (i:Nat):DG:=fun v σ H Q=>Q (σ.set i (some v)) H
end L2
namespace L2
open PySem PySem.Spec PyProof.Rows PySem.W
section
variable {prog:Program} {w:World} {A:Around} {E:Value -> Shared -> Prop} {s:Shared} {K:PySem.W.Frag} {x C:Addr} {ox:Obj} {od:Option Obj} {name:Str} {expr:Bool} {Q:Value -> Shared -> Prop}
theorem V0 (self:Value):bindSpecial (.builtin "BaseException.__getattribute__") self=pure (.builtin "BaseException.__getattribute__", [self]):=by
 have hop:withoutEnding? "BaseException.__getattribute__" "#opaque" = none:=by decide +kernel
 have hdat:withoutEnding? "BaseException.__getattribute__" "#data" = none:=by decide +kernel
 have hk:builtinKind "BaseException.__getattribute__" = some .slot:=by decide +kernel
 simp only [bindSpecial,typeOf,builtinType,hop,hdat,hk];rfl
end
end L2
namespace L2
open PySem PySem.Spec PyProof.Rows PySem.W Builtin Builtin.ObjectAttr
def Aw:List Value -> Bool
 | [.type a,.type b,.type c,.type d]=>a == "ValueError" && b == "Exception" && c == "BaseException" && d == "object"
 | .ref _ :: r=>Aw r
 | _=>false
def valTail:List Value:=[.type "ValueError", .type "Exception", .type "BaseException", .type "object"]
theorem Df:∀ {l:List Value},Aw l=true -> ∃ rs:List Addr,l=rs.map Value.ref ++ valTail
 | [.type a,.type b,.type c,.type d],e=>by
  have e:(a == "ValueError" && b == "Exception" && c == "BaseException" && d == "object")=true:=e
  simp only [Bool.and_eq_true,beq_iff_eq] at e
  obtain ⟨⟨⟨rfl,rfl⟩,rfl⟩,rfl⟩:=e
  exact ⟨[],rfl⟩
 | .ref a :: r,e=>by
  have e:Aw r=true:=by cases r <;> first | exact e | cases e
  obtain ⟨rs,h⟩:=Df e
  exact ⟨a :: rs,by rw [h];rfl⟩
theorem Yp (rs:List Addr) {T:String} (h:valTail.contains (.type T)=true):(rs.map Value.ref ++ valTail).contains (.type T)=true:=by
 induction rs with
 | nil=>exact h
 | cons a r ih=>rw [List.map_cons,List.cons_append,List.contains_cons,ih,Bool.or_true]
section
variable {prog:Program} {w:World} {A:Around} {s:Shared} {K:PySem.W.Frag} {x C:Addr} {R:Result -> Shared -> Prop}
end
section
variable {prog:Program} {w:World} {A:Around} {E:Value -> Shared -> Prop} {s:Shared} {K:PySem.W.Frag} {x dx C f:Addr} {mA:Str -> Option Value} {name:Str} {v:Value} {vs:Array Value}
end
end L2
namespace L2
open PySem PySem.Spec PySem.W Builtin Builtin.ObjectAttr
open Sem (wp)
structure ECls (K:PySem.W.Frag) (C:Addr):Prop where
 obj:∃ nm q N bs bm hdct sn sub ab col dd k0 k1 k2 k3 k5,K.lookup C=some (excClassObj nm q C N bs bm hdct sn sub ab col dd k0 k1 k2 k3 k5 "ValueError.__new__") /\ Aw bm=true /\ hdct=true
 sa:findIn K (.ref C) "__setattr__" = some (some (.builtin "object.__setattr__"))
 ga:findIn K (.ref C) "__getattribute__" = some (some (.builtin "BaseException.__getattribute__"))
 gt:findIn K (.ref C) "__getattr__" = some none
 ca:findIn K (.ref C) "__class__" = some (some (.builtin "object.__class__"))
 hn:specialIn K (.builtin "object.__class__") "__get__" = some (some (.builtin "getset_descriptor.__get__"))
 htk:takesIn K (.builtin "object.__class__")=some true
theorem Bf {bm:List Value} (h:Aw bm=true) {T:String} {b:Bool} (hb:valTail.contains (.type T)=b):bm.contains (.type T)=b:=by
 obtain ⟨rs,rfl⟩:=Df h
 induction rs with
 | nil=>exact hb
 | cons a r ih=>
  have h':Aw (r.map Value.ref ++ valTail)=true:=by
   cases r <;> exact h
  rw [List.map_cons,List.cons_append,List.contains_cons,ih h']
  rfl
section
variable {M:Model} {A:Around} {E:Value -> Shared -> Prop} {h:Heap} {g:Array GenState} {d:Drawn} {t:Nat} {os:OsState}
variable {nm q:Str} {C N:Addr} {bs bm:List Value} {hdct:Bool} {sn:List Str} {sub:List Value} {ab:Bool} {col:Option Bool} {dd:Option Addr} {k0 k1 k2 k3 k5:Option Value}
theorem Fs (T:Aw bm=true) {rest:List Value} {Q:Unit -> Shared -> Prop} (hC:h.get? C=some (excClassObj nm q C N bs bm hdct sn sub ab col dd k0 k1 k2 k3 k5 "ValueError.__new__"))
  (hq:Q () ⟨h,g,d,t,os⟩):wpAny M A (checkBuiltinCall "ValueError.__new__" ⟨.ref C :: rest,[]⟩) Q E ⟨h,g,d,t,os⟩:=by
 have F:=PySem.F.excBase_ValueError
 have hcont:(Value.ref C :: bm).contains (.type "ValueError")=true:=by rw [List.contains_cons,Bf T (show valTail.contains (.type "ValueError")=true by decide +kernel),Bool.or_true]
 have hstar:=F.noStar
 simp only [checkBuiltinCall,F.newKind,F.newSplit,F.newRow]
 repeat (first | refine wpAny_loadPart_at hC ?_ | (refine wpAny_isSubtype_exc hC ?_;rw [hcont]) | refine wpAny_staticBase_exc hC ?_ | refine wpAny_madeBy_exc hC ?_ | simp only [bne_self_eq_false,Bool.false_eq_true,if_false] | wp_step)
 exact hq
end
section
variable {prog:Program} {w:World} {A:Around} {R:Result -> Shared -> Prop} {h:Heap} {g:Array GenState} {d:Drawn} {t:Nat} {os:OsState}
variable {nm q:Str} {C N:Addr} {bs bm:List Value} {hdct:Bool} {sn:List Str} {sub:List Value} {ab:Bool} {col:Option Bool} {dd:Option Addr} {k0 k1 k2 k3 k5:Option Value}
theorem Fa (T:Aw bm=true) {rest:List Value} (hC:h.get? C=some (excClassObj nm q C N bs bm hdct sn sub ab col dd k0 k1 k2 k3 k5 "ValueError.__new__"))
  (hq:R (.ok (.ret (.ref (h.objs.size + 1)))) ⟨(h.push { cls:=.type "tuple", data:=.seq rest.toArray }).push
   {cls:=.ref C,data:=.fields #[.ref h.objs.size,.none,.none,.none,.bool false,.none] },g,d,t,os⟩) (hrest:rest.length <= sizeLine) :
  codeAny (model prog w) A (.builtin "ValueError.__new__" ⟨.ref C :: rest,[]⟩) R ⟨h,g,d,t,os⟩:=by
 have F:=PySem.F.excBase_ValueError
 have hends:=F.ends
 have hcB:(Value.ref C :: bm).contains (.type "ValueError")=true:=by rw [List.contains_cons,Bf T (show valTail.contains (.type "ValueError")=true by decide +kernel),Bool.or_true]
 have hcA:(Value.ref C :: bm).contains (.type "AttributeError")=false:=by rw [List.contains_cons,Bf T (show valTail.contains (.type "AttributeError")=false by decide +kernel)];rfl
 have hcN:(Value.ref C :: bm).contains (.type "NameError")=false:=by rw [List.contains_cons,Bf T (show valTail.contains (.type "NameError")=false by decide +kernel)];rfl
 refine codeAny_builtinAt F.entry ?_
 unfold Builtin.«BaseException.__new__»
 refine wpAt_bind ?_
 show wpAt _ _ _ (stack >>= _) _ _ _
 refine wpAt_bind (wpAt_stack fun p below=>wpAt_of_wpAny ?_)
 wp_walk
 refine wpAt_of_wpAny ?_
 rw [F.owner]
 repeat (first | with_reducible refine wpAny_madeHere_exc F.canon hC ?_ | with_reducible refine wpAny_loadPart_at hC ?_ | (with_reducible refine wpAny_isSubtype_exc hC ?_;first | rw [hcB] | rw [hcA] | rw [hcN]) | wp_step)
 show R _ _
 rw [Heap.size_push]
 exact hq
end
end L2
namespace L2
open PySem PySem.Spec PySem.W Builtin Builtin.ObjectAttr
open Sem (wp)
section
variable {prog:Program} {w:World} {A:Around} {E:Value -> Shared -> Prop} {h:Heap} {g:Array GenState} {d:Drawn} {t:Nat} {os:OsState}
variable {nm q:Str} {C N f:Addr} {bs bm:List Value} {hdct:Bool} {sn:List Str} {sub:List Value} {ab:Bool} {col:Option Bool} {dd:Option Addr} {k0 k1 k2 k3 k5:Option Value}
abbrev Hg (h:Heap) (C:Addr) (rest:List Value):Heap:=(h.push { cls:=.type "tuple", data:=.seq rest.toArray }).push { cls:=.ref C,data:=.fields #[.ref h.objs.size,.none,.none,.none,.bool false,.none] }
theorem E2 (T:Aw bm=true) {rest:List Value} {Q:Fin -> Shared -> Prop}
  (hC:h.get? C=some (excClassObj nm q C N bs bm hdct sn sub ab col dd k0 k1 k2 k3 k5 "ValueError.__new__"))
  (hi:Looks (model prog w) h (typeLookup (.ref C) "__init__") (some (.builtin "ValueError.__init__")))
  (hq:∀ h' e,Heap.MadeExcOf h h' e (.ref C) rest -> e=h.objs.size + 1 -> Q (.done (.ret (.ref e))) ⟨h',g,d,t,os⟩) (hrest:rest.length <= sizeLine) :
  wpAny (model prog w) A (Builtin.«type.__call__» ⟨.ref C :: rest,[]⟩) Q E ⟨h,g,d,t,os⟩:=by
 have F:=PySem.F.excBase_ValueError
 repeat (first | with_reducible refine wpAny_loadPart_at hC ?_ | with_reducible refine wpAny_madeBy_exc hC ?_ | wp_step)
 refine codeAny_call_builtin_code (Code.quiet_builtin _ F.quiet) (Fs T hC ?_)
 refine Fa T hC ?_ hrest
 show wpAny _ _ _ _ _ _
 have kp:∀ b o,h.get? b=some o -> (Hg h C rest).get? b=some o:=fun b o e=>Heap.get?_push_of_some _ (Heap.get?_push_of_some _ e)
 have hC₁:=kp _ _ hC
 have hget:(Hg h C rest).get? (h.objs.size + 1)=some { cls:=.ref C,data:=.fields #[.ref h.objs.size,.none,.none,.none,.bool false,.none] }:=by heap_get
 have hcC:(Value.ref C :: bm).contains (.ref C)=true:=by simp
 have hcB:(Value.ref C :: bm).contains (.type "ValueError")=true:=by rw [List.contains_cons,Bf T (show valTail.contains (.type "ValueError")=true by decide +kernel),Bool.or_true]
 unfold isInstance
 repeat (first | with_reducible refine wpAny_loadPart_at hget ?_ | (with_reducible refine wpAny_isSubtype_exc hC₁ ?_;rw [hcC]) | wp_step)
 show wpAny _ _ (typeLookup (.ref C) _) _ _ _
 refine (hi.keeps kp).at ?_
 refine wpAny_holding (wpAny_bind (wpAny_of_eq (F.init.bind _) ?_))
 have chk:∀ {Q':Unit -> Shared -> Prop} {E':Value -> Shared -> Prop} {A':Around},Q' () ⟨Hg h C rest,g,d,t,os⟩ -> wpAny (model prog w) A' (checkBuiltinCall "ValueError.__init__" ⟨.ref (h.objs.size + 1) :: rest,[]⟩) Q' E' ⟨Hg h C rest,g,d,t,os⟩:=fun {Q' E' A'} hq'=>by
  have hshort:=F.noStar
  simp only [checkBuiltinCall,F.initKind,F.initSplit,F.initRow]
  repeat (first | with_reducible refine wpAny_loadPart_at hget ?_ | with_reducible refine wpAny_loadPart_at hC₁ ?_ | (with_reducible refine wpAny_isSubtype_exc hC₁ ?_;rw [hcB]) | wp_step)
  refine wpAny_onRaise ?_
  rw [show ∀ (a b:String) (n:Nat),Bind.check ⟨.positional, "*", "ValueError", .self,[⟨"args", .varPos,false⟩]⟩ a b n (List.map (fun x=>x.fst) ({ pos:=Value.ref (h.objs.size + 1) :: rest }:Args).kw)=pure () from
   fun a b n=>check_star_args _ _ _ _ _ _]
  exact wpAny_pure hq'
 refine wpAny_bind (wpAny_call (codeAny_call_builtin F.init.plain F.initEntry (chk ?_)))
 wp_walk
 refine hq _ _ ⟨fun b o hb=>?_,Heap.get?_none_of_le (Nat.le_succ _),h.objs.size + 2,?_,Heap.get?_none_of_le (by omega),?_⟩ rfl
 ·rw [Heap.get?_update_other _ _ (Nat.ne_of_gt (Nat.lt_succ_of_lt (Heap.lt_size hb)))]
  exact Heap.get?_push_of_some _ (Heap.get?_push_of_some _ (Heap.get?_push_of_some _ hb))
 ·rw [Heap.get?_update_self _ (Heap.get?_push_of_some _ hget) rfl]
  simp only [Heap.size_push]
  rfl
 ·rw [Heap.get?_update_other _ _ (show h.objs.size + 1 ≠ h.objs.size + 2 by omega)]
  exact Heap.get?_push_at (by simp only [Heap.size_push]) rfl
theorem Ub (T:Aw bm=true) {rest:List Value} {R:Result -> Shared -> Prop}
  (hC:h.get? C=some (excClassObj nm q C N bs bm hdct sn sub ab col dd k0 k1 k2 k3 k5 "ValueError.__new__"))
  (hi:Looks (model prog w) h (typeLookup (.ref C) "__init__") (some (.builtin "ValueError.__init__")))
  (hq:∀ h' e,Heap.MadeExcOf h h' e (.ref C) rest -> e=h.objs.size + 1 -> R (.ok (.ret (.ref e))) ⟨h',g,d,t,os⟩) (hrest:rest.length <= sizeLine) :
  codeAny (model prog w) A (.call (.ref C) ⟨rest,[]⟩) R ⟨h,g,d,t,os⟩:=by
 have f1:=tc_lookup
 have f2:=tc_bind (.ref C)
 have hT:(⟨h,g,d,t,os⟩:Shared).TypeIs (.ref C) "type" := ⟨_,hC,rfl⟩
 refine codeAny_of_tree ?_
 show wpAny _ _ (callAny (.ref C) _) _ _ _
 repeat (any_goals (first | assumption | with_reducible refine wpAny_loadPart_at hC ?_ | wp_step))
 refine ⟨rfl,?_⟩
 exact codeAny_call_builtin_at (Code.quiet_builtin _ (by decide +kernel)) entry_typeCall (wpAny_check_type_call_sub hC (E2 T hC hi hq hrest))
end
end L2
namespace L2
open PySem PySem.Spec PySem.W PyProof.Rows
theorem ECls.cls {K:PySem.W.Frag} {C:Addr} (c:ECls K C):∃ cd,clsIn K C=some cd /\ Aw cd.mro=true /\ cd.hasDict=true:=by
 obtain ⟨nm,q,N,bs,bm,hdct,sn,sub,ab,col,dd,k0,k1,k2,k3,k5,hl,ht,hd⟩:=c.obj
 refine ⟨_,by unfold clsIn;rw [hl],?_,hd⟩
 obtain ⟨rs,e⟩:=Df ht
 show Aw (Value.ref C :: bm)=true
 rw [e]
 clear e
 show Aw (List.map Value.ref (C :: rs) ++ valTail)=true
 have:∀ l:List Addr,Aw (List.map Value.ref l ++ valTail)=true:=fun l=>by
  induction l with
  | nil=>decide +kernel
  | cons a r ih=>cases r <;> exact ih
 exact this _
theorem ECls.sub {K:PySem.W.Frag} {C:Addr} (c:ECls K C) {T:String} (h:valTail.contains (.type T)=true):mroIn K C (.type T)=some true:=by
 obtain ⟨cd,h1,h2,_⟩:=c.cls
 obtain ⟨rs,e⟩:=Df h2
 unfold mroIn
 rw [h1,Option.bind_some,e,Yp rs h,if_neg]
 cases rs <;> exact Bool.false_ne_true
section
variable {prog:Program} {w:World} {A:Around} {E:Value -> Shared -> Prop} {s:Shared} {K:PySem.W.Frag} {x C:Addr} {ox:Obj} {od:Option Obj} {name:Str}
theorem Wl {g a v:Value} {Q:Option Value -> Shared -> Prop} (X:K.In s.heap) (I:PySem.W.InstAt s.heap x ox C od) (hga:PySem.W.findIn K (.ref C) "__getattribute__" = some (some (.builtin "BaseException.__getattribute__"))) (hgt:PySem.W.findIn K (.ref C) "__getattr__" = some none)
  (hB:PySem.W.mroIn K C (.type "BaseException")=some true) (hf:PySem.W.findObj K C od name=some (.bind g a)) (hh:PySem.W.handedIn v=true)
  (h:∀ {A':Around} {R:Result -> Shared -> Prop},R (.ok (.ret v)) { s with toks:=s.toks + 1 } -> codeAny (model prog w) A' (.call g ⟨[a,.ref x,.ref C],[]⟩) R { s with toks:=s.toks + 1 }) (hq:Q (some v) { s with toks:=s.toks + 1 }) :
  wpAny (model prog w) A (getAttr? (.ref x) name) Q E s:=by
 obtain ⟨hp,gg,d,t,os⟩:=s
 have L0:=I.type (M:=model prog w)
 have L1:=PySem.W.looks_findIn (M:=model prog w) X hga
 have L2:=PySem.W.looks_findIn (M:=model prog w) X hgt
 have L3:=PySem.W.looks_find (M:=model prog w) X I hf
 have L4:=PySem.W.looks_mroIn (M:=model prog w) X hB
 unfold getAttr? getAttrBy? getAttrBy
 refine wpAny_bind (wpAny_mkText (wpAny_bind (wpAny_attempt (wpAny_holding (wpAny_bind (L0.at (wpAny_bind (L1.at ?_))))))))
 have hx2:(Value.builtin "BaseException.__getattribute__" == Value.builtin "object.__getattribute__")=false:=by decide +kernel
 have hx1:(onTheHeap (Value.ref C) && Value.builtin "BaseException.__getattribute__" == Value.builtin "object.__getattribute__")=false:=by rw [hx2];rfl
 dsimp only
 rw [hx1,if_neg Bool.false_ne_true]
 unfold getAttrByItsOwn
 refine wpAny_bind (show wpAny _ _ (typeLookup (.ref C) "__getattr__") _ _ _ from L2.at ?_)
 refine wpAny_bind (wpAny_attempt (wpAny_holding ?_))
 have hx0:(false && onTheHeap (Value.builtin "BaseException.__getattribute__"))=false:=rfl
 unfold callGetattribute
 rw [hx0,if_neg Bool.false_ne_true]
 unfold boundAndCalled
 rw [V0]
 refine wpAny_bind (wpAny_pure ?_)
 refine wpAny_call (codeAny_call_builtin (by decide +kernel) F.entry_bexc_ga (check_slot (i := "BaseException.__getattribute__") (owner := "BaseException") (n := "__getattribute__") (by decide +kernel) (by decide +kernel) (L0.andThen L4) (F.args_bexc_ga _ _) ?_))
 unfold Builtin.«object.__getattribute__»
 refine wpAny_bind (wpAny_pure (wpAny_bind (wpAny_pure (wpAny_bind (L0.at (wpAny_bind (L3.at ?_)))))))
 refine wpAny_bind (wpAny_holding (wpAny_call (h ?_)))
 refine wpAny_pure ?_
 show wpAny _ _ (handedOut v) _ _ _
 rw [PySem.W.handedOut_of hh]
 exact wpAny_pure (wpAny_pure hq)
theorem J8 {a g:Value} (hc:(clsIn K C).isSome=true) (ha:findIn K (.ref C) name=some (some a)) (hg:specialIn K a "__get__" = some (some g)) (ht:takesIn K a=some true):findObj K C od name=some (.bind g a):=by
 obtain ⟨cd,hc⟩:=Option.isSome_iff_exists.mp hc
 unfold findObj
 rw [hc,Option.bind_some,ha,Option.bind_some]
 simp [hg,ht]
theorem Tn {Q:Option Value -> Shared -> Prop} (c:ECls K C) (X:K.In s.heap) (I:InstAt s.heap x ox C od) (h:Q (some (.ref C)) { s with toks:=s.toks + 1 }):wpAny (model prog w) A (getAttr? (.ref x) "__class__") Q E s:=by
 have hf:findObj K C od "__class__" = some (.bind (.builtin "getset_descriptor.__get__") (.builtin "object.__class__")):=J8 (by obtain ⟨cd,hc,_⟩:=c.cls;rw [hc];rfl) c.ca c.hn c.htk
 exact Wl (v:=.ref C) X I c.ga c.gt (c.sub (by decide +kernel)) hf rfl (fun q=>class_get (s:={ s with toks:=s.toks + 1 }) (ox:=ox) (od:=od) X I (c.sub (by decide +kernel)) q) h
end
theorem Ws {K:PySem.W.Frag} {x D:Addr} (c:ECls K D):KitX K (.ref x) (.ref D) (fun h=>∃ ox od,InstAt h x ox D od) where
 ty:=fun _ _ _ ⟨_,_,I⟩=>I.type
 it:=fun _ _ X _=>by
  obtain ⟨cdD,hcD,_⟩:=c.cls
  unfold clsIn at hcD
  split at hcD
  ·rename_i c' d' cd' sl' ho
   intro A' Q' E' s' k q
   unfold isType loadHead
   exact wpAny_bind (wpAny_loadPart (k _ _ (X _ _ ho)) (wpAny_pure q))
  ·cases hcD
 ne:=fun h tp dd its n sl X htp=>by
  obtain ⟨cdD,hcD,_⟩:=c.cls
  refine Bool.eq_false_iff.mpr fun q=>?_
  have e:D=tp:=Value.ref.inj (beq_iff_eq.mp q)
  subst e
  unfold clsIn at hcD
  split at hcD
  ·rename_i c' d' cd' sl' ho
   have z:=(X _ _ ho).symm.trans htp
   cases z
  ·cases hcD
 ca:=fun X ⟨_,_,I⟩ k=>Tn c X I k
def ExcAt (H:Hp) (a C:Addr) (fs:List (Str × V)):Prop:=(fs=[] /\ (H a=some (excO a C none) \/ H a=some (flO a C none))) \/ ∃ dx,dx ≠ a /\ (H a=some (excO a C (some dx)) \/ H a=some (flO a C (some dx))) /\ H dx=some (xdO dx fs)
inductive TyX (K:PySem.W.Frag) (H:Hp) (x:V) (t:Value):Prop where
 | of (h:TyOf K H x t)
 | exc {a C:Addr} {fs:List (Str × V)} (ex:x = .ref a) (e:ExcAt H a C fs) (c:ECls K C) (et:t = .ref C)
 | sqT {a:Addr} {xs:List V} (ex:x = .ref a) (e:SqT K H a xs) (et:t = .type "tuple")
 | sqL {a:Addr} {xs:List V} (ex:x = .ref a) (e:SqL K H a xs) (et:t = .type "list")
section
variable {X:Cx} {pins:List (Addr × Obj)} {σ:St} {H:Hp} {s:Shared} {A:Around} {E:Value -> Shared -> Prop} {a C:Addr} {fs:List (Str × V)}
theorem Wf {dx:Option Addr} (I:Inv X pins σ H s) (e:H a=some (excO a C dx)):∃ vs:Array Value,s.heap.get? a=some (Ar C dx vs) /\ vs.size=6 /\ vs[1]? = some .none:=(I.hok a _ e).1
theorem ay6 {dx:Option Addr} (I:Inv X pins σ H s) (e:H a=some (flO a C dx)):∃ vs:Array Value,s.heap.get? a=some (Ar C dx vs) /\ vs.size=6:=(I.hok a _ e).1
theorem ad5 {dx:Option Addr} (I:Inv X pins σ H s) (e:H a=some (excO a C dx) \/ H a=some (flO a C dx)):∃ vs:Array Value,s.heap.get? a=some (Ar C dx vs) /\ vs.size=6:=by
 rcases e with e | e
 ·obtain ⟨vs,h1,h2,_⟩:=Wf I e;exact ⟨vs,h1,h2⟩
 ·exact ay6 I e
theorem be4 {dx:Addr} (I:Inv X pins σ H s) (e:H dx=some (xdO dx fs)):fs.length <= 1000 /\ ∃ mA,s.heap.Ns1 dx mA /\ (∀ f,RelO (fs.lookup f) (mA f)) /\ PySem.Within mA (fs.map (·.1)):=(I.hok dx _ e).1
theorem ExcAt.inst (I:Inv X pins σ H s) (e:ExcAt H a C fs):∃ vs dx od,InstAt s.heap a (Ar C dx vs) C od /\ (∀ o,od=some o -> ∀ name,∃ v,lookIn name o=some v /\ RelO (fs.lookup name) v) /\ (od=none -> fs=[]):=by
 rcases e with ⟨rfl,e⟩ | ⟨dx,ne,e,ed⟩
 ·obtain ⟨vs,h1,_⟩:=ad5 I e
  exact ⟨vs,none,none,⟨h1,rfl,rfl,True.intro⟩,fun o z=>(nomatch z),fun _=>rfl⟩
 ·obtain ⟨vs,h1,_⟩:=ad5 I e
  obtain ⟨_,mA,hn,hr,_⟩:=be4 I ed
  obtain ⟨od,ho,hl⟩:=K4 hn
  refine ⟨vs,some dx,some od,⟨h1,rfl,rfl,ho⟩,fun o z name=>?_,fun z=>nomatch z⟩
  cases z
  exact ⟨_,hl name,hr name⟩
theorem Ig {Q:Value -> Shared -> Prop} {c:Value} {b:Bool} {x:V} {u t:Value} (I:Inv X pins σ H s) (rx:RelV x u) (ty:TyX X.K H x t) (e:PySem.W.kitOne X.K t c=some b) (h:∀ tk,Q (.bool b) { s with toks:=tk }) :
  wpAny (model X.prog X.w) A (call (.builtin "isinstance") [u,c]) Q E s:=by
 cases ty with
 | of ty=>exact K0 I rx ty e h
 | @exc a C fs ex ea cl et=>
  subst ex et
  cases (show u=Value.ref a from rx)
  obtain ⟨vs,dx,od,J,_⟩:=ea.inst I
  exact PySem.W.kia_one (Ws cl) I.kIn ⟨_,_,J⟩ e (fun z=>nomatch z) h
 | @sqT a xs ex q et=>
  subst ex et
  cases (show u=Value.ref a from rx)
  obtain ⟨_,_,⟨o,h1,h2,_⟩,_⟩:=I.tuple q
  exact PySem.W.kia_one PySem.W.kitx_tuple I.kIn ⟨o,h1,h2⟩ e (fun z=>nomatch z) h
 | @sqL a xs ex q et=>
  subst ex et
  cases (show u=Value.ref a from rx)
  obtain ⟨_,_,⟨o,_,h1,h2,_⟩,_⟩:=I.list q
  exact PySem.W.kia_one PySem.W.kitx_list I.kIn ⟨o,h1,h2⟩ e (fun z=>nomatch z) h
theorem Ze {P:Program} {w:World} {H:Hp} {h:Heap} {dx:Option Addr} {vs:Array Value} (h1:h.get? a=some (Ar C dx vs)) (h2:vs.size=6) (h3:vs[1]? = some .none):ObjOk P w H h a (excO a C dx):=
 ⟨⟨vs,h1,h2,h3⟩,⟨_,h1⟩,fun _ _ ⟨vs',q1,q2⟩ k=>⟨vs',k _ q1,q2⟩⟩
theorem Wh {P:Program} {w:World} {H:Hp} {h:Heap} {dx:Option Addr} {vs:Array Value} (h1:h.get? a=some (Ar C dx vs)) (h2:vs.size=6):ObjOk P w H h a (flO a C dx):=
 ⟨⟨vs,h1,h2⟩,⟨_,h1⟩,fun _ _ ⟨vs',q1,q2⟩ k=>⟨vs',k _ q1,q2⟩⟩
variable {CX:CXT} {k:Nat} {f:Addr} {fd:FuncData} {ps:List Str} {sp:Sp} {dvs:List V} {ds us:List Value} {vs:List V} {Q:VK}
theorem Qe (c:ECls X.K C) (hi:findIn X.K (.ref C) "__init__" = some (some (.builtin "ValueError.__init__"))) (I:Inv X pins σ H s) (r:Vals vs us) (hl:vs.length <= 1000) (h:∀ a,H a=none -> Q (.ref a) (upd H a (excO a C none))) :
  wpAny (model X.prog X.w) X.A (call (.ref C) us) (EP X pins σ Q) X.xe s:=by
 obtain ⟨nm,q,N,bs,bm,hdct,sn,sub,ab,col,dd,k0,k1,k2,k3,k5,hC,ht,_⟩:=c.obj
 obtain ⟨hh,g,d,t,os⟩:=s
 refine wpAny_call (Ub ht (I.kIn _ _ hC) (looks_findIn I.kIn hi) (fun h' e M ee=>?_) (by rw [<- r.length,sizeLine_eq];omega))
 subst ee
 obtain ⟨kp,_,t0,q1,_,_⟩:=M
 refine ⟨.ref (hh.objs.size + 1),upd H (hh.objs.size + 1) (excO (hh.objs.size + 1) C none),?_,rfl,h _ (I.hok.fresh (Nat.le_succ _))⟩
 exact I.laid (t':=t) kp (Nat.le_succ _) (Ze q1 rfl rfl)
end
end L2
namespace L2
open PySem PySem.Spec PyProof.Rows
def Ite (K:PySem.W.Frag) (l:Addr):It:=
  ⟨fun i H=>∃ xs x,SqL K H l xs /\ xs[i]? = some x,
   fun i H v H'=>∃ T x,H T=none /\ v = .ref T /\ (∀ xs,SqL K H l xs -> xs[i]? = some x) /\ H' = upd H T (.tup [.int i,x]),
   fun i H=>∃ xs,SqL K H l xs /\ xs.length <= i⟩
theorem U9 {P:Program} {w:World} {K:PySem.W.Frag} {elts:List Expr} {kt:Nat} {pt:Pos} {e it l:Addr} (ne:e ≠ it) :
  Turn P w K (.Tuple elts kt pt) (Ite K l) [e,it] e (fun i h=>(∃ old,IsEnum h e it (i:Int) old) /\ h.IsListIter it l i) where
 mem:=by simp
 obj:=fun i h st b hb=>by
  obtain ⟨⟨old,he⟩,⟨o1,e1,c1,d1⟩⟩:=st
  have hb:b=e \/ b=it:=by simpa using hb
  rcases hb with rfl | rfl
  ·exact ⟨_,he,fun v q=>nomatch q⟩
  ·exact ⟨o1,e1,fun v q=>by rw [d1] at q;cases q⟩
 keep:=fun i h h' st k=>by
  obtain ⟨⟨old,he⟩,h1⟩:=st
  exact ⟨⟨old,k e (by simp) _ he⟩,h1.at fun o q=>k it (by simp) o q⟩
 item:=by
  intro X hP hw hK hc i pins s σ H E I hf st hg
  subst hP hw hK
  obtain ⟨xs,x,q1,hx⟩:=hg
  obtain ⟨its1,r1,p1,z1⟩:=I.list q1
  obtain ⟨u,hu,ru⟩:=r1.get hx
  obtain ⟨⟨old,he⟩,h1⟩:=st
  refine wpAny_pyNext_enum_item he h1 p1.isList (x:=u) (by simpa using hu) ne fun h' a1 a2 a3 a4 hk=>?_
  refine ⟨_,rfl,wpAny_letOwnedTupleGo_enum a1 fun h'' hz' hs'=>?_⟩
  have hT:=I.hok.fresh (Nat.le_refl s.heap.objs.size)
  have up':∀ b o,b ∉ [e,it] -> s.heap.get? b=some o -> h''.get? b=some o:=fun b o hb q=>by
   have b1:b ≠ e:=by rintro rfl;exact hb (by simp)
   have b2:b ≠ it:=by rintro rfl;exact hb (by simp)
   exact hs'.extBut b o b1 (hk b o b1 b2 q)
  have nT:∀ {b o},s.heap.get? b=some o -> b ≠ s.heap.objs.size:=fun q=>Nat.ne_of_lt (Heap.lt_size q)
  have Tnew:h''.get? s.heap.objs.size=some { cls:=.type "tuple", data:=.seq #[.int i s.toks,u] }:=hs'.extBut _ _ (Ne.symm (nT he)) a3
  have I1:Inv X pins σ (upd H s.heap.objs.size (.tup [.int i,x])) { s with heap:=h'',toks:=s.toks + 1 }:=
   I.turnedN (t':=s.toks + 1) (ch:=[e,it]) (fun b hb=>hf b hb) up' (Nat.le_refl _) ⟨by show 2 <= sizeLine;decide,[.int i s.toks,u],.cons ⟨_,rfl⟩ (.cons ru .nil),⟨_,Tnew,rfl,_,rfl⟩⟩
  refine ⟨.ref s.heap.objs.size,_,I1,rfl,⟨s.heap.objs.size,x,hT,rfl,fun xs' h'=>by rw [I.list_inj h' q1];exact hx,rfl⟩,⟨⟨_,hz'⟩,a2.at fun o q=>hs'.extBut _ o (Ne.symm ne) q⟩,fun b hb=>?_⟩
  have q:=(hf b hb).1
  rw [Ad ?_]
  ·exact q
  ·have hb:b=e \/ b=it:=by simpa using hb
   rcases hb with rfl | rfl
   ·exact nT he
   ·obtain ⟨_,q,_⟩:=h1;exact nT q
 done:=by
  intro X hP hw hK hc i pins s σ H E I hf st hg
  subst hP hw hK
  obtain ⟨xs,q1,hx⟩:=hg
  obtain ⟨its1,r1,p1,z1⟩:=I.list q1
  have e1:=r1.length
  obtain ⟨⟨old,he⟩,h1⟩:=st
  refine wpAny_pyNext_enum_end (I.ok.hd hc) he h1 p1.isList (by simp;omega) fun h' hk=>⟨rfl,?_⟩
  refine I.turnedL (t':=s.toks) (ch:=[e,it]) (fun b hb=>hf b hb) fun b o hb q=>?_
  have b2:b ≠ it:=by rintro rfl;exact hb (by simp)
  exact hk b o b2 q
 self:=fun A i s Q E st h=>let ⟨_,he⟩:=st.1;wpAny_pyIter_enum he h
section
variable {X:Cx} {pins:List (Addr × Obj)} {σ σ0:St} {H H0:Hp} {s s0:Shared} {p:Addr} {kvs:List (Key × V)} {o:Obj}
def EpOf (o:Obj) (ep:Nat):Prop:=∃ es,o.data = .dict es ep
theorem Inv.froze (I:Inv X pins σ H s) (h:H p=some (.dK kvs)):∃ ob ep,s.heap.get? p=some ob /\ EpOf ob ep /\ Inv X pins σ (upd H p (.frz ob (.dK kvs))) s:=by
 have K:=I.hok p _ h
 obtain ⟨z,y,vs,r,ob,es,ep,e,c,d,q⟩:=id K
 refine ⟨ob,ep,e,⟨es,d⟩,?_⟩
 exact I.write (x:=p) (e:=p) (t':=s.toks) (h':=s.heap) (by rw [h];trivial) (.inl rfl) (fun b u _ q=>q) ⟨ob,e⟩ ⟨e,K⟩
theorem Inv.thaw (I0:Inv X pins σ0 H0 s0) (h0:H0 p=some (.dK kvs)) (I:Inv X pins σ H s) (h:H p=some (.frz o (.dK kvs))):Inv X pins σ (upd H p (.dK kvs)) s:=by
 have ne:∀ b,H b=none -> b ≠ p:=fun b e z=>by rw [z,h] at e;cases e
 have ntup:∀ b xs,H b=some (.tup xs) -> b ≠ p:=fun b xs e z=>by rw [z,h] at e;cases e
 have nown:∀ b c,H b=some (.own c) -> b ≠ p:=fun b c e z=>by rw [z,h] at e;cases e
 refine ⟨I.ok,I.os,I.bare,⟨I.base.keep,I.base.slot,fun b ob e n hx=>?_,I.base.there,fun b xs e=>?_,fun b ob u e=>?_,fun b ps e=>?_⟩,I.loc,I.cell,?_,fun x c e=>?_,fun q hq=>?_,fun b u e=>?_,I.len⟩
 ·have q:=I.base.free b ob e n hx
  rw [Ad (ne b q)];exact q
 ·have q:=I.base.tups b xs e
  rw [Ad (ntup b xs q)];exact q
 ·have q:=I.base.frzs b ob u e
  have n:b ≠ p:=fun z=>by
   have q0:=I0.base.frzs b ob u e
   rw [z,h0] at q0;cases q0
  rw [Ad n];exact q
 ·obtain ⟨more,q⟩:=I.base.tbls b ps e
  have n:b ≠ p:=fun z=>by rw [z,h] at q;cases q
  exact ⟨more,by rw [Ad n];exact q⟩
 ·rw [Ad (ne _ I.free)];exact I.free
 ·have q:=I.freeC x c e
  rw [Ad (ne _ q)];exact q
 ·obtain ⟨a,b,c⟩:=I.pin q hq
  exact ⟨a,by rw [Ad (ne _ b)];exact b,c⟩
 ·by_cases z:b=p
  ·subst z
   rw [Ac] at e
   cases e
   exact (I.hok b _ h).2
  ·rw [Ad z] at e
   exact (I.hok b u e).stay (fun _ _ _ q=>q) (fun c q=>by rw [Ad (nown c b q)];exact q) fun c xs q=>by rw [Ad (ntup c xs q)];exact q
theorem Thaw.inv {P:Hp -> Prop} (I0:Inv X pins σ0 H0 s0) (I:Inv X pins σ H s) (t:Thaw H0 H P):∃ H',Inv X pins σ H' s /\ P H':=by
 rcases t with t | ⟨p,o,kvs,h0,h,t⟩
 ·exact ⟨H,I,t⟩
 ·exact ⟨_,I0.thaw h0 I h,t⟩
theorem Inv.kdict (I:Inv X pins σ H s) (h:H p=some (.frz o (.dK kvs))) {ep:Nat} (he:EpOf o ep):∃ vs,KV kvs vs /\ s.heap.DictAt (Ao X.prog X.w) p vs ep /\ (p == sysModules)=false:=by
 obtain ⟨e1,z,y,vs,r,ob,es,ep',e,c,d,q⟩:=I.hok p _ h
 obtain ⟨es',d'⟩:=he
 rw [e1] at e
 cases e
 have d2:=d
 rw [d'] at d2
 cases d2
 exact ⟨vs,r,⟨o,_,e1,c,d,q⟩,y⟩
end
def Itd (p:Addr) (o:Obj) (kvs:List (Key × V)):It:=
 ⟨fun i H=>H p=some (.frz o (.dK kvs)) /\ i < kvs.length,fun i H x H'=>H' = H /\ ∃ k v,kvs[i]? = some (k,v) /\ x=kV k,fun i H=>H p=some (.frz o (.dK kvs)) /\ kvs.length <= i⟩
theorem Wt:∀ {kvs:List (Key × V)} {vs:List (Key × Value)} {i:Nat} {k:Key} {v:V},KV kvs vs -> kvs[i]? = some (k,v) -> ∃ u,vs[i]? = some (k,u) /\ RelV v u
 | _,_,0,k,v,.cons (b:=q) r _,e=>by
  simp only [List.getElem?_cons_zero,Option.some.injEq] at e
  subst e
  exact ⟨q.2,congrArg some (Prod.ext r.1.symm rfl),r.2⟩
 | _,_,i + 1,k,v,.cons r t,e=>by
  simp only [List.getElem?_cons_succ] at e ⊢
  exact Wt t e
theorem af4 {P:Program} {w:World} {k:Key} {u:Value} (h:(Ao P w).is k u=true):RelV (kV k) u:=by
 cases k with
 | inl i=>obtain ⟨t,rfl⟩:=Value.isInt_shape (show Value.isInt i u=true from h);exact ⟨t,rfl⟩
 | inr z=>obtain ⟨t,rfl⟩:=Value.isStrOf_shape (show Value.isStrOf z u=true from h);exact ⟨t,rfl⟩
theorem U7 {P:Program} {w:World} {K:PySem.W.Frag} {tg:Expr} (p it:Addr) (o:Obj) (kvs:List (Key × V)) {ep:Nat} (he:EpOf o ep):Turn P w K tg (Itd p o kvs) [it] it (fun i h=>h.IsKeyIter it p i kvs.length ep) where
 mem:=by simp
 obj:=fun i h st b hb=>by
  have e:b=it:=by simpa using hb
  subst e
  obtain ⟨o,e,c,d⟩:=st
  exact ⟨o,e,fun v z=>by rw [d] at z;cases z⟩
 keep:=fun i h h' st k=>st.at fun o e=>k it (by simp) o e
 item:=by
  intro X hP hw hK hc i pins s σ H E I hf st hg
  subst hP hw hK
  obtain ⟨hH,hi⟩:=hg
  obtain ⟨vs,rel,hd,hm⟩:=I.kdict hH he
  obtain ⟨f0,f1,f2,f3,f4,f5⟩:=hf it (by simp)
  obtain ⟨⟨k,v⟩,hx⟩:∃ q,kvs[i]? = some q:=⟨kvs[i],by simp [hi]⟩
  obtain ⟨u,hu,_⟩:=Wt rel hx
  have hl:kvs.length=vs.length:=rel.length
  rw [hl] at st
  refine wpAny_pyNext_dict_item st hd hu fun key h' hk st' sb=>?_
  have I1:Inv X pins σ H { s with heap:=h' }:=I.turned (t':=s.toks) (fun b o hb e=>sb.extBut b o hb e) f0 f1 f3 f4 f5
  obtain ⟨o1,e,c,d⟩:=id st'
  exact ⟨key,rfl,Kv (s:={ s with heap:=h' }) e c d (by decide) ⟨kV k,H,I1,af4 hk,⟨rfl,k,v,hx,rfl⟩,by rw [hl];exact st',fun b hb=>(hf b hb).1⟩⟩
 done:=by
  intro X hP hw hK hc i pins s σ H E I hf st hg
  subst hP hw hK
  obtain ⟨hH,hi⟩:=hg
  obtain ⟨vs,rel,hd,hm⟩:=I.kdict hH he
  obtain ⟨f0,f1,f2,f3,f4,f5⟩:=hf it (by simp)
  have hl:kvs.length=vs.length:=rel.length
  rw [hl] at st
  exact wpAny_pyNext_dict_end (I.ok.hd hc) st hd (by simp;omega) fun h' eb=>⟨rfl,I.turned (t':=s.toks) (fun b o hb e=>eb b o hb e) f0 f1 f3 f4 f5⟩
 self:=fun _ _ _ _ _ st h=>wpAny_pyIter_keyiter st h
theorem Za {X:Cx} {tg:Expr} {pins:List (Addr × Obj)} {σ:St} {H:Hp} {s:Shared} {R:It -> Hp -> Prop} {E:Value -> Shared -> Prop} {p:Addr} {o:Obj} {kvs:List (Key × V)} (I:Inv X pins σ H s) (h:H p=some (.frz o (.dK kvs)))
  (q:R (Itd p o kvs) H):wpAny (model X.prog X.w) X.A (pyIter (.ref p)) (PIE X pins σ tg R) E s:=by
 have he:∃ ep,EpOf o ep:=by
  obtain ⟨e1,z,y,vs,r,ob,es,ep,e,c,d,_⟩:=I.hok p _ h
  rw [e1] at e;cases e
  exact ⟨ep,es,d⟩
 obtain ⟨ep,he⟩:=he
 obtain ⟨vs,rel,hd,hm⟩:=I.kdict h he
 refine wpAny_pyIter_dict hm hd ?_
 refine ⟨s.heap.objs.size,[s.heap.objs.size],_,_,H,rfl,I.kept (t':=s.toks) fun b o e=>Heap.get?_push_of_some _ e,U7 p _ o kvs he,⟨_,Heap.get?_push_size _ rfl,rfl,by rw [rel.length];rfl⟩,fun b hb=>?_,q⟩
 have e:b=s.heap.objs.size:=by simpa using hb
 subst e
 exact I.fpOk (Nat.le_refl _) (I.hok.fresh (Nat.le_refl _))
end L2
namespace PySem
theorem Sem.wp_never {α:Type} (M:Model) (Γ:Ctx):∀ (t:Sem α) (p:Pos) (s:Shared),Sem.wp M Γ t (fun _ _ _=>False) (fun _ _ _=>False) p s -> False:=by
 intro t
 induction t with
 | pure a=>intro p s h;exact h
 | raise e=>intro p s h;exact h
 | unsupported w=>intro p s h;exact h
 | finish e=>intro p s h;exact h
 | rule tag k ih=>intro p s h;exact ih () p s h
 | «at» q k ih=>intro p s h;exact ih () q s h
 | load a part k ih=>intro p s h;obtain ⟨o,_,h⟩:=h;exact ih o p s h
 | update a part f k ih=>intro p s h;exact ih () p _ h.2
 | alloc o k ih=>intro p s h;exact ih _ p _ h
 | loadIfAlive a k ih=>intro p s h;exact ih _ p s h
 | point l k ih=>intro p s h;exact ih () p s h
 | register a k ih=>intro p s h;exact h
 | fresh k ih=>intro p s h;exact ih _ p _ h
 | ask k ih=>intro p s h;exact ih _ p s h
 | choose src n k ih=>intro p s h;exact ih _ p _ h.2
 | os q l k ih=>intro p s h;exact ih _ p _ h
 | call c hd g l k ih=>intro p s h;obtain ⟨r,s',_,h⟩:=h;exact ih r p s' h
 | handled own k ih=>intro p s h;exact ih _ p s h
 | newGen c k ih=>intro p s h;exact ih _ p _ h
 | genState g k ih=>intro p s h;obtain ⟨st,_,h⟩:=h;exact ih _ p s h
 | resume g r l k ih=>intro p s h;obtain ⟨res,s',_,h⟩:=h;exact ih res p s' h
 | yield v g l k ih=>intro p s h;exact h
 | stack k ih=>intro p s h;exact ih _ p s h
 | fork c k ih=>intro p s h;exact h
 | thread k ih=>intro p s h;first | exact ih _ p s h | exact h
 | await a tk d l k ih=>intro p s h;first | exact h | exact ih _ p s h
section
variable {prog:Program} {w:World} {A:Around} {E:Value -> Shared -> Prop} {s:Shared}
theorem Uk {v:Value} {P:Value -> Shared -> Prop} (h:wpAny (model prog w) A (pyNext v) (fun r s'=>∃ u,r=some u /\ P u s') (fun _ _=>False) s):wpAny (model prog w) A (Builtin.SmallTypes.nextOf v) P E s:=by
 intro Γ p hΓ
 have h:=h Γ p hΓ
 unfold pyNext Sem.attempt at h
 unfold Builtin.SmallTypes.nextOf
 rw [Sem.wp_bind',Sem.wp_tryCatch,Sem.wp_bind] at h
 rw [Sem.wp_bind']
 refine Sem.wp_mono _ _ _ (fun o p' s' q=>?_) (fun e p' s' q=>?_) p s h
 ·cases o with
  | none=>exact (show False from q).elim
  | some u=>
   obtain ⟨u',e,q⟩:=q
   cases e
   exact q
 ·refine (Sem.wp_never (model prog w) Γ (isInstance e (.type "StopIteration")) p' s' ?_).elim
  have q:Sem.wp (model prog w) Γ (isInstance e (.type "StopIteration") >>= fun b=>if b=true then pure none else throw e) (fun r _ s'=>∃ u,r=some u /\ P u s') (fun _ _ _=>False) p' s':=q
  rw [Sem.wp_bind'] at q
  refine Sem.wp_mono _ _ _ (fun b p2 s2 q=>?_) (fun _ _ _ z=>z) p' s' q
  cases b with
  | true=>obtain ⟨u,z,_⟩:=q;cases z
  | false=>exact q
variable {κ:Type} [DecidableEq κ] {knd:KeyKind prog w κ} {d it:Addr} {ep i:Nat} {kvs:List (κ × Value)}
theorem Gz {Q:Value -> Shared -> Prop} (hh:A.handled=none) (hit:s.heap.IsKeyIter it d i kvs.length ep) (hm:s.heap.DictAt knd d kvs ep) (hx:kvs[i]? = none)
  (hE:∀ h' x,Heap.ExtBut it s.heap h' -> (∃ o,h'.get? x=some o /\ o.cls = .type "StopIteration") -> E (.ref x) { s with heap:=h' }):wpAny (model prog w) A (Builtin.SmallTypes.nextOf (.ref it)) Q E s:=by
 have ⟨oi,ei,ci,di⟩:=hit
 have ⟨od,es,ed,_,dd,_,pr,_⟩:=hm
 have size:es.size=kvs.length:=pr.length ▸ (by simp)
 have past:es.size <= i:=by rw [size];simpa using hx
 have own:Builtin.Dict_items.ownsTuple "dict_keyiterator" = false:=by decide
 have nx:¬ ((i:Int) < 0):=by omega
 have noNone:¬ ((Value.ref d == Value.none)=true):=Bool.false_ne_true
 unfold Builtin.SmallTypes.nextOf
 refine wpAny_bind (wpAny_callSpecial?_slot (name:=Str.ofString "__next__") hit.typeIs F.slot_dict_keyiterator_next (wpAny_call_entry F.slot_dict_keyiterator_next hit.typeIs F.entry_dict_keyiterator_next ?_ (F.args_dict_keyiterator_next_1 _)))
 refine wpAny_bind (wpAny_pure (wpAny_bind (wpAny_bind ?_)))
 first | refine wpAny_bind (wpAny_typeNameOfWhole_keyiter hit.typeIs (wpAny_pure (wpAny_bind (wpAny_fieldsOf ei di ?_)))) | refine wpAny_bind (wpAny_typeNameOf_keyiter hit.typeIs (wpAny_pure (wpAny_bind (wpAny_fieldsOf ei di ?_))))
 simp only [own,Bool.false_eq_true,if_false]
 show wpAny _ _ (if (Value.ref d == Value.none)=true then _ else _) _ _ s
 rw [if_neg noNone]
 refine wpAny_bind (wpAny_pure (wpAny_bind (wpAny_dictEntries ed dd ?_)))
 rw [if_neg (show ¬ _ by rw [size];simp)]
 refine wpAny_bind (wpAny_pure (wpAny_bind (wpAny_dictEpoch ed dd ?_)))
 rw [if_neg (show ¬ _ by simp)]
 refine wpAny_pure ?_
 simp only [nx,if_false,Int.toNat_natCast,Array.getElem?_eq_none past]
 refine wpAny_bind ?_
 first | refine wpAny_bind (wpAny_typeNameOfWhole_keyiter hit.typeIs (wpAny_pure ?_)) | refine wpAny_bind (wpAny_typeNameOf_keyiter hit.typeIs (wpAny_pure ?_))
 show wpAny _ _ (setField (.ref it) 0 .none >>= fun _=>newExc (.type "StopIteration") [] >>= _) _ _ s
 refine wpAny_bind (wpAny_setField ei di (by simp) (wpAny_bind ?_))
 simp only [newExc,newTuple]
 refine wpAny_bind (wpAny_newObj_type (wpAny_bind (m:=firstArgMember _ _) (wpAny_of_eq (a:=Value.none) (by first | rfl | (simp only [firstArgMember];rfl)) (wpAny_newObj_type ?_ (by size_fits)))) (by size_fits))
 simp only [raiseNew]
 refine wpAny_bind (wpAny_handled ?_)
 rw [show A.in1.handled=none from hh]
 refine wpAny_bind (wpAny_pure (wpAny_throw ?_))
 exact hE _ _ (((Heap.SameBut.update ..).extBut.push _).push _) ⟨_,Heap.get?_push_size _ rfl,rfl⟩
theorem F8 {k:κ} {v:Value} {Q:Value -> Shared -> Prop} (hit:s.heap.IsKeyIter it d i kvs.length ep) (hm:s.heap.DictAt knd d kvs ep) (hx:kvs[i]? = some (k,v))
  (hQ:∀ key h',knd.is k key=true -> h'.IsKeyIter it d (i + 1) kvs.length ep -> Heap.SameBut it s.heap h' -> Q key { s with heap:=h' }):wpAny (model prog w) A (Builtin.SmallTypes.nextOf (.ref it)) Q E s:=
 Uk (wpAny_pyNext_dict_item hit hm hx fun key h' a b c=>⟨key,rfl,hQ key h' a b c⟩)
theorem Tl {e:Addr} {old:Value} {J:Value -> Heap -> Prop} {Q:Value -> Shared -> Prop} (he:IsEnum s.heap e it i old) (hne:e ≠ it)
  (nx:∀ (A:Around) (P:Value -> Shared -> Prop) (E:Value -> Shared -> Prop),(∀ x h1,J x h1 -> Heap.SameBut it s.heap h1 -> P x { s with heap:=h1 }) -> wpAny (model prog w) A (Builtin.SmallTypes.nextOf (.ref it)) P E s)
  (hJ:∀ x h1 h2,J x h1 -> (∀ o,h1.get? it=some o -> h2.get? it=some o) -> J x h2)
  (hQ:∀ x h',IsEnumOut h' e it ((i:Int) + 1) x s.heap.objs.size -> J x h' -> h'.get? s.heap.objs.size=some { cls:=.type "tuple", data:=.seq #[.int i s.toks,x] } ->
   (∀ b o,b ≠ e -> b ≠ it -> s.heap.get? b=some o -> h'.get? b=some o) -> Q (.ref s.heap.objs.size) { s with heap:=h',toks:=s.toks + 1 }) :
  wpAny (model prog w) A (Builtin.«enumerate.__next__» ⟨[.ref e],[]⟩) (fun fin s'=>∃ v,fin = .done (.ret v) /\ Q v s') E s:=by
 have lt:e < s.heap.objs.size:=Heap.lt_size he
 obtain ⟨h0,gs,dr,tk,ops⟩:=s
 show wpAny _ _ (field (.ref e) 2 >>= fun z=>Builtin.SmallTypes.nextOf z >>= _) _ _ _
 refine wpAny_bind (wpAny_field he rfl (x:=.ref it) rfl (wpAny_bind (nx _ _ _ fun x h1 j1 s1=>?_)))
 have k1:Heap.SameBut it h0 h1:=s1
 have e1:IsEnum h1 e it i old:=(k1.2 e hne).trans he
 refine wpAny_bind (wpAny_field (s:=⟨h1,gs,dr,tk,ops⟩) e1 rfl (x:=rawInt i) rfl ?_)
 refine wpAny_bind (m:=field (.ref e) 4) (wpAny_field (s:=⟨h1,gs,dr,tk,ops⟩) e1 rfl (x:=.none) rfl ?_)
 show wpAny _ _ (mkInt i >>= _) _ _ ⟨h1,gs,dr,tk,ops⟩
 refine wpAny_bind (wpAny_mkInt ?_)
 show wpAny _ _ (setField (.ref e) 3 (rawInt ((i:Int) + 1)) >>= fun _=>setField (.ref e) 4 .none >>= _) _ _ ⟨h1,gs,dr,tk + 1,ops⟩
 refine wpAny_bind (wpAny_setField_rec e1 (by simp) fun h2 e2 s2=>wpAny_bind (wpAny_setField_rec (s:=⟨h2,gs,dr,tk + 1,ops⟩) (show IsEnum h2 e it ((i:Int) + 1) old from e2) (by simp) fun h3 e3 s3=>?_))
 have k2:Heap.SameBut e h1 h2:=s2
 have k3:Heap.SameBut e h2 h3:=s3
 have e3:IsEnum h3 e it ((i:Int) + 1) old:=e3
 show wpAny _ _ (newTuple [.int i tk,x] >>= _) _ _ ⟨h3,gs,dr,tk + 1,ops⟩
 refine wpAny_bind (wpAny_newTuple ?_)
 have size:h3.objs.size=h0.objs.size:=by rw [k3.1,k2.1,k1.1]
 have up:∃ h4:Heap,h4=h3.push { cls:=.type "tuple", data:=.seq #[.int i tk,x] }:=⟨_,rfl⟩
 obtain ⟨h4,eh4⟩:=up
 rw [<- eh4]
 have e4:IsEnum h4 e it ((i:Int) + 1) old:=by rw [eh4];exact Heap.get?_push_of_some _ e3
 have t4:h4.get? h0.objs.size=some { cls:=.type "tuple", data:=.seq #[.int i tk,x] }:=by rw [eh4,<- size];exact Heap.get?_push_size _ rfl
 have j4:J x h4:=hJ x h1 h4 j1 fun o q=>by rw [eh4];exact Heap.get?_push_of_some _ (k3.extBut it o (Ne.symm hne) (k2.extBut it o (Ne.symm hne) q))
 have all4:∀ b o,b ≠ e -> b ≠ it -> h0.get? b=some o -> h4.get? b=some o:=fun b o b1 b2 q=>by
  rw [eh4]
  exact Heap.get?_push_of_some _ (k3.extBut b o b1 (k2.extBut b o b1 (k1.extBut b o b2 q)))
 show wpAny _ _ (Builtin.SmallTypes.ownedTupleIsFree (.ref e) >>= _) _ _ ⟨h4,gs,dr,tk + 1,ops⟩
 rw [size]
 refine wpAny_bind ?_
 unfold Builtin.SmallTypes.ownedTupleIsFree
 refine wpAny_bind (wpAny_field e4 rfl (x:=.none) rfl (wpAny_pure ?_))
 simp only [if_true]
 refine wpAny_bind (wpAny_rule (wpAny_bind (wpAny_field e4 rfl (x:=old) rfl (wpAny_bind (wpAny_setField_rec e4 (by simp) fun h5 e5 s5=>?_)))))
 have e5:IsEnum h5 e it ((i:Int) + 1) x:=e5
 have k5:Heap.SameBut e h4 h5:=s5
 show wpAny _ _ (Builtin.SmallTypes.ownedTupleHandOut (.ref e) (.ref h0.objs.size) >>= _) _ _ ⟨h5,gs,dr,tk + 1,ops⟩
 refine wpAny_bind ?_
 unfold Builtin.SmallTypes.ownedTupleHandOut
 refine wpAny_bind (wpAny_setField_rec e5 (by simp) fun h6 e6 s6=>wpAny_setField_rec (s:=⟨h6,gs,dr,tk + 1,ops⟩) (show IsEnumOut h6 e it ((i:Int) + 1) x h0.objs.size from e6) (by simp) fun h7 e7 s7=>?_)
 have k6:Heap.SameBut e h5 h6:=s6
 have k7:Heap.SameBut e h6 h7:=s7
 have on:∀ b o,b ≠ e -> h4.get? b=some o -> h7.get? b=some o:=fun b o n q=>k7.extBut b o n (k6.extBut b o n (k5.extBut b o n q))
 exact wpAny_bind (wpAny_letGo (wpAny_pure ⟨_,rfl,hQ x h7 e7 (hJ x h4 h7 j4 fun o q=>on it o (Ne.symm hne) q) (on _ _ (Nat.ne_of_gt lt) t4) fun b o b1 b2 q=>on b o b1 (all4 b o b1 b2 q)⟩))
theorem Ix {e:Addr} {old:Value} {J:Value -> Heap -> Prop} {Q:Option Value -> Shared -> Prop} (he:IsEnum s.heap e it i old) (hne:e ≠ it)
  (nx:∀ (A:Around) (P:Value -> Shared -> Prop) (E:Value -> Shared -> Prop),(∀ x h1,J x h1 -> Heap.SameBut it s.heap h1 -> P x { s with heap:=h1 }) -> wpAny (model prog w) A (Builtin.SmallTypes.nextOf (.ref it)) P E s)
  (hJ:∀ x h1 h2,J x h1 -> (∀ o,h1.get? it=some o -> h2.get? it=some o) -> J x h2)
  (hQ:∀ x h',IsEnumOut h' e it ((i:Int) + 1) x s.heap.objs.size -> J x h' -> h'.get? s.heap.objs.size=some { cls:=.type "tuple", data:=.seq #[.int i s.toks,x] } ->
   (∀ b o,b ≠ e -> b ≠ it -> s.heap.get? b=some o -> h'.get? b=some o) -> Q (some (.ref s.heap.objs.size)) { s with heap:=h',toks:=s.toks + 1 }):wpAny (model prog w) A (pyNext (.ref e)) Q E s:=by
 have ty:s.TypeIs (.ref e) "enumerate" := ⟨_,he,rfl⟩
 unfold pyNext
 exact wpAny_bind (wpAny_attempt (wpAny_callSpecial?_slot (name:=Str.ofString "__next__") ty F.slot_enumerate_next (wpAny_call_entry F.slot_enumerate_next ty F.entry_enumerate_next (Tl he hne nx hJ fun x h' a b c d=>wpAny_pure (hQ x h' a b c d)) (F.args_enumerate_next_1 _))))
theorem Ge {e:Addr} {old:Value} {Q:Option Value -> Shared -> Prop} (hh:A.handled=none) (he:IsEnum s.heap e it i old) (hit:s.heap.IsKeyIter it d i kvs.length ep) (hm:s.heap.DictAt knd d kvs ep) (hx:kvs[i]? = none)
  (hQ:∀ h',Heap.ExtBut it s.heap h' -> Q none { s with heap:=h' }):wpAny (model prog w) A (pyNext (.ref e)) Q E s:=by
 have ty:s.TypeIs (.ref e) "enumerate" := ⟨_,he,rfl⟩
 unfold pyNext
 refine wpAny_bind (wpAny_attempt (wpAny_callSpecial?_slot (name:=Str.ofString "__next__") ty F.slot_enumerate_next (wpAny_call_entry F.slot_enumerate_next ty F.entry_enumerate_next ?_ (F.args_enumerate_next_1 _))))
 show wpAny _ _ (field (.ref e) 2 >>= fun z=>Builtin.SmallTypes.nextOf z >>= _) _ _ _
 refine wpAny_bind (wpAny_field he rfl (x:=.ref it) rfl (wpAny_bind (Gz hh hit hm hx fun h' x hk ⟨o,ho,hc⟩=>?_)))
 exact wpAny_bind (wpAny_isInstance (T := "StopIteration") (b:=true) ⟨o,ho,hc⟩ isSubtype_stop (wpAny_pure (hQ _ hk)))
theorem Pa {Q:Value -> Shared -> Prop} (hd:(d == sysModules)=false) (hm:s.heap.DictAt knd d kvs ep)
  (h:∀ h',IsEnum h' (s.heap.objs.size + 1) s.heap.objs.size 0 .none -> h'.IsKeyIter s.heap.objs.size d 0 kvs.length ep -> (∀ b o,s.heap.get? b=some o -> h'.get? b=some o) -> Q (.ref (s.heap.objs.size + 1)) { s with heap:=h' }) :
  wpAny (model prog w) A (call (.type "enumerate") [.ref d]) Q E s:=by
 have g:MeetsIn prog w (Builtin.«enumerate.__new__» ⟨[.type "enumerate", .ref d],[]⟩) (fun _ R s=>s.heap.DictAt knd d kvs ep /\
   R (.ok (.ret (.ref (s.heap.objs.size + 1)))) { s with heap:=(s.heap.push { cls:=.type "dict_keyiterator", data:=.fields #[.ref d,.int 0 0,.int kvs.length 0,.int ep 0] }).push { cls:=.type "enumerate", data:=.fields #[.none,.bool false,.ref s.heap.objs.size,rawInt 0,.none,.none] } }):=by
  refine .of_wp fun A R s h=>?_
  obtain ⟨hp,g,d',tk,os⟩:=s
  obtain ⟨hm,h⟩:=h
  have hsub:=sub_enumerate
  obtain ⟨o,es,ho,hcl,hdat,q⟩:=id hm
  have hz:(hp.push { cls:=.type "dict_keyiterator", data:=.fields #[.ref d,.int 0 0,.int kvs.length 0,.int ep 0] }).objs.size=hp.objs.size + 1:=Heap.size_push ..
  wp_walk using wpAny_pyIter_dict hd hm
  refine wpAny_stack_any fun st=>wpAny_pure ?_
  have h2:R (.ok (.ret (.ref (hp.push { cls:=.type "dict_keyiterator", data:=.fields #[.ref d,.int 0 0,.int kvs.length 0,.int ep 0] }).objs.size))) ⟨(hp.push { cls:=.type "dict_keyiterator", data:=.fields #[.ref d,.int 0 0,.int kvs.length 0,.int ep 0] }).push { cls:=.type "enumerate", data:=.fields #[.none,.bool false,.ref hp.objs.size,rawInt 0,.none,.none] },g,d',tk,os⟩:=by rw [hz];exact h
  split
  ·rename_i c _ _ _ _ _
   cases (c == Value.type "enumerate")
   ·wp_walk using wpAny_pyIter_dict hd hm
    exact ⟨_,rfl,h2⟩
   ·wp_walk using wpAny_pyIter_dict hd hm
    exact ⟨_,rfl,h2⟩
  ·wp_walk using wpAny_pyIter_dict hd hm
   exact ⟨_,rfl,h2⟩
 refine callType_newIn F.called_enumerate (by decide) (F.typeCall_enumerate_1 _) (F.newCall_enumerate_1 _) (fun obj=>F.args_object_init_2 obj _) F.entry_enumerate_new g ⟨hm,?_⟩
 have hz:(s.heap.push { cls:=.type "dict_keyiterator", data:=.fields #[.ref d,.int 0 0,.int kvs.length 0,.int ep 0] }).objs.size=s.heap.objs.size + 1:=Heap.size_push ..
 have he:IsEnum ((s.heap.push { cls:=.type "dict_keyiterator", data:=.fields #[.ref d,.int 0 0,.int kvs.length 0,.int ep 0] }).push { cls:=.type "enumerate", data:=.fields #[.none,.bool false,.ref s.heap.objs.size,rawInt 0,.none,.none] }) (s.heap.objs.size + 1) s.heap.objs.size 0 .none:=hz ▸ Heap.get?_push_size _ rfl
 exact ⟨⟨_,he,rfl⟩,h _ he ⟨_,Heap.get?_push_of_some _ (Heap.get?_push_size _ rfl),rfl,rfl⟩ fun b o x=>Heap.get?_push_of_some _ (Heap.get?_push_of_some _ x)⟩
end
end PySem
namespace L2
open PySem PySem.Spec PyProof.Rows
def Itde (p:Addr) (o:Obj) (kvs:List (Key × V)):It:=
  ⟨fun i H=>H p=some (.frz o (.dK kvs)) /\ i < kvs.length,
   fun i H x H'=>∃ T k v,H T=none /\ x = .ref T /\ kvs[i]? = some (k,v) /\ H' = upd H T (.tup [.int i,kV k]),
   fun i H=>H p=some (.frz o (.dK kvs)) /\ kvs.length <= i⟩
theorem Qo {P:Program} {w:World} {K:PySem.W.Frag} {elts:List Expr} {kt:Nat} {pt:Pos} {e it p:Addr} {o:Obj} {kvs:List (Key × V)} {ep:Nat} (ne:e ≠ it) (he:EpOf o ep) :
  Turn P w K (.Tuple elts kt pt) (Itde p o kvs) [e,it] e (fun i h=>(∃ old,IsEnum h e it (i:Int) old) /\ h.IsKeyIter it p i kvs.length ep) where
 mem:=by simp
 obj:=fun i h st b hb=>by
  obtain ⟨⟨old,he⟩,⟨o1,e1,c1,d1⟩⟩:=st
  rcases List.mem_cons.mp hb with rfl | hb
  ·exact ⟨_,he,fun v q=>nomatch q⟩
  ·rw [List.mem_singleton.mp hb];exact ⟨o1,e1,fun v q=>by rw [d1] at q;cases q⟩
 keep:=fun i h h' st k=>let ⟨⟨old,he⟩,h1⟩:=st;⟨⟨old,k e (by simp) _ he⟩,h1.at fun o q=>k it (by simp) o q⟩
 item:=by
  intro X hP hw hK hc i pins s σ H E I hf st hg
  subst hP hw hK
  obtain ⟨hH,hi⟩:=hg
  obtain ⟨vs,rel,hd,hm⟩:=I.kdict hH he
  obtain ⟨⟨k,v⟩,hx⟩:∃ q,kvs[i]? = some q:=⟨kvs[i],by simp [hi]⟩
  obtain ⟨u,hu,_⟩:=Wt rel hx
  have hl:kvs.length=vs.length:=rel.length
  obtain ⟨⟨old,en⟩,h1⟩:=st
  rw [hl] at h1
  refine Ix en ne (J:=fun x h=>(Ao X.prog X.w).is k x=true /\ h.IsKeyIter it p (i + 1) vs.length ep) (fun A P E hQ=>F8 h1 hd hu fun key h' a b c=>hQ key h' ⟨a,b⟩ c) (fun x h1 h2 j k=>⟨j.1,j.2.at k⟩) fun key h' a1 ⟨hk,a2⟩ a3 hk'=>?_
  refine ⟨_,rfl,wpAny_letOwnedTupleGo_enum a1 fun h'' hz' hs'=>?_⟩
  have hT:=I.hok.fresh (Nat.le_refl s.heap.objs.size)
  have nT:∀ {b ob},s.heap.get? b=some ob -> b ≠ s.heap.objs.size:=fun q=>Nat.ne_of_lt (Heap.lt_size q)
  have up:∀ b ob,b ∉ [e,it] -> s.heap.get? b=some ob -> h''.get? b=some ob:=fun b ob hb q=>by
   have b1:b ≠ e:=by rintro rfl;exact hb (by simp)
   have b2:b ≠ it:=by rintro rfl;exact hb (by simp)
   exact hs'.extBut b ob b1 (hk' b ob b1 b2 q)
  have Tnew:h''.get? s.heap.objs.size=some { cls:=.type "tuple", data:=.seq #[.int i s.toks,key] }:=hs'.extBut _ _ (Ne.symm (nT en)) a3
  have I1:Inv X pins σ (upd H s.heap.objs.size (.tup [.int i,kV k])) { s with heap:=h'',toks:=s.toks + 1 }:=
   I.turnedN (t':=s.toks + 1) (ch:=[e,it]) (fun b hb=>hf b hb) up (Nat.le_refl _) ⟨by show 2 <= sizeLine;decide,[.int i s.toks,key],.cons ⟨_,rfl⟩ (.cons (af4 hk) .nil),⟨_,Tnew,rfl,_,rfl⟩⟩
  refine ⟨.ref s.heap.objs.size,_,I1,rfl,⟨s.heap.objs.size,k,v,hT,rfl,hx,rfl⟩,⟨⟨_,hz'⟩,by rw [hl];exact a2.at fun o q=>hs'.extBut _ o (Ne.symm ne) q⟩,fun b hb=>?_⟩
  have q:=(hf b hb).1
  rw [Ad ?_]
  ·exact q
  ·rcases List.mem_cons.mp hb with rfl | hb
   ·exact nT en
   ·rw [List.mem_singleton.mp hb];obtain ⟨_,q,_⟩:=h1;exact nT q
 done:=by
  intro X hP hw hK hc i pins s σ H E I hf st hg
  subst hP hw hK
  obtain ⟨hH,hi⟩:=hg
  obtain ⟨vs,rel,hd,hm⟩:=I.kdict hH he
  have hl:kvs.length=vs.length:=rel.length
  obtain ⟨⟨old,en⟩,h1⟩:=st
  rw [hl] at h1
  refine Ge (I.ok.hd hc) en h1 hd (by simp;omega) fun h' hk=>⟨rfl,?_⟩
  refine I.turnedL (t':=s.toks) (ch:=[e,it]) (fun b hb=>hf b hb) fun b o hb q=>hk b o (by rintro rfl;exact hb (by simp)) q
 self:=fun A i s Q E st h=>let ⟨_,he⟩:=st.1;wpAny_pyIter_enum he h
theorem Wb {X:Cx} {elts:List Expr} {kt:Nat} {pt:Pos} {pins:List (Addr × Obj)} {σ:St} {H:Hp} {s:Shared} {R:It -> Hp -> Prop} {E:Value -> Shared -> Prop} {p:Addr} {o:Obj} {kvs:List (Key × V)} (I:Inv X pins σ H s) (h:H p=some (.frz o (.dK kvs)))
  (q:R (Itde p o kvs) H):wpAny (model X.prog X.w) X.A (call (.type "enumerate") [.ref p]) (fun v s1=>wpAny (model X.prog X.w) X.A (pyIter v) (PIE X pins σ (.Tuple elts kt pt) R) E s1) E s:=by
 have he:∃ ep,EpOf o ep:=by
  obtain ⟨e1,z,y,vs,r,ob,es,ep,e,c,d,_⟩:=I.hok p _ h
  rw [e1] at e;cases e
  exact ⟨ep,es,d⟩
 obtain ⟨ep,he⟩:=he
 obtain ⟨vs,rel,hd,hm⟩:=I.kdict h he
 refine Pa hm hd fun h' en hit hk=>wpAny_pyIter_enum en ?_
 refine ⟨_,_,_,_,H,rfl,I.kept (t':=s.toks) hk,Qo (Nat.succ_ne_self _) he,⟨⟨_,en⟩,by rw [rel.length];exact hit⟩,fun b hb=>?_,q⟩
 have hb:b=s.heap.objs.size + 1 \/ b=s.heap.objs.size:=by simpa using hb
 have le:s.heap.objs.size <= b:=hb.elim (fun e=>e ▸ Nat.le_add_right _ 1) fun e=>e ▸ Nat.le_refl _
 exact I.fpOk le (I.hok.fresh le)
end L2
namespace PySem
open PyProof.Rows
section
variable {κ:Type} [DecidableEq κ]
def metK (xs:List κ):List κ:=xs.foldl (fun σ k=>if σ.any (fun j=>decide (j=k)) then σ else σ ++ [k]) []
theorem K6 (xs:List κ) (k:κ):metK (xs ++ [k])=if (metK xs).any (fun j=>decide (j=k)) then metK xs else metK xs ++ [k]:=by
 unfold metK
 rw [List.foldl_append]
 rfl
theorem Wx (xs:List κ) (k j:κ):(metK (xs ++ [k])).any (fun i=>decide (i=j))=((metK xs).any (fun i=>decide (i=j)) || decide (j=k)):=by
 rw [K6]
 by_cases h:(metK xs).any (fun i=>decide (i=k))=true
 ·rw [if_pos h]
  by_cases e:j=k
  ·subst e;rw [h];rfl
  ·simp [e]
 ·rw [if_neg h,List.any_append]
  congr 1
  simp [eq_comm]
theorem Nz (xs:List κ):(metK xs).length <= xs.length:=by
 have:∀ (ys acc:List κ),(ys.foldl (fun σ k=>if σ.any (fun j=>decide (j=k)) then σ else σ ++ [k]) acc).length <= acc.length + ys.length:=by
  intro ys
  induction ys with
  | nil=>intro acc;exact Nat.le_refl _
  | cons y ys ih=>
   intro acc
   refine Nat.le_trans (ih _) ?_
   rw [List.length_cons]
   dsimp only
   split
   ·omega
   ·rw [List.length_append,List.length_singleton];omega
 exact Nat.le_trans (this xs []) (by simp)
end
section
variable {prog:Program} {w:World} {A:Around} {R:Result -> Shared -> Prop} {I:Addr} {fp wr:List Addr} {G:Array GenState -> Array GenState -> Prop} {P:Nat -> Value -> Prop} {St:Nat -> Shared -> Prop} {κ:Type} [DecidableEq κ] {knd:KeyKind prog w κ} {ks:List κ}
abbrev Dp (knd:KeyKind prog w κ) (h:Heap) (S:Addr) (ks:List κ):Prop:=h.SetOf knd S (fun k=>(metK ks).any (fun j=>decide (j=k))) (metK ks).length
theorem Ko {h h':Heap} {S:Addr} (x:Dp knd h S ks) (k:∀ o,h.get? S=some o -> h'.get? S=some o):Dp knd h' S ks:=
 let ⟨o,es,ep,t,ho,r⟩:=x;⟨o,es,ep,t,k o ho,r⟩
theorem Op (W:WalksS prog w A.in1 I fp wr G ks.length P St) (S:Addr) (out:S ∉ fp) (hv:∀ i v,P i v -> ∃ k,ks[i]? = some k /\ knd.is k v=true /\ v.scannable=true) (few:ks.length + 1 < scanBound) (left:Nat) :
  ∀ (i:Nat) (s:Shared),i + left=ks.length -> St i s -> Dp knd s.heap S (ks.take i) -> (∀ s',Moved (S :: wr) G s s' -> Dp knd s'.heap S ks -> R (.ok (.ret .none)) s') ->
   codeAny (model prog w) A (.builtin "set.update.loop" ⟨[.ref S,.ref I],[]⟩) R s:=by
 have outw:S ∉ wr:=fun z=>out (W.sub _ z)
 have into:∀ b ∈ wr,b ∈ S :: wr:=fun b z=>.tail _ z
 induction left with
 | zero=>
  intro i s hi st fl hR
  have ei:i=ks.length:=hi
  subst ei
  rw [List.take_length] at fl
  refine codeAny_builtin F.entry_set_update_loop (Around.under_plainId F.plain_set_update_loop _ ▸ ?_)
  show wpAny _ A.in1 (pyNext (.ref I) >>= _) _ _ s
  exact wpAny_bind (W.done s _ _ st fun s' mv=>wpAny_pure (hR s' (mv.mono into) (Ko fl fun o e=>mv.heap S o outw e)))
 | succ left ih=>
  intro i s hi st fl hR
  have lt:i < ks.length:=by omega
  refine codeAny_builtin F.entry_set_update_loop (Around.under_plainId F.plain_set_update_loop _ ▸ ?_)
  show wpAny _ A.in1 (pyNext (.ref I) >>= _) _ _ s
  refine wpAny_bind (W.item i s _ _ lt st fun v s1 pv st1 mv=>?_)
  obtain ⟨k,ek,ik,sk⟩:=hv i v pv
  have fl1:Dp knd s1.heap S (ks.take i):=Ko fl fun o e=>mv.heap S o outw e
  have tk:ks.take (i + 1)=ks.take i ++ [k]:=by rw [List.take_succ,ek];rfl
  show wpAny _ A.in1 (holding [v] (setAdd S v) >>= _) _ _ s1
  refine wpAny_bind (wpAny_holding ?_)
  unfold setAdd
  refine wpAny_holding (wpAny_bind (knd.pyHash (k:=k) ik ?_))
  have room:(metK (ks.take i)).length + 1 < scanBound:=by
   have:=Nz (ks.take i)
   rw [List.length_take] at this
   omega
  refine wpAny_setAddHashed_of (knd:=knd) (s:={ s1 with toks:=s1.toks + 1 }) ik sk fl1 room fun h' sb fl2=>?_
  have fl3:Dp knd h' S (ks.take (i + 1)):=by
   have eS:(fun j=>(metK (ks.take i)).any (fun m=>decide (m=j)) || decide (j=k))=fun j=>(metK (ks.take i ++ [k])).any (fun m=>decide (m=j)):=funext fun j=>(Wx (ks.take i) k j).symm
   have en:(if (metK (ks.take i)).any (fun m=>decide (m=k))=true then (metK (ks.take i)).length else (metK (ks.take i)).length + 1)=(metK (ks.take i ++ [k])).length:=by
    rw [K6];split <;> simp
   rw [tk]
   show h'.SetOf knd S _ _
   rw [<- eS,<- en]
   exact fl2
  refine wpAny_pure ⟨plainId_quiet F.plain_set_update_loop _,ih (i + 1) _ (by omega) (W.frame _ s1 _ _ st1 (Nat.le_succ _) fun b hb o e=>?_) fl3 fun s2 mv2 fl4=>?_⟩
  ·exact (sb.2 b fun z=>out (z ▸ hb)).trans e
  ·exact hR s2 (Moved.trans W.gtrans ((mv.mono into).then_heap (Nat.le_succ _) fun b o hb e=>(sb.2 b fun z=>hb (z ▸ List.mem_cons_self)).trans e) mv2) fl4
end
section
variable {prog:Program} {w:World} {A:Around} {E:Value -> Shared -> Prop} {s:Shared} {κ:Type} [DecidableEq κ] {knd:KeyKind prog w κ} {ks:List κ}
abbrev B7 (led:Bool):Obj:={ cls:=.type "set", dict:=none,data:=.set #[] 0 (.fresh 0 0 led) }
theorem Oq {l:Addr} {items:Array Value} {Q:Value -> Shared -> Prop} (hh:A.handled=none) (hl:s.heap.IsList l items) (hv:∀ (i:Nat) (v:Value),items[i]? = some v -> ∃ k,ks[i]? = some k /\ knd.is k v=true /\ v.scannable=true) (hs:items.size=ks.length) (few:ks.length + 1 < scanBound)
  (h:∀ (h':Heap) (tk:Nat),Dp knd h' s.heap.objs.size ks -> (∀ b o,b < s.heap.objs.size -> s.heap.get? b=some o -> h'.get? b=some o) -> Q (.ref s.heap.objs.size) { s with heap:=h',toks:=tk }) :
  wpAny (model prog w) A (call (.type "set") [.ref l]) Q E s:=by
 obtain ⟨c,tl,hmro⟩:=F.called_set.mro
 have m1:=F.called_set.made
 have m2:=F.called_set.sub
 have m3:=F.called_set.notType
 have m4:=F.called_set.canCreate
 have m5:=F.typeCall_set_1 (.ref l)
 refine wpAny_call (codeAny_of_tree (show wpAny _ _ (callAny (.type "set") _) _ _ _ from wpAny_pure ⟨Code.quiet_builtin _ (by decide +kernel),codeAny_builtin F.entry_type_call ?_⟩))
 rw [Around.under_plain (weight_type_call_type "set" [.ref l] []) rfl]
 repeat (any_goals (first | assumption | wp_step))
 refine codeAny_mono (code_set_new_1 (.ref l) (E:=E) (Q₁:=fun obj s₁=>∃ led:Bool,obj = .ref s.heap.objs.size /\ s₁={ s with heap:=s.heap.push (B7 led) }) fun led=>⟨led,rfl,rfl⟩) fun r s₁ hr=>?_
 cases r with
 | error e=>exact hr
 | ok fl=>
  cases fl with
  | ret obj=>
   obtain ⟨led,rfl,rfl⟩:=hr
   have new:(s.heap.push (B7 led)).get? s.heap.objs.size=some (B7 led):=Heap.get?_push_size _ rfl
   have ty:Shared.TypeIs { s with heap:=s.heap.push (B7 led) } (.ref s.heap.objs.size) "set" := ⟨_,new,rfl⟩
   have m6:=F.called_set.init.lookup
   have m7:=F.called_set.init.bind (.ref s.heap.objs.size)
   repeat (any_goals (first | assumption | wp_step))
   refine codeAny_mono (codeAny_call_builtin (R:=wants (fun r s₂=>r = .none /\ ∃ h' tk,s₂={ s with heap:=h',toks:=tk } /\ Dp knd h' s.heap.objs.size ks /\ (∀ b o,b < s.heap.objs.size -> s.heap.get? b=some o -> h'.get? b=some o)) E) F.called_set.init.plain F.entry_set_init (check_set_init_1 ty ?_)) fun r2 s2 hr2=>?_
   ·obtain ⟨⟨oc,odict,od,osl⟩,ol,hc,n,hd⟩:=hl
    simp only at hc hd
    subst hc;subst hd
    have lt:l < s.heap.objs.size:=Heap.lt_size ol
    have ol2:(s.heap.push (B7 led)).get? l=some { cls:=.type "list", dict:=odict,data:=.seq items n,slots:=osl }:=Heap.get?_push_of_some _ ol
    have m8:=F.sub_list_set
    have m9:=F.sub_list_frozenset
    have m10:(Value.type "list" == Value.type "dict")=false:=by decide
    have isl:(s.heap.push (B7 led)).IsList l items:=⟨_,ol2,rfl,n,rfl⟩
    have size:(s.heap.push (B7 led)).objs.size=s.heap.objs.size + 1:=Heap.size_push ..
    unfold Builtin.«set.__init__» noKeywords Builtin.Frozenset.updateFrom
    generalize hPI:pyIter=PI
    wp_walk
    subst hPI
    refine wpAny_pyIter_list isl (wpAny_bind (wpAny_runValue ?_))
    have quiet:A.in1.in1.in1.handled=none:=by simp [hh]
    have ne1:l ≠ (s.heap.push (B7 led)).objs.size:=size ▸ Nat.ne_of_lt (Nat.lt_succ_of_lt lt)
    have out:s.heap.objs.size ∉ [(s.heap.push (B7 led)).objs.size,l]:=by
     simp only [size,List.mem_cons,List.not_mem_nil,or_false,not_or]
     exact ⟨Nat.ne_of_lt (Nat.lt_succ_self _),Nat.ne_of_gt lt⟩
    have W:=(Walks.list (prog:=prog) (w:=w) quiet (s.heap.push (B7 led)).objs.size l ne1 items).toS
    rw [hs] at W
    refine Op (ks:=ks) W s.heap.objs.size out hv few ks.length 0 _ (Nat.zero_add _) ⟨⟨_,Heap.get?_push_size _ rfl,rfl,rfl⟩,isl.push _⟩ ?_ fun s' mv fl=>?_
    ·exact (setObjOf_fresh (knd:=knd) led).setOf (Heap.get?_push_of_some _ new) (by unfold scanBound;omega)
    ·obtain ⟨h',g',d',tk',os'⟩:=s'
     have e1:g' = s.gens:=mv.gens
     have e2:d' = s.drawn:=mv.drawn
     have e3:os' = s.os:=mv.os
     subst e1;subst e2;subst e3
     refine (show wpAny _ _ _ _ _ _ from wpAny_pure (show wpAny _ _ (ret Value.none) _ _ _ from wpAny_pure ⟨rfl,h',tk',rfl,fl,fun b o hb e=>?_⟩))
     refine mv.heap b o ?_ (Heap.get?_push_of_some _ (Heap.get?_push_of_some _ e))
     simp only [size,List.mem_cons,List.not_mem_nil,or_false,not_or]
     exact ⟨Nat.ne_of_lt hb,Nat.ne_of_lt (Nat.lt_succ_of_lt hb)⟩
   ·cases r2 with
    | error e=>exact hr2
    | ok f2=>
     cases f2 with
     | ret r=>
      obtain ⟨rfl,h',tk,rfl,fl,kept⟩:=hr2
      repeat (any_goals (first | assumption | wp_step))
      exact h _ _ fl kept
     | _=>exact hr2.elim
  | _=>exact hr.elim
end
end PySem
namespace L2
open PySem PySem.Spec PyProof.Rows
section
variable {X:Cx} {e:Expr} {de:DE} {p p2 pos pos2:Pos}
def Ht (K:PySem.W.Frag):V -> Hp -> VK -> Prop:=fun x H Q=>match x with
 | .ref l=>∃ ys:List Str,SqL K H l (ys.map V.str) /\ ys.length < 30 /\ Q (.int (metK ys).length) H
 | _=>False
theorem R6:∀ {ys:List Str} {us:List Value} {i:Nat} {v:Value},Vals (ys.map V.str) us -> us[i]? = some v -> ∃ k t,ys[i]? = some k /\ v = .str k t
 | [],_,i,v,r,e=>by rw [List.map_nil] at r;cases r;simp at e
 | y :: ys,_,i,v,r,e=>by
  rw [List.map_cons] at r
  cases r with
  | cons r1 r2=>
   obtain ⟨t,rfl⟩:=r1
   cases i with
   | zero=>simp only [List.getElem?_cons_zero,Option.some.injEq] at e;exact ⟨y,t,rfl,e.symm⟩
   | succ i=>simp only [List.getElem?_cons_succ] at e ⊢;exact R6 r2 e
theorem Zn {pins:List (Addr × Obj)} {σ:St} {H:Hp} {s:Shared} {x:V} {u:Value} {Q:VK} (hc:X.calm=true) (I:Inv X pins σ H s) (rx:RelV x u) (h:Ht X.K x H Q) :
  wpAny (model X.prog X.w) X.A (call (.type "set") [u]) (fun v s1=>wpAny (model X.prog X.w) X.A (call (.builtin "len") [v]) (EP X pins σ Q) X.xe s1) X.xe s:=by
 cases x with
 | ref l=>
  cases rx
  obtain ⟨ys,hq,few,q⟩:=h
  obtain ⟨its,rv,pl,hz⟩:=I.list hq
  have hl:its.length=ys.length:=by rw [<- rv.length,List.length_map]
  refine Oq (knd:=PySem.strKind X.prog X.w) (ks:=ys) (I.ok.hd hc) pl.isList (fun i v e=>?_) (by simpa using hl) (by unfold scanBound;omega) fun h' tk fl kept=>?_
  ·obtain ⟨k,t,ek,rfl⟩:=R6 rv (by simpa using e)
   exact ⟨k,ek,by show Value.isStrOf k (.str k t)=true;simp [Value.isStrOf],rfl⟩
  ·have I1:Inv X pins σ H { s with heap:=h',toks:=tk }:=I.kept (t':=tk) fun b o e=>kept b o (Heap.lt_size e) e
   obtain ⟨o,es,ep,t,ho,hex,hd,hel,hmem,hb,hf,hn⟩:=fl
   refine call_len_set ho hex hd hf ?_ ?_
   ·have:=Nz ys
    rw [hn];omega
   ·rw [hn]
    exact ⟨.int _,H,I1.tok _,⟨_,rfl⟩,q⟩
 | _=>exact (show False from h).elim
end
end L2
namespace PySem
open PyProof.Rows
section
variable {prog:Program} {w:World} {A:Around} {E:Value -> Shared -> Prop} {s:Shared} {κ:Type} [DecidableEq κ] {knd:KeyKind prog w κ} {d it:Addr} {ep i:Nat} {kvs:List (κ × Value)}
end
end PySem
namespace L2
open PySem PySem.Spec PyProof.Rows
section
variable {X:Cx} {pins:List (Addr × Obj)} {σ:St} {A:Around} {E:Value -> Shared -> Prop} {R:Result -> Shared -> Prop} {p it S:Addr} {ep:Nat} {kvs:List (Key × V)} {vs:List (Key × Value)} {res:Value}
end
section
variable {X:Cx} {pins:List (Addr × Obj)} {σ:St} {A:Around} {E:Value -> Shared -> Prop}
end
section
variable {X:Cx}
def af9 (K:PySem.W.Frag):R2:=fun x y H Q=>∃ a b ys,x = .ref a /\ y = .ref b /\ SqT K H a [] /\ SqT K H b ys /\ Q (.ref b) H
theorem Zu:OpR X (binaryOp .Add) (af9 X.K):=by
 intro pins s σ H x y v u Q I rx ry h
 obtain ⟨a,b,ys,rfl,rfl,ha,hb,q⟩:=h
 cases rx
 cases ry
 obtain ⟨its,r1,p1,_⟩:=I.tuple ha
 obtain ⟨its2,r2,p2,_⟩:=I.tuple hb
 cases r1
 obtain ⟨⟨c1,d1,da1,s1⟩,ho,hc,n,hd⟩:=id p1
 obtain ⟨⟨c2,d2,da2,s2⟩,ho2,hc2,n2,hd2⟩:=id p2
 simp only at hc hd hc2 hd2
 subst hc hd hc2 hd2
 exact concat_meets ⟨_,ho,rfl⟩ ⟨_,ho2,rfl⟩ noFill_tuple_add seq_tuple_add PySem.F.slot_tuple_add PySem.F.entry_tuple_add (PySem.F.args_tuple_add_2 _ _)
   (tuple_addW0 a b _ _ n n2 d1 d2 s1 s2 rfl) ⟨ho,ho2,⟨.ref b,H,I,rfl,q⟩⟩
def okTs (T:String):Bool:=["int", "bool", "str", "list", "tuple", "dict"].contains T
theorem Ma {K:PySem.W.Frag} {t:String} (ht:t = "list" \/ t = "tuple"):∀ {Ts:List String},Ts.all okTs=true -> PySem.W.kitAny K (.type t) (Ts.map Value.type)=some (Ts.any fun T=>T == t)
 | [],_=>rfl
 | T :: Ts,h=>by
  rw [List.all_cons,Bool.and_eq_true] at h
  have hT:T = "int" \/ T = "bool" \/ T = "str" \/ T = "list" \/ T = "tuple" \/ T = "dict" := by
   have:=h.1
   unfold okTs at this
   simpa using this
  have one:PySem.W.kitOne K (.type t) (.type T)=some (T == t):=by
   rcases ht with rfl | rfl <;> rcases hT with rfl | rfl | rfl | rfl | rfl | rfl <;> rfl
  rw [List.map_cons]
  unfold PySem.W.kitAny
  rw [one,List.any_cons]
  cases (T == t) with
  | true=>rfl
  | false=>exact Ma ht h.2
theorem Sj:∀ {Ts:List String} {us:List Value},Vals (Ts.map V.ty) us -> us=Ts.map Value.type
 | [],_,r=>by rw [List.map_nil] at r;cases r;rfl
 | T :: Ts,_,r=>by
  rw [List.map_cons] at r
  cases r with
  | cons a b=>rw [Sj b,List.map_cons,show _=Value.type T from a]
def ag1 (K:PySem.W.Frag):V -> V -> Hp -> VK -> Prop:=fun x y H Q=>match x,y with
 | .ref a,.ref b=>∃ Ts:List String,SqT K H b (Ts.map V.ty) /\ Ts.all okTs=true /\ (((∃ xs,SqL K H a xs) /\ Q (.bl (Ts.any fun T=>T == "list")) H) \/ ((∃ xs,SqT K H a xs) /\ Q (.bl (Ts.any fun T=>T == "tuple")) H))
 | _,_=>False
theorem Sy {pins:List (Addr × Obj)} {σ:St} {H:Hp} {s:Shared} {x y:V} {u v:Value} {Q:VK} (I:Inv X pins σ H s) (rx:RelV x u) (ry:RelV y v) (h:ag1 X.K x y H Q):wpAny (model X.prog X.w) X.A (call (.builtin "isinstance") [u,v]) (EP X pins σ Q) X.xe s:=by
  cases x <;> cases y <;> first
    | exact (show False from h).elim
    | (cases rx;cases ry
       obtain ⟨Ts,hT,ok,h⟩:=h
       obtain ⟨its,r,p,_⟩:=I.tuple hT
       obtain ⟨⟨c1,d1,da1,s1⟩,ho,hc,n,hd⟩:=id p
       simp only at hc hd
       subst hc hd
       have e:=Sj r
       subst e
       rcases h with ⟨⟨xs,hq⟩,q⟩ | ⟨⟨xs,hq⟩,q⟩
       . obtain ⟨_,_,⟨o,_,h1,h2,_⟩,_⟩:=I.list hq
         exact PySem.W.kia_tup PySem.W.kitx_list I.kIn ⟨o,h1,h2⟩ ho (Ma (.inl rfl) ok) (fun z=>nomatch z) fun tk=>⟨.bl _,H,I.tok tk,rfl,q⟩
       . obtain ⟨_,_,⟨o,h1,h2,_⟩,_⟩:=I.tuple hq
         exact PySem.W.kia_tup PySem.W.kitx_tuple I.kIn ⟨o,h1,h2⟩ ho (Ma (.inr rfl) ok) (fun z=>nomatch z) fun tk=>⟨.bl _,H,I.tok tk,rfl,q⟩)
theorem Rg (hu:X.A.units + 64 < cLine):IxR X (fun x y H Q=>∃ a v,x = .ref a /\ DGet H a y (some v) /\ Q v H):=by
 intro value slice pins s σ H x y v u Q I rx ry h hs
 obtain ⟨a,w',rfl,g,q⟩:=h
 cases rx
 exact tail_any (Nm I g) PySem.F.slot_dict_getitem.lookup (Ti (by omega) I g ry fun w1 s' I' r'=>⟨w',H,I',r',q⟩) hs
end
section
variable {prog:Program} {w:World} {A:Around} {E:Value -> Shared -> Prop} {s:Shared}
end
section
variable {X:Cx} {pins:List (Addr × Obj)} {σ:St} {H:Hp} {s:Shared} {Q:VK}
end
open Sem (wp)
section
variable {M:Model} {A:Around} {E:Value -> Shared -> Prop} {env:Env}
variable {nm q:Str} {C N:Addr} {bs bm:List Value} {hdct:Bool} {sn:List Str} {sub:List Value} {ab:Bool} {col:Option Bool} {dd:Option Addr} {k0 k1 k2 k3 k5:Option Value} {newId:String}
end
section
variable {X:Cx} {e:Expr} {te:TE} {pos:Pos}
def X2 (K:PySem.W.Frag) (R:EK):VK:=fun x H=>match x with
 | .ref a=>∃ C dx,H a=some (excO a C dx) /\ ECls K C /\ R a (upd H a (flO a C dx))
 | _=>False
theorem Xo {Ex:St -> EK} (m:Bv X Ex) (hh:X.A.handled=none) (he:PE X e te):PS X (.Raise (some e) none pos) (fun _ σ H=>te σ H (X2 X.K (Ex σ))):=by
 intro pins s σ H D I h
 rw [arm_exec_Raise]
 show wpAny _ _ (do standAt pos;raiseStmt X.env (some (do let v <- eval e X.env;standAt pos;pure v)) none) _ _ s
 refine wpAny_bind (wpAny_standAt ?_)
 unfold raiseStmt
 refine wpAny_bind (wpAny_bind (thn (he pins s σ H _ I h) fun v s1 ⟨x,H1,I1,r1,q1⟩=>wpAny_bind (wpAny_standAt (wpAny_pure ?_))))
 cases x with
 | ref a=>
  cases r1
  obtain ⟨C,dx,ea,c,q⟩:=q1
  obtain ⟨vs,g1,g2,g3⟩:=Wf I1 ea
  obtain ⟨nm,qn,N,bs,bm,hdct,sn,sub,ab,col,dd,k0,k1,k2,k3,k5,hl,ht,hd⟩:=c.obj
  have hC:=I1.kIn _ _ hl
  have hb:bm.contains (.type "BaseException")=true:=Bf ht (by decide +kernel)
  have I2:Inv X pins σ (upd H1 a (flO a C dx)) s1:=by
   have:=I1.write (x:=a) (e:=a) (h':=s1.heap) (t':=s1.toks) (o:=flO a C dx) (by rw [ea];exact True.intro) (.inl rfl) (fun b u _ z=>z) ⟨_,g1⟩ (Wh g1 g2)
   exact this
  have hx:=m pins σ _ s1 a I2 ⟨C,dx,vs,Ac,g1,g2,.inl g3⟩ q
  have hcB:(Value.ref C :: bm).contains (.type "BaseException")=true:=by rw [List.contains_cons,hb,Bool.or_true]
  obtain ⟨hp,g,d,tk,os⟩:=s1
  repeat (first | with_reducible refine wpAny_field g1 rfl g3 ?_ | with_reducible refine wpAny_loadPart_at g1 ?_ | with_reducible refine wpAny_loadPart_at hC ?_ | (with_reducible refine wpAny_isSubtype_exc hC ?_;rw [hcB]) | wp_step)
  exact wpAny_raiseNew_none hh hx
 | _=>exact (show False from q1).elim
end
end L2
namespace L2
open PySem PySem.Spec PyProof.Rows
inductive Dt where
 | at_ (v:V)
 | lst (l:List Dt)
 | tup (l:List Dt)
mutual
def deq:Dt -> Dt -> Bool
 | .at_ v,.at_ w=>eqV v w
 | .lst xs,.lst ys=>deqs xs ys
 | .tup xs,.tup ys=>deqs xs ys
 | _,_=>false
def deqs:List Dt -> List Dt -> Bool
 | [],[]=>true
 | x :: xs,y :: ys=>deq x y && deqs xs ys
 | _,_=>false
end
mutual
def dep:Dt -> Nat
 | .at_ _=>0
 | .lst l=>deps l + 1
 | .tup l=>deps l + 1
def deps:List Dt -> Nat
 | []=>0
 | x :: xs=>Nat.max (dep x) (deps xs)
end
mutual
def At (K:PySem.W.Frag) (H:Hp):Dt -> V -> Prop
 | .at_ v,x=>x=v /\ A7 v=true
 | .lst ds,x=>∃ a xs,x = .ref a /\ SqL K H a xs /\ AtL K H ds xs
 | .tup ds,x=>∃ a xs,x = .ref a /\ SqT K H a xs /\ AtL K H ds xs
def AtL (K:PySem.W.Frag) (H:Hp):List Dt -> List V -> Prop
 | [],xs=>xs=[]
 | d :: ds,xs=>∃ y ys,xs=y :: ys /\ At K H d y /\ AtL K H ds ys
end
theorem AtL.length {K:PySem.W.Frag} {H:Hp}:∀ {ds:List Dt} {xs:List V},AtL K H ds xs -> xs.length=ds.length
 | [],xs,h=>by unfold AtL at h;subst h;rfl
 | d :: ds,xs,h=>by
  unfold AtL at h
  obtain ⟨y,ys,rfl,_,h2⟩:=h
  rw [List.length_cons,List.length_cons,AtL.length h2]
theorem We {v:V} (h:A7 v=true):eqV v v=true:=by
 cases v <;> first | rfl | (exact beq_self_eq_true _) | exact absurd (show false=true from h) Bool.false_ne_true
mutual
theorem C5 {K:PySem.W.Frag} {H:Hp}:∀ {d:Dt} {x:V},At K H d x -> deq d d=true
 | .at_ v,x,h=>by unfold At at h;unfold deq;exact We h.2
 | .lst l,x,h=>by unfold At at h;obtain ⟨a,xs,_,_,h⟩:=h;unfold deq;exact Fv h
 | .tup l,x,h=>by unfold At at h;obtain ⟨a,xs,_,_,h⟩:=h;unfold deq;exact Fv h
theorem Fv {K:PySem.W.Frag} {H:Hp}:∀ {ds:List Dt} {xs:List V},AtL K H ds xs -> deqs ds ds=true
 | [],xs,h=>by unfold deqs;rfl
 | d :: ds,xs,h=>by
  unfold AtL at h
  obtain ⟨y,ys,rfl,h1,h2⟩:=h
  unfold deqs
  rw [C5 h1,Fv h2]
  rfl
end
theorem Du:∀ {xs ys:List Dt},xs.length ≠ ys.length -> deqs xs ys=false
 | [],[],h=>absurd rfl h
 | [],_ :: _,_=>by unfold deqs;rfl
 | _ :: _,[],_=>by unfold deqs;rfl
 | x :: xs,y :: ys,h=>by
  unfold deqs
  rw [Du (xs:=xs) (ys:=ys) (fun e=>h (by rw [List.length_cons,List.length_cons,e])),Bool.and_false]
theorem Ck (z:Dt):∀ {xs ys:List Dt},xs.length=ys.length -> deqs xs ys=(List.range xs.length).all fun j=>deq (xs.getD j z) (ys.getD j z)
 | [],[],_=>by unfold deqs;rfl
 | [],_ :: _,h=>by simp at h
 | _ :: _,[],h=>by simp at h
 | x :: xs,y :: ys,h=>by
  unfold deqs
  rw [List.length_cons,List.range_succ_eq_map,List.all_cons,List.all_map,Ck z (xs:=xs) (ys:=ys) (by simpa using h)]
  rfl
section
variable {X:Cx} {pins:List (Addr × Obj)} {σ:St} {H:Hp} {s:Shared}
theorem N7 {a:Addr} {xs ys:List V} (I:Inv X pins σ H s) (h:SqL X.K H a xs) (h':SqT X.K H a ys):False:=by
 obtain ⟨its,r,⟨o,n,e,c,_,d⟩,_⟩:=I.list h
 obtain ⟨its',r',⟨o',e',c',n',d'⟩,_⟩:=I.tuple h'
 rw [e] at e';cases e'
 rw [c] at c'
 injection c' with c'
 exact absurd c' (by decide)
mutual
theorem Oz (I:Inv X pins σ H s):∀ {d d':Dt} {x:V},At X.K H d x -> At X.K H d' x -> d=d'
 | .at_ v,.at_ w,x,h,h'=>by unfold At at h h';rw [<- h.1,<- h'.1]
 | .at_ v,.lst l,x,h,h'=>by
  unfold At at h h'
  obtain ⟨a,xs,rfl,_⟩:=h'
  rw [<- h.1] at h
  exact absurd (show false=true from h.2) Bool.false_ne_true
 | .at_ v,.tup l,x,h,h'=>by
  unfold At at h h'
  obtain ⟨a,xs,rfl,_⟩:=h'
  rw [<- h.1] at h
  exact absurd (show false=true from h.2) Bool.false_ne_true
 | .lst l,.at_ v,x,h,h'=>by
  unfold At at h h'
  obtain ⟨a,xs,rfl,_⟩:=h
  rw [<- h'.1] at h'
  exact absurd (show false=true from h'.2) Bool.false_ne_true
 | .tup l,.at_ v,x,h,h'=>by
  unfold At at h h'
  obtain ⟨a,xs,rfl,_⟩:=h
  rw [<- h'.1] at h'
  exact absurd (show false=true from h'.2) Bool.false_ne_true
 | .lst l,.lst l',x,h,h'=>by
  unfold At at h h'
  obtain ⟨a,xs,rfl,q,h⟩:=h
  obtain ⟨a',xs',e,q',h'⟩:=h'
  cases e
  rw [I.list_inj q q'] at h
  rw [Ln I h h']
 | .tup l,.tup l',x,h,h'=>by
  unfold At at h h'
  obtain ⟨a,xs,rfl,q,h⟩:=h
  obtain ⟨a',xs',e,q',h'⟩:=h'
  cases e
  rw [I.tuple_inj q q'] at h
  rw [Ln I h h']
 | .lst l,.tup l',x,h,h'=>by
  unfold At at h h'
  obtain ⟨a,xs,rfl,q,h⟩:=h
  obtain ⟨a',xs',e,q',h'⟩:=h'
  cases e
  exact (N7 I q q').elim
 | .tup l,.lst l',x,h,h'=>by
  unfold At at h h'
  obtain ⟨a,xs,rfl,q,h⟩:=h
  obtain ⟨a',xs',e,q',h'⟩:=h'
  cases e
  exact (N7 I q' q).elim
theorem Ln (I:Inv X pins σ H s):∀ {ds ds':List Dt} {xs:List V},AtL X.K H ds xs -> AtL X.K H ds' xs -> ds=ds'
 | [],[],_,_,_=>rfl
 | [],_ :: _,_,h,h'=>by unfold AtL at h h';obtain ⟨y,ys,e,_⟩:=h';rw [h] at e;cases e
 | _ :: _,[],_,h,h'=>by unfold AtL at h h';obtain ⟨y,ys,e,_⟩:=h;rw [h'] at e;cases e
 | d :: ds,d' :: ds',xs,h,h'=>by
  unfold AtL at h h'
  obtain ⟨y,ys,rfl,h1,h2⟩:=h
  obtain ⟨y',ys',e,h1',h2'⟩:=h'
  cases e
  rw [Oz I h1 h1',Ln I h2 h2']
end
theorem Kq {A:Around} {v:V} {u:Value} {a:Addr} {its:Array Value} (f:A7 v=true) (r:RelV v u) (hl:s.heap.IsList a its) (hu:A.units < cLine):SeqAt.EqAt A s u (.ref a) false /\ SeqAt.EqAt A s (.ref a) u false:=by
 cases v with
 | non=>cases r;exact ⟨.none_list hl hu,.list_none hl hu⟩
 | bl b=>cases r;exact ⟨.bool_list b hl hu,.list_bool b hl hu⟩
 | int i=>obtain ⟨t,rfl⟩:=r;exact ⟨.int_list i t hl hu,.list_int i t hl hu⟩
 | str i=>obtain ⟨t,rfl⟩:=r;exact ⟨.str_list i t hl hu,.list_str i t hl hu⟩
 | _=>exact absurd (show false=true from f) Bool.false_ne_true
theorem Ib {A:Around} {v:V} {u:Value} {a:Addr} {its:Array Value} (f:A7 v=true) (r:RelV v u) (hl:s.heap.IsTuple a its) (hu:A.units < cLine):SeqAt.EqAt A s u (.ref a) false /\ SeqAt.EqAt A s (.ref a) u false:=by
 cases v with
 | non=>cases r;exact ⟨.none_tuple hl hu,.tuple_none hl hu⟩
 | bl b=>cases r;exact ⟨.bool_tuple b hl hu,.tuple_bool b hl hu⟩
 | int i=>obtain ⟨t,rfl⟩:=r;exact ⟨.int_tuple i t hl hu,.tuple_int i t hl hu⟩
 | str i=>obtain ⟨t,rfl⟩:=r;exact ⟨.str_tuple i t hl hu,.tuple_str i t hl hu⟩
 | _=>exact absurd (show false=true from f) Bool.false_ne_true
mutual
theorem Wc (I:Inv X pins σ H s):∀ (d d':Dt) (A:Around) (x y:V) (u v:Value),At X.K H d x -> At X.K H d' y -> RelV x u -> RelV y v -> A.units + dep d < cLine -> SeqAt.EqAt A s u v (deq d d')
 | .at_ p,.at_ q,A,x,y,u,v,h,h',r,r',hu=>by
  unfold At at h h';unfold deq
  obtain ⟨rfl,f⟩:=h
  obtain ⟨rfl,f'⟩:=h'
  exact Pi r r' f f'
 | .at_ p,.lst l,A,x,y,u,v,h,h',r,r',hu=>by
  unfold At at h h';unfold deq
  obtain ⟨rfl,f⟩:=h
  obtain ⟨a,xs,rfl,q,_⟩:=h'
  obtain ⟨its,_,pl,_⟩:=I.list q
  cases r'
  exact (Kq f r pl.isList (by omega)).1
 | .at_ p,.tup l,A,x,y,u,v,h,h',r,r',hu=>by
  unfold At at h h';unfold deq
  obtain ⟨rfl,f⟩:=h
  obtain ⟨a,xs,rfl,q,_⟩:=h'
  obtain ⟨its,_,pl,_⟩:=I.tuple q
  cases r'
  exact (Ib f r pl (by omega)).1
 | .lst l,.at_ p,A,x,y,u,v,h,h',r,r',hu=>by
  unfold At at h h';unfold deq
  obtain ⟨rfl,f⟩:=h'
  obtain ⟨a,xs,rfl,q,_⟩:=h
  obtain ⟨its,_,pl,_⟩:=I.list q
  cases r
  exact (Kq f r' pl.isList (by omega)).2
 | .tup l,.at_ p,A,x,y,u,v,h,h',r,r',hu=>by
  unfold At at h h';unfold deq
  obtain ⟨rfl,f⟩:=h'
  obtain ⟨a,xs,rfl,q,_⟩:=h
  obtain ⟨its,_,pl,_⟩:=I.tuple q
  cases r
  exact (Ib f r' pl (by omega)).2
 | .lst l,.tup l',A,x,y,u,v,h,h',r,r',hu=>by
  unfold At at h h';unfold deq
  obtain ⟨a,xs,rfl,q,_⟩:=h
  obtain ⟨b,ys,rfl,q',_⟩:=h'
  obtain ⟨its,_,pl,_⟩:=I.list q
  obtain ⟨its',_,pl',_⟩:=I.tuple q'
  cases r;cases r'
  exact .list_tuple pl.isList pl' (by omega)
 | .tup l,.lst l',A,x,y,u,v,h,h',r,r',hu=>by
  unfold At at h h';unfold deq
  obtain ⟨a,xs,rfl,q,_⟩:=h
  obtain ⟨b,ys,rfl,q',_⟩:=h'
  obtain ⟨its,_,pl,_⟩:=I.tuple q
  obtain ⟨its',_,pl',_⟩:=I.list q'
  cases r;cases r'
  exact .tuple_list pl pl'.isList (by omega)
 | .lst l,.lst l',A,x,y,u,v,h,h',r,r',hu=>by
  by_cases e:x=y
  ·subst e
   have:=Oz I h h'
   rw [<- this,C5 h]
   have hx:∃ a,x = .ref a:=by unfold At at h;obtain ⟨a,_,e,_⟩:=h;exact ⟨a,e⟩
   obtain ⟨a,rfl⟩:=hx
   cases r;cases r'
   exact .same _
  ·unfold At at h h';unfold deq
   unfold dep at hu
   obtain ⟨a,xs,rfl,q,h⟩:=h
   obtain ⟨b,ys,rfl,q',h'⟩:=h'
   obtain ⟨its,ri,pl,_⟩:=I.list q
   obtain ⟨its',ri',pl',_⟩:=I.list q'
   cases r;cases r'
   have ne:a ≠ b:=fun z=>e (by rw [z])
   have e1:=h.length
   have e2:=h'.length
   have e3:=ri.length
   have e4:=ri'.length
   refine .of_refs ne ?_
   by_cases hl:l.length=l'.length
   ·rw [Ck (.lst []) hl]
    have hsz:its.toArray.size=l.length:=by simp;omega
    rw [<- hsz]
    exact .lists pl.isList pl'.isList (by simp;omega) (by omega) fun j h1 h2=>by
     have:=Fc I l l' A.in1 xs ys its its' h h' ri ri' (by show A.units + 1 + deps l < cLine;omega) j (by simpa using h1) (by simpa using h2)
     simpa using this
   ·rw [Du hl]
    exact .lists_lengths pl.isList pl'.isList (by simp;omega) (by omega)
 | .tup l,.tup l',A,x,y,u,v,h,h',r,r',hu=>by
  by_cases e:x=y
  ·subst e
   have:=Oz I h h'
   rw [<- this,C5 h]
   have hx:∃ a,x = .ref a:=by unfold At at h;obtain ⟨a,_,e,_⟩:=h;exact ⟨a,e⟩
   obtain ⟨a,rfl⟩:=hx
   cases r;cases r'
   exact .same _
  ·unfold At at h h';unfold deq
   unfold dep at hu
   obtain ⟨a,xs,rfl,q,h⟩:=h
   obtain ⟨b,ys,rfl,q',h'⟩:=h'
   obtain ⟨its,ri,pl,_⟩:=I.tuple q
   obtain ⟨its',ri',pl',_⟩:=I.tuple q'
   cases r;cases r'
   have ne:a ≠ b:=fun z=>e (by rw [z])
   have e1:=h.length
   have e2:=h'.length
   have e3:=ri.length
   have e4:=ri'.length
   refine .of_refs ne ?_
   have T:=SeqAt.RcAt.tuples (A:=A) (s:=s) (e:=fun j=>deq (l.getD j (.lst [])) (l'.getD j (.lst []))) pl pl' (by omega) fun j h1 h2=>by
     have:=Fc I l l' A.in1 xs ys its its' h h' ri ri' (by show A.units + 1 + deps l < cLine;omega) j (by simpa using h1) (by simpa using h2)
     simpa using this
   by_cases hl:l.length=l'.length
   ·rw [Ck (.lst []) hl]
    have hsz:its.toArray.size=l.length:=by simp;omega
    have hsz':its'.toArray.size=l.length:=by simp;omega
    rw [hsz,hsz',Nat.min_self,beq_self_eq_true,Bool.and_true] at T
    exact T
   ·rw [Du hl]
    have hne:(its.toArray.size == its'.toArray.size)=false:=by
     rw [beq_eq_false_iff_ne];simp;omega
    rw [hne,Bool.and_false] at T
    exact T
theorem Fc (I:Inv X pins σ H s):∀ (ds ds':List Dt) (A:Around) (xs ys:List V) (us vs:List Value),AtL X.K H ds xs -> AtL X.K H ds' ys -> Vals xs us -> Vals ys vs -> A.units + deps ds < cLine ->
  ∀ (j:Nat) (h1:j < us.length) (h2:j < vs.length),SeqAt.EqAt A s us[j] vs[j] (deq (ds.getD j (.lst [])) (ds'.getD j (.lst [])))
 | [],_,A,xs,ys,us,vs,h,h',r,r',hu=>fun j h1 h2=>by
  unfold AtL at h
  subst h
  cases r
  cases h1
 | _ :: _,[],A,xs,ys,us,vs,h,h',r,r',hu=>fun j h1 h2=>by
  unfold AtL at h'
  subst h'
  cases r'
  cases h2
 | d :: ds,d' :: ds',A,xs,ys,us,vs,h,h',r,r',hu=>fun j h1 h2=>by
  unfold AtL at h h'
  obtain ⟨y,ys,rfl,q1,q2⟩:=h
  obtain ⟨z,zs,rfl,q1',q2'⟩:=h'
  cases r with
  | cons r1 r2=>
   cases r' with
   | cons r1' r2'=>
    unfold deps at hu
    have m1:dep d <= Nat.max (dep d) (deps ds):=Nat.le_max_left _ _
    have m2:deps ds <= Nat.max (dep d) (deps ds):=Nat.le_max_right _ _
    cases j with
    | zero=>exact Wc I d d' A _ _ _ _ q1 q1' r1 r1' (by omega)
    | succ j=>exact Fc I ds ds' A _ _ _ _ q2 q2' r2 r2' (by omega) j (by simpa using h1) (by simpa using h2)
end
theorem Eg {K:PySem.W.Frag} {d:Dt} {a:Addr} (h:At K H d (.ref a)):(∃ l xs,d = .lst l /\ SqL K H a xs /\ AtL K H l xs) \/ (∃ l xs,d = .tup l /\ SqT K H a xs /\ AtL K H l xs):=by
 cases d with
 | at_ v=>
  unfold At at h
  rw [<- h.1] at h
  exact absurd (show false=true from h.2) Bool.false_ne_true
 | lst l=>unfold At at h;obtain ⟨b,xs,e,q,h⟩:=h;cases e;exact .inl ⟨l,xs,rfl,q,h⟩
 | tup l=>unfold At at h;obtain ⟨b,xs,e,q,h⟩:=h;cases e;exact .inr ⟨l,xs,rfl,q,h⟩
theorem N4 {K:PySem.W.Frag} {d:Dt} {x:V} (h:At K H d x) (f:∀ a,x ≠ .ref a):d = .at_ x /\ A7 x=true:=by
 cases d with
 | at_ v=>unfold At at h;rw [h.1];exact ⟨rfl,h.2⟩
 | lst l=>unfold At at h;obtain ⟨b,xs,e,_⟩:=h;exact absurd e (f b)
 | tup l=>unfold At at h;obtain ⟨b,xs,e,_⟩:=h;exact absurd e (f b)
theorem rc_D (I:Inv X pins σ H s) {A:Around} {d d':Dt} {a b:Addr} (h:At X.K H d (.ref a)) (h':At X.K H d' (.ref b)) (hu:A.units + dep d < cLine):SeqAt.RcAt A s (.ref a) (.ref b) (deq d d') /\ SeqAt.RcNeAt A s (.ref a) (.ref b) (!deq d d'):=by
 rcases Eg h with ⟨l,xs,rfl,q,h⟩ | ⟨l,xs,rfl,q,h⟩
 ·rcases Eg h' with ⟨l',ys,rfl,q',h'⟩ | ⟨l',ys,rfl,q',h'⟩
  ·unfold deq
   unfold dep at hu
   obtain ⟨its,ri,pl,_⟩:=I.list q
   obtain ⟨its',ri',pl',_⟩:=I.list q'
   have e1:=h.length
   have e2:=h'.length
   have e3:=ri.length
   have e4:=ri'.length
   have it:∀ j (h1:j < its.toArray.size) (h2:j < its'.toArray.size),SeqAt.EqAt A.in1 s its.toArray[j] its'.toArray[j] (deq (l.getD j (.lst [])) (l'.getD j (.lst []))):=fun j h1 h2=>by
    have:=Fc I l l' A.in1 xs ys its its' h h' ri ri' (by show A.units + 1 + deps l < cLine;omega) j (by simpa using h1) (by simpa using h2)
    simpa using this
   by_cases hl:l.length=l'.length
   ·rw [Ck (.lst []) hl]
    have hsz:its.toArray.size=l.length:=by simp;omega
    rw [<- hsz]
    exact ⟨.lists pl.isList pl'.isList (by simp;omega) (by omega) it,.lists pl.isList pl'.isList (by simp;omega) (by omega) it⟩
   ·rw [Du hl]
    exact ⟨.lists_lengths pl.isList pl'.isList (by simp;omega) (by omega),.lists_lengths pl.isList pl'.isList (by simp;omega) (by omega)⟩
  ·unfold deq
   obtain ⟨its,ri,pl,_⟩:=I.list q
   obtain ⟨its',ri',pl',_⟩:=I.tuple q'
   exact ⟨.list_tuple pl.isList pl' (by omega),.list_tuple pl.isList pl' (by omega)⟩
 ·rcases Eg h' with ⟨l',ys,rfl,q',h'⟩ | ⟨l',ys,rfl,q',h'⟩
  ·unfold deq
   obtain ⟨its,ri,pl,_⟩:=I.tuple q
   obtain ⟨its',ri',pl',_⟩:=I.list q'
   exact ⟨.tuple_list pl pl'.isList (by omega),.tuple_list pl pl'.isList (by omega)⟩
  ·unfold deq
   unfold dep at hu
   obtain ⟨its,ri,pl,_⟩:=I.tuple q
   obtain ⟨its',ri',pl',_⟩:=I.tuple q'
   have e1:=h.length
   have e2:=h'.length
   have e3:=ri.length
   have e4:=ri'.length
   have it:∀ j (h1:j < its.toArray.size) (h2:j < its'.toArray.size),SeqAt.EqAt A.in1 s its.toArray[j] its'.toArray[j] (deq (l.getD j (.lst [])) (l'.getD j (.lst []))):=fun j h1 h2=>by
    have:=Fc I l l' A.in1 xs ys its its' h h' ri ri' (by show A.units + 1 + deps l < cLine;omega) j (by simpa using h1) (by simpa using h2)
    simpa using this
   have T:=SeqAt.RcAt.tuples pl pl' (by omega) it
   have T':=SeqAt.RcNeAt.tuples pl pl' (by omega) it
   by_cases hl:l.length=l'.length
   ·rw [Ck (.lst []) hl]
    have hsz:its.toArray.size=l.length:=by simp;omega
    have hsz':its'.toArray.size=l.length:=by simp;omega
    rw [hsz,hsz',Nat.min_self,beq_self_eq_true,Bool.and_true] at T T'
    exact ⟨T,T'⟩
   ·rw [Du hl]
    have hne:(its.toArray.size == its'.toArray.size)=false:=by
     rw [beq_eq_false_iff_ne];simp;omega
    rw [hne,Bool.and_false] at T T'
    exact ⟨T,T'⟩
theorem Rv (I:Inv X pins σ H s) {A:Around} {d:Dt} {a:Addr} {v:V} {u:Value} (h:At X.K H d (.ref a)) (f:A7 v=true) (r:RelV v u) (hu:A.units < cLine) :
  SeqAt.RcAt A s (.ref a) u false /\ SeqAt.RcNeAt A s (.ref a) u true /\ SeqAt.RcAt A s u (.ref a) false /\ SeqAt.RcNeAt A s u (.ref a) true:=by
 rcases Eg h with ⟨l,xs,rfl,q,h⟩ | ⟨l,xs,rfl,q,h⟩
 ·obtain ⟨its,ri,pl,_⟩:=I.list q
  cases v with
  | non=>cases r;exact ⟨.list_none pl.isList hu,.list_none pl.isList hu,.none_list pl.isList hu,.none_list pl.isList hu⟩
  | bl b=>cases r;exact ⟨.list_bool b pl.isList hu,.list_bool b pl.isList hu,.bool_list b pl.isList hu,.bool_list b pl.isList hu⟩
  | int b=>obtain ⟨t,rfl⟩:=r;exact ⟨.list_int b t pl.isList hu,.list_int b t pl.isList hu,.int_list b t pl.isList hu,.int_list b t pl.isList hu⟩
  | str b=>obtain ⟨t,rfl⟩:=r;exact ⟨.list_str b t pl.isList hu,.list_str b t pl.isList hu,.str_list b t pl.isList hu,.str_list b t pl.isList hu⟩
  | _=>exact absurd (show false=true from f) Bool.false_ne_true
 ·obtain ⟨its,ri,pl,_⟩:=I.tuple q
  cases v with
  | non=>cases r;exact ⟨.tuple_none pl hu,.tuple_none pl hu,.none_tuple pl hu,.none_tuple pl hu⟩
  | bl b=>cases r;exact ⟨.tuple_bool b pl hu,.tuple_bool b pl hu,.bool_tuple b pl hu,.bool_tuple b pl hu⟩
  | int b=>obtain ⟨t,rfl⟩:=r;exact ⟨.tuple_int b t pl hu,.tuple_int b t pl hu,.int_tuple b t pl hu,.int_tuple b t pl hu⟩
  | str b=>obtain ⟨t,rfl⟩:=r;exact ⟨.tuple_str b t pl hu,.tuple_str b t pl hu,.str_tuple b t pl hu,.str_tuple b t pl hu⟩
  | _=>exact absurd (show false=true from f) Bool.false_ne_true
def rEqT (K:PySem.W.Frag) (neg:Bool):R2:=fun x y H Q=>∃ d d',At K H d x /\ At K H d' y /\ dep d <= 40 /\ Q (.bl (if neg then !deq d d' else deq d d')) H
theorem X5 (I:Inv X pins σ H s) {A:Around} {d d':Dt} {x y:V} {u v:Value} (h:At X.K H d x) (h':At X.K H d' y) (r:RelV x u) (r':RelV y v) (hr:(∃ a,x = .ref a) \/ ∃ b,y = .ref b) (hu:A.units + dep d < cLine) :
  SeqAt.RcAt A s u v (deq d d') /\ SeqAt.RcNeAt A s u v (!deq d d'):=by
 by_cases hx:∃ a,x = .ref a
 ·obtain ⟨a,rfl⟩:=hx
  cases r
  by_cases hy:∃ b,y = .ref b
  ·obtain ⟨b,rfl⟩:=hy
   cases r'
   exact rc_D I h h' hu
  ·obtain ⟨rfl,f⟩:=N4 h' (fun b e=>hy ⟨b,e⟩)
   obtain ⟨q1,q2,_⟩:=Rv I h f r' (show A.units < cLine by omega)
   have e:deq d (.at_ y)=false:=by
    rcases Eg h with ⟨l,xs,rfl,_⟩ | ⟨l,xs,rfl,_⟩ <;> (unfold deq;rfl)
   rw [e]
   exact ⟨q1,q2⟩
 ·have hy:∃ b,y = .ref b:=hr.resolve_left hx
  obtain ⟨b,rfl⟩:=hy
  cases r'
  obtain ⟨rfl,f⟩:=N4 h (fun b e=>hx ⟨b,e⟩)
  obtain ⟨_,_,q1,q2⟩:=Rv I h' f r (show A.units < cLine by omega)
  have e:deq (.at_ x) d' = false:=by
   rcases Eg h' with ⟨l,xs,rfl,_⟩ | ⟨l,xs,rfl,_⟩ <;> (unfold deq;rfl)
  rw [e]
  exact ⟨q1,q2⟩
theorem P4 (hu:X.A.units + 64 < cLine) {x y:V} {u v:Value} {Q:VK} (I:Inv X pins σ H s) (rx:RelV x u) (ry:RelV y v) (hr:(∃ a,x = .ref a) \/ ∃ b,y = .ref b) (h:rEqT X.K false x y H Q):wpAny (model X.prog X.w) X.A (compareOp .Eq u v) (EP X pins σ Q) X.xe s:=by
 obtain ⟨d,d',h1,h2,hd,q⟩:=h
 exact (X5 I h1 h2 rx ry hr (A:=X.A) (by omega)).1 _ _ _ _ ⟨.bl _,H,I,rfl,q⟩
theorem Qa (hu:X.A.units + 64 < cLine) {x y:V} {u v:Value} {Q:VK} (I:Inv X pins σ H s) (rx:RelV x u) (ry:RelV y v) (hr:(∃ a,x = .ref a) \/ ∃ b,y = .ref b) (h:rEqT X.K true x y H Q):wpAny (model X.prog X.w) X.A (compareOp .NotEq u v) (EP X pins σ Q) X.xe s:=by
 obtain ⟨d,d',h1,h2,hd,q⟩:=h
 exact (X5 I h1 h2 rx ry hr (A:=X.A) (by omega)).2 _ _ _ _ ⟨.bl _,H,I,rfl,q⟩
end
open AutoSeq1 (wpAny_loadPart')
open MeetsSeq MeetsSeq2 MeetsSeq3 SeqRoads2
def EqIn (P:Program) (w:World) (A:Around) (s:Shared) (y x:Value) (b:Bool):Prop:=∀ (E:Value -> Shared -> Prop) (Q:Bool -> Shared -> Prop),Q b s -> wpAny (model P w) A (eqBool y x) Q E s
section
variable {P:Program} {w:World} {l b:Addr} {items items2:Array Value} {n n2:Nat} {dd dd2:Option Addr} {sl sl2:Array (Option Value)}
abbrev twoL (l b:Addr) (items items2:Array Value) (n n2:Nat) (dd dd2:Option Addr) (sl sl2:Array (Option Value)) (P:Program) (w:World) (r:Bool):PySem.Spec:=fun A R s=>
 s.heap.get? l=some { cls:=.type "list", dict:=dd,data:=.seq items n,slots:=sl } /\ s.heap.get? b=some { cls:=.type "list", dict:=dd2,data:=.seq items2 n2,slots:=sl2 } /\
    (∀ j (h1:j < items.size) (h2:j < items2.size),EqIn P w A.in1 s items[j] items2[j] true) /\ R (.ok (.ret (.bool r))) s
theorem Tm (hsz:items.size=items2.size) (k:Nat):∀ i:Nat,items.size - i=k -> MeetsIn P w (Builtin.«list.__eq__.loop» ⟨[.ref l,.ref b,rawInt i,rawInt 2],[]⟩) (twoL l b items items2 n n2 dd dd2 sl sl2 P w true):=by
 induction k with
 | zero=>
  intro i hk A R s h
  obtain ⟨hp,g,d,tk,os⟩:=s;obtain ⟨hl,hb,he,h⟩:=h
  wp_walk using wpAny_loadPart' hl,wpAny_loadPart' hb
  have hi1:items[((i:Nat):Int).toNat]? = none:=by simp;omega
  have hi2:items2[((i:Nat):Int).toNat]? = none:=by simp;omega
  rw [hi1,hi2]
  wp_walk using wpAny_loadPart' hl,wpAny_loadPart' hb
  show R (.ok (.ret (.bool (items.size == items2.size)))) _
  rw [hsz]
  simpa using h
 | succ k ih=>
  intro i hk A R s h
  obtain ⟨hp,g,d,tk,os⟩:=s;obtain ⟨hl,hb,he,h⟩:=h
  wp_walk using wpAny_loadPart' hl,wpAny_loadPart' hb
  have hlt:i < items.size:=by omega
  have hlt2:i < items2.size:=by omega
  have hi1:items[((i:Nat):Int).toNat]? = some items[i]:=by simp [hlt]
  have hi2:items2[((i:Nat):Int).toNat]? = some items2[i]:=by simp [hlt2]
  have hc:((i:Int) + 1)=((i + 1:Nat):Int):=by push_cast;rfl
  rw [hi1,hi2]
  refine wpAny_bind (he i hlt hlt2 _ _ ?_)
  wp_walk
  rw [hc]
  exact ⟨plainId_quiet plain_eq_loop _,codeAny_builtin entry_eq_loop (by
   rw [Around.under_plainId plain_eq_loop _]
   exact ih (i + 1) (by omega) A R _ ⟨hl,hb,he,h⟩)⟩
theorem Ui (hsz:items.size=items2.size) (k:Nat):∀ i:Nat,items.size - i=k -> MeetsIn P w (Builtin.«list.__eq__.loop» ⟨[.ref l,.ref b,rawInt i,rawInt 3],[]⟩) (twoL l b items items2 n n2 dd dd2 sl sl2 P w false):=by
 induction k with
 | zero=>
  intro i hk A R s h
  obtain ⟨hp,g,d,tk,os⟩:=s;obtain ⟨hl,hb,he,h⟩:=h
  wp_walk using wpAny_loadPart' hl,wpAny_loadPart' hb
  have hi1:items[((i:Nat):Int).toNat]? = none:=by simp;omega
  have hi2:items2[((i:Nat):Int).toNat]? = none:=by simp;omega
  rw [hi1,hi2]
  wp_walk using wpAny_loadPart' hl,wpAny_loadPart' hb
  show R (.ok (.ret (.bool (items.size != items2.size)))) _
  rw [hsz]
  simpa using h
 | succ k ih=>
  intro i hk A R s h
  obtain ⟨hp,g,d,tk,os⟩:=s;obtain ⟨hl,hb,he,h⟩:=h
  wp_walk using wpAny_loadPart' hl,wpAny_loadPart' hb
  have hlt:i < items.size:=by omega
  have hlt2:i < items2.size:=by omega
  have hi1:items[((i:Nat):Int).toNat]? = some items[i]:=by simp [hlt]
  have hi2:items2[((i:Nat):Int).toNat]? = some items2[i]:=by simp [hlt2]
  have hc:((i:Int) + 1)=((i + 1:Nat):Int):=by push_cast;rfl
  rw [hi1,hi2]
  refine wpAny_bind (he i hlt hlt2 _ _ ?_)
  wp_walk
  rw [hc]
  exact ⟨plainId_quiet plain_eq_loop _,codeAny_builtin entry_eq_loop (by
   rw [Around.under_plainId plain_eq_loop _]
   exact ih (i + 1) (by omega) A R _ ⟨hl,hb,he,h⟩)⟩
theorem Tz (hsz:items.size=items2.size):MeetsIn P w (Builtin.«list.__eq__» ⟨[.ref l,.ref b],[]⟩) (twoL l b items items2 n n2 dd dd2 sl sl2 P w true):=by
 intro A R s h
 obtain ⟨hp,g,d,tk,os⟩:=s;obtain ⟨hl,hb,he,h⟩:=h
 have f3:=AutoSeq1.sub_list_list
 have hne:¬ (items.size != items2.size)=true:=by simp [hsz]
 wp_walk using wpAny_loadPart' hl,wpAny_loadPart' hb
 exact ⟨plainId_quiet plain_eq_loop _,codeAny_builtin entry_eq_loop (by
  rw [Around.under_plainId plain_eq_loop _]
  exact Tm hsz _ 0 rfl A R _ ⟨hl,hb,he,h⟩)⟩
theorem Ua (hsz:items.size=items2.size):MeetsIn P w (Builtin.«list.__ne__» ⟨[.ref l,.ref b],[]⟩) (twoL l b items items2 n n2 dd dd2 sl sl2 P w false):=by
 intro A R s h
 obtain ⟨hp,g,d,tk,os⟩:=s;obtain ⟨hl,hb,he,h⟩:=h
 have f3:=AutoSeq1.sub_list_list
 have hne:¬ (items.size != items2.size)=true:=by simp [hsz]
 wp_walk using wpAny_loadPart' hl,wpAny_loadPart' hb
 exact ⟨plainId_quiet plain_eq_loop _,codeAny_builtin entry_eq_loop (by
  rw [Around.under_plainId plain_eq_loop _]
  exact Ui hsz _ 0 rfl A R _ ⟨hl,hb,he,h⟩)⟩
theorem Nx {A:Around} {E:Value -> Shared -> Prop} {s:Shared} {Q:Value -> Shared -> Prop} (hl:s.heap.IsList l items) (hb:s.heap.IsList b items2) (hsz:items.size=items2.size) (hu:A.units < cLine) (he:∀ j (h1:j < items.size) (h2:j < items2.size),EqIn P w A.in1 s items[j] items2[j] true) :
  (Q (.bool true) s -> wpAny (model P w) A (compareOp .Eq (.ref l) (.ref b)) Q E s) /\ (Q (.bool false) s -> wpAny (model P w) A (compareOp .NotEq (.ref l) (.ref b)) Q E s):=by
 obtain ⟨⟨cls,dd,data,sl⟩,ho,hc,n,hd⟩:=id hl
 obtain ⟨⟨cls2,dd2,data2,sl2⟩,ho2,hc2,n2,hd2⟩:=id hb
 simp only at hc hd hc2 hd2
 subst hc hd hc2 hd2
 have t1:s.TypeIs (.ref l) "list" := ⟨_,ho,rfl⟩
 have t2:s.TypeIs (.ref b) "list" := ⟨_,ho2,rfl⟩
 refine ⟨fun h=>?_,fun h=>?_⟩
 ·exact wpAny_richCompare_same_room (op:=.Eq) t1 t2 F.slot_list_eq (call_meetsIn F.slot_list_eq t1 F.entry_list_eq (F.args_list_eq_2 _ _) (Tz (n:=n) (n2:=n2) (dd:=dd) (dd2:=dd2) (sl:=sl) (sl2:=sl2) hsz) ⟨ho,ho2,he,show Value.bool true ≠ Value.notImplemented /\ Q (.bool true) s from ⟨(fun x=>nomatch x),h⟩⟩) hu
 ·exact wpAny_richCompare_same_room (op:=.NotEq) t1 t2 F.slot_list_ne (call_meetsIn F.slot_list_ne t1 F.entry_list_ne (F.args_list_ne_2 _ _) (Ua (n:=n) (n2:=n2) (dd:=dd) (dd2:=dd2) (sl:=sl) (sl2:=sl2) hsz) ⟨ho,ho2,he,show Value.bool false ≠ Value.notImplemented /\ Q (.bool false) s from ⟨(fun x=>nomatch x),h⟩⟩) hu
end
def Kb (K:PySem.W.Frag) (H:Hp) (a b:Addr):Prop:=∃ (kvs kvs':List (Key × V)) (ds:List Dt),Rd H a (.dK kvs) /\ Rd H b (.dK kvs') /\ kvs.map (·.1)=kvs'.map (·.1) /\ AtL K H ds (kvs.map (·.2)) /\ AtL K H ds (kvs'.map (·.2)) /\ deps ds <= 40
def rEqC (K:PySem.W.Frag) (neg:Bool):R2:=fun x y H Q=>match x,y with
 | .ref a,.ref b=>(Kb K H a b /\ Q (.bl (!neg)) H) \/ (∃ kvs,Rd H a (.dK kvs) /\ Rd H b (.dK []) /\ Q (.bl (if neg then !kvs.isEmpty else kvs.isEmpty)) H) \/
   (∃ xs ys,SqL K H a xs /\ SqL K H b ys /\ xs.length=ys.length /\ (∀ (i:Nat) x y,xs[i]? = some x -> ys[i]? = some y -> ∃ a b,x = .ref a /\ y = .ref b /\ Kb K H a b) /\ Q (.bl (!neg)) H)
 | _,_=>False
theorem Ll {K:PySem.W.Frag} {H:Hp}:∀ {ds:List Dt} {xs:List V} {i:Nat} {x:V},AtL K H ds xs -> xs[i]? = some x -> ∃ d,ds[i]? = some d /\ At K H d x
 | [],xs,i,x,h,e=>by unfold AtL at h;subst h;simp at e
 | d :: ds,xs,0,x,h,e=>by
  unfold AtL at h
  obtain ⟨y,ys,rfl,h1,_⟩:=h
  simp at e
  subst e
  exact ⟨d,rfl,h1⟩
 | d :: ds,xs,i + 1,x,h,e=>by
  unfold AtL at h
  obtain ⟨y,ys,rfl,_,h2⟩:=h
  obtain ⟨d',e1,e2⟩:=Ll h2 (by simpa using e)
  exact ⟨d',by simpa using e1,e2⟩
theorem Nl:∀ {ds:List Dt} {i:Nat} {d:Dt},ds[i]? = some d -> dep d <= deps ds
 | [],_,_,h=>by simp at h
 | x :: ds,0,d,h=>by
  simp at h
  subst h
  exact Nat.le_max_left _ _
 | x :: ds,i + 1,d,h=>Nat.le_trans (Nl (ds:=ds) (i:=i) (by simpa using h)) (Nat.le_max_right _ _)
theorem Nr {A:Around} {s:Shared} {kb:List (Key × Value)}:∀ {l:List (Key × Value)},(∀ p ∈ l,∃ y,valueAt kb p.1=some y /\ SeqAt.EqAt A s p.2 y true) -> PySem.W.KeqHits A s kb l true
 | [],_=>.nil
 | (k,v) :: l,h=>by
  obtain ⟨y,h1,h2⟩:=h (k,v) List.mem_cons_self
  exact .hit (e:=true) (b:=true) h1 h2 (Nr fun p hp=>h p (List.mem_cons_of_mem _ hp))
theorem Yt {κ:Type} [DecidableEq κ]:∀ {kvs:List (κ × V)} {i:Nat} {k:κ} {v:V},(kvs.map (·.1)).Nodup -> kvs[i]? = some (k,v) -> valV kvs k=some v
 | [],i,k,v,_,h=>by simp at h
 | p :: r,0,k,v,_,h=>by
  simp at h
  subst h
  exact Eb rfl
 | p :: r,i + 1,k,v,nd,h=>by
  rw [List.map_cons,List.nodup_cons] at nd
  have h:r[i]? = some (k,v):=by simpa using h
  rw [Db (fun e=>nd.1 (by rw [e];exact List.mem_map.mpr ⟨_,List.mem_of_getElem? h,rfl⟩))]
  exact Yt nd.2 h
section
variable {X:Cx} {pins:List (Addr × Obj)} {σ:St} {H:Hp} {s:Shared}
theorem Rh:∀ {kvs:List (Key × V)} {vs:List (Key × Value)} {i:Nat} {k:Key} {u:Value},KV kvs vs -> vs[i]? = some (k,u) -> ∃ v,kvs[i]? = some (k,v) /\ RelV v u
 | _,_,0,k,u,.cons (a:=p) r _,e=>by
  simp only [List.getElem?_cons_zero,Option.some.injEq] at e
  subst e
  exact ⟨p.2,congrArg some (Prod.ext r.1 rfl),r.2⟩
 | _,_,i + 1,k,u,.cons r t,e=>by
  simp only [List.getElem?_cons_succ] at e ⊢
  exact Rh t e
theorem Gf {A:Around} {a b:Addr} (I:Inv X pins σ H s) (h:Kb X.K H a b) (hu:A.units + 40 < cLine):∃ ka kb,(a == sysModules)=false /\ (b == sysModules)=false /\ s.heap.DictOf (Ao X.prog X.w) a ka /\ s.heap.DictOf (Ao X.prog X.w) b kb /\ ka.length=kb.length /\ PySem.W.KeqHits A s kb ka true:=by
 obtain ⟨kvs,kvs',ds,h1,h2,hk,t1,t2,hd⟩:=h
 obtain ⟨_,z1,ka,r1,d1⟩:=Cp I.hok h1
 obtain ⟨_,z2,kb,r2,d2⟩:=Cp I.hok h2
 have nd:(kvs'.map (·.1)).Nodup:=by
  rw [r2.keys]
  obtain ⟨_,_,_,_,_,_,_,_,nd⟩:=id d2
  exact nd
 have len:kvs.length=kvs'.length:=by have:=congrArg List.length hk;simpa using this
 refine ⟨ka,kb,z1,z2,d1,d2,by rw [<- r1.length,<- r2.length,len],Nr fun p hp=>?_⟩
 obtain ⟨i,hi⟩:=List.mem_iff_getElem?.mp hp
 obtain ⟨k,u⟩:=p
 obtain ⟨x,hx,rx⟩:=Rh r1 hi
 have hi':i < kvs'.length:=by rw [<- len];exact (List.getElem?_eq_some_iff.mp hx).1
 obtain ⟨⟨k',x'⟩,hx'⟩:∃ q,kvs'[i]? = some q:=⟨_,List.getElem?_eq_getElem hi'⟩
 have ek:k' = k:=by
  have e1:(kvs.map (·.1))[i]? = some k:=by rw [List.getElem?_map,hx];rfl
  have e2:(kvs'.map (·.1))[i]? = some k':=by rw [List.getElem?_map,hx'];rfl
  rw [hk,e2] at e1
  exact Option.some.inj e1
 subst ek
 have hv:=r2.val k'
 rw [Yt nd hx'] at hv
 obtain ⟨y,hy,ry⟩:∃ y,valueAt kb k' = some y /\ RelV x' y:=by
  cases e:valueAt kb k' with
  | none=>rw [e] at hv;cases hv
  | some y=>rw [e] at hv;exact ⟨y,rfl,hv⟩
 obtain ⟨d,hd1,a1⟩:=Ll t1 (i:=i) (x:=x) (by rw [List.getElem?_map,hx];rfl)
 obtain ⟨d',hd2,a2⟩:=Ll t2 (i:=i) (x:=x') (by rw [List.getElem?_map,hx'];rfl)
 rw [hd1] at hd2
 cases hd2
 have dl:=Nl hd1
 refine ⟨y,hy,?_⟩
 have:=Wc I d d A x x' u y a1 a2 rx ry (by omega)
 rwa [C5 a1] at this
theorem Ry {A:Around} {a b:Addr} (I:Inv X pins σ H s) (h:Kb X.K H a b) (hu:A.units + 41 < cLine):EqIn X.prog X.w A s (.ref a) (.ref b) true:=by
 intro E Q hq
 by_cases e:a=b
 ·subst e
  exact SeqAt.EqAt.same _ _ _ _ _ hq
 ·obtain ⟨ka,kb,z1,z2,d1,d2,len,hits⟩:=Gf (A:=A.in1) I h (by show A.units + 1 + 40 < cLine;omega)
  unfold eqBool
  refine wpAny_holding ?_
  refine wpAny_ite_split (fun hab=>absurd (by have:=eq_of_beq hab;injection this) e) (fun _=>?_)
  refine wpAny_bind (PySem.W.keq_eq z1 z2 d1 d2 (by omega) (fun _=>hits) ?_)
  rw [len,beq_self_eq_true]
  exact wpAny_truthy_bool hq
theorem am3 (hu:X.A.units + 64 < cLine) {x y:V} {u v:Value} {Q:VK} (I:Inv X pins σ H s) (rx:RelV x u) (ry:RelV y v) (h:rEqC X.K false x y H Q):wpAny (model X.prog X.w) X.A (compareOp .Eq u v) (EP X pins σ Q) X.xe s:=by
 cases x <;> cases y <;> first | exact (show False from h).elim | skip
 cases rx;cases ry
 rcases h with ⟨h,q⟩ | ⟨kvs,h1,h2,q⟩ | ⟨xs,ys,h1,h2,len,h3,q⟩
 ·obtain ⟨ka,kb,z1,z2,d1,d2,len,hits⟩:=Gf (A:=X.A.in1) I h (by show X.A.units + 1 + 40 < cLine;omega)
  refine PySem.W.keq_eq z1 z2 d1 d2 (by omega) (fun _=>hits) ?_
  rw [len,beq_self_eq_true]
  exact ⟨.bl true,H,I,rfl,q⟩
 ·obtain ⟨_,z1,ka,r1,d1⟩:=Cp I.hok h1
  obtain ⟨_,z2,kb,r2,d2⟩:=Cp I.hok h2
  cases r2
  refine PySem.W.keq_eq (r:=true) z1 z2 d1 d2 (by omega) (fun e=>?_) ?_
  ·rw [List.length_eq_zero_iff.mp e];exact .nil
  ·have e:(ka.length == ([]:List (Key × Value)).length && true)=kvs.isEmpty:=by
    rw [Bool.and_true,<- r1.length]
    cases kvs <;> rfl
   rw [e]
   exact ⟨.bl _,H,I,rfl,q⟩
 ·obtain ⟨its,ri,pl,_⟩:=I.list h1
  obtain ⟨its',ri',pl',_⟩:=I.list h2
  have e3:=ri.length
  have e4:=ri'.length
  refine (Nx pl.isList pl'.isList (by simp;omega) (by omega) fun j j1 j2=>?_).1 ⟨.bl true,H,I,rfl,q⟩
  have j1:j < its.length:=by simpa using j1
  have j2:j < its'.length:=by simpa using j2
  have jx:j < xs.length:=by omega
  have jy:j < ys.length:=by omega
  obtain ⟨a,b,ea,eb,sd⟩:=h3 j _ _ (List.getElem?_eq_getElem jx) (List.getElem?_eq_getElem jy)
  obtain ⟨u1,g1,r1⟩:=ri.get (List.getElem?_eq_getElem jx)
  obtain ⟨u2,g2,r2⟩:=ri'.get (List.getElem?_eq_getElem jy)
  rw [ea] at r1
  rw [eb] at r2
  have f1:its[j] = .ref a:=by rw [List.getElem?_eq_getElem j1] at g1;exact (Option.some.inj g1).trans r1
  have f2:its'[j] = .ref b:=by rw [List.getElem?_eq_getElem j2] at g2;exact (Option.some.inj g2).trans r2
  simp only [List.getElem_toArray]
  rw [f1,f2]
  exact Ry I sd (by show X.A.units + 1 + 41 < cLine;omega)
theorem am8 (hu:X.A.units + 64 < cLine) {x y:V} {u v:Value} {Q:VK} (I:Inv X pins σ H s) (rx:RelV x u) (ry:RelV y v) (h:rEqC X.K true x y H Q):wpAny (model X.prog X.w) X.A (compareOp .NotEq u v) (EP X pins σ Q) X.xe s:=by
 cases x <;> cases y <;> first | exact (show False from h).elim | skip
 cases rx;cases ry
 rcases h with ⟨h,q⟩ | ⟨kvs,h1,h2,q⟩ | ⟨xs,ys,h1,h2,len,h3,q⟩
 ·obtain ⟨ka,kb,z1,z2,d1,d2,len,hits⟩:=Gf (A:=X.A.in1) I h (by show X.A.units + 1 + 40 < cLine;omega)
  refine PySem.W.keq_ne z1 z2 d1 d2 (by omega) (fun _=>hits) ?_
  rw [len,beq_self_eq_true]
  exact ⟨.bl false,H,I,rfl,q⟩
 ·obtain ⟨_,z1,ka,r1,d1⟩:=Cp I.hok h1
  obtain ⟨_,z2,kb,r2,d2⟩:=Cp I.hok h2
  cases r2
  refine PySem.W.keq_ne (r:=true) z1 z2 d1 d2 (by omega) (fun e=>?_) ?_
  ·rw [List.length_eq_zero_iff.mp e];exact .nil
  ·have e:(!(ka.length == ([]:List (Key × Value)).length && true)) = !kvs.isEmpty:=by
    rw [Bool.and_true,<- r1.length]
    cases kvs <;> rfl
   rw [e]
   exact ⟨.bl _,H,I,rfl,q⟩
 ·obtain ⟨its,ri,pl,_⟩:=I.list h1
  obtain ⟨its',ri',pl',_⟩:=I.list h2
  have e3:=ri.length
  have e4:=ri'.length
  refine (Nx pl.isList pl'.isList (by simp;omega) (by omega) fun j j1 j2=>?_).2 ⟨.bl false,H,I,rfl,q⟩
  have j1:j < its.length:=by simpa using j1
  have j2:j < its'.length:=by simpa using j2
  have jx:j < xs.length:=by omega
  have jy:j < ys.length:=by omega
  obtain ⟨a,b,ea,eb,sd⟩:=h3 j _ _ (List.getElem?_eq_getElem jx) (List.getElem?_eq_getElem jy)
  obtain ⟨u1,g1,r1⟩:=ri.get (List.getElem?_eq_getElem jx)
  obtain ⟨u2,g2,r2⟩:=ri'.get (List.getElem?_eq_getElem jy)
  rw [ea] at r1
  rw [eb] at r2
  have f1:its[j] = .ref a:=by rw [List.getElem?_eq_getElem j1] at g1;exact (Option.some.inj g1).trans r1
  have f2:its'[j] = .ref b:=by rw [List.getElem?_eq_getElem j2] at g2;exact (Option.some.inj g2).trans r2
  simp only [List.getElem_toArray]
  rw [f1,f2]
  exact Ry I sd (by show X.A.units + 1 + 41 < cLine;omega)
end
end L2
namespace L2
open PySem PySem.Spec PyProof.Rows
def rNo:R2:=fun _ _ _ _=>False
def Aq (K:PySem.W.Frag):R2:=fun x y H Q=>match x,y with
 | .int i,.int j=>Q (.int (i + j)) H
 | .str a,.str b=>a.length + b.length <= sizeLine /\ Q (.str (a ++ b)) H
 | .ref a,.ref b=>rCat (.ref a) (.ref b) H Q \/ ag0 K (.ref a) (.ref b) H Q \/ af9 K (.ref a) (.ref b) H Q
 | _,_=>False
def ag3:R2:=fun x y H Q=>match x,y with
 | .int i,.int j=>Q (.int (i - j)) H
 | _,_=>False
def Br:R2:=fun x y H Q=>match x,y with
 | .int i,.int j=>CMul i j /\ Q (.int (i * j)) H
 | _,_=>False
def C2:R2:=fun x y H Q=>match x,y with
 | .int i,.int j=>CDiv i j /\ Q (.int (i / j)) H
 | _,_=>False
def A8:R2:=fun x y H Q=>match x,y with
 | .int i,.int j=>0 < j /\ Q (.int (i % j)) H
 | _,_=>False
def a39:R2:=fun x y H Q=>match x,y with
 | _,_=>False
def Oi:R2:=fun x y H Q=>match x,y with
 | .int i,.int j=>CPow i j /\ Q (.int (i * 2 ^ j.toNat)) H
 | _,_=>False
def Ru:R2:=fun x y H Q=>match x,y with
 | .int i,.int j=>0 <= j /\ Q (.int (i / 2 ^ j.toNat)) H
 | _,_=>False
def Gr:R2:=fun x y H Q=>match x,y with
 | .int i,.int j=>Q (.int (Builtin.bitAnd i j)) H
 | _,_=>False
def rOrD:R2:=fun x y H Q=>match x,y with
 | .int i,.int j=>Q (.int (Builtin.bitOr i j)) H
 | _,_=>False
def a41:R2:=fun x y H Q=>match x,y with
 | _,_=>False
def rOp (K:PySem.W.Frag):Operator -> R2
 | .Add=>Aq K
 | .Sub=>ag3
 | .Mult=>Br
 | .FloorDiv=>C2
 | .Mod=>A8
 | .Pow=>a39
 | .LShift=>Oi
 | .RShift=>Ru
 | .BitAnd=>Gr
 | .BitOr=>rOrD
 | .BitXor=>a41
 | _=>rNo
section
variable {X:Cx}
theorem op_D (op:Operator):OpR X (binaryOp op) (rOp X.K op):=by
 intro pins s σ H x y v u Q I rx ry h
 cases op with
 | Add=>
  cases x <;> cases y <;> first
   | exact (show False from h).elim
   | exact am1 pins s σ H _ _ v u Q I rx ry ⟨_,_,rfl,rfl,h⟩
   | exact P3 pins s σ H _ _ v u Q I rx ry ⟨_,_,rfl,rfl,h⟩
   | exact (op_cat.or (op_catT.or Zu)) pins s σ H _ _ v u Q I rx ry h
 | Sub=>cases x <;> cases y <;> first | exact (show False from h).elim | exact an2 pins s σ H _ _ v u Q I rx ry ⟨_,_,rfl,rfl,h⟩
 | Mult=>cases x <;> cases y <;> first | exact (show False from h).elim | exact am7 pins s σ H _ _ v u Q I rx ry ⟨_,_,rfl,rfl,h⟩
 | FloorDiv=>cases x <;> cases y <;> first | exact (show False from h).elim | exact Zv pins s σ H _ _ v u Q I rx ry ⟨_,_,rfl,rfl,h⟩
 | Mod=>cases x <;> cases y <;> first | exact (show False from h).elim | exact am6 pins s σ H _ _ v u Q I rx ry ⟨_,_,rfl,rfl,h⟩
 | Pow=>exact (show False from h).elim
 | LShift=>cases x <;> cases y <;> first | exact (show False from h).elim | exact an0 pins s σ H _ _ v u Q I rx ry ⟨_,_,rfl,rfl,h⟩
 | RShift=>cases x <;> cases y <;> first | exact (show False from h).elim | exact an1 pins s σ H _ _ v u Q I rx ry ⟨_,_,rfl,rfl,h⟩
 | BitAnd=>cases x <;> cases y <;> first | exact (show False from h).elim | exact am2 pins s σ H _ _ v u Q I rx ry ⟨_,_,rfl,rfl,h⟩
 | BitOr=>cases x <;> cases y <;> first | exact (show False from h).elim | exact a25 pins s σ H _ _ v u Q I rx ry ⟨_,_,rfl,rfl,h⟩
 | BitXor=>exact (show False from h).elim
 | _=>exact (show False from h).elim
end
def rEqD (K:PySem.W.Frag) (neg:Bool):R2:=fun x y H Q=>match x,y with
 | .ref a,.ref b=>rEqL K neg (.ref a) (.ref b) H Q \/ rEqT K neg (.ref a) (.ref b) H Q \/ rEqC K neg (.ref a) (.ref b) H Q
 | .ref a,y=>rEqT K neg (.ref a) y H Q
 | x,.ref b=>rEqT K neg x (.ref b) H Q
 | .int i,.int j=>Q (.bl (if neg then !decide (i=j) else decide (i=j))) H
 | .str i,.str j=>Q (.bl (if neg then !decide (i=j) else decide (i=j))) H
 | .bl i,.bl j=>Q (.bl (if neg then !(i == j) else (i == j))) H
 | x,y=>scal x y=true /\ Q (.bl (if neg then !decide (x=y) else decide (x=y))) H
def rLtD:R2:=fun x y H Q=>match x,y with
 | .int i,.int j=>Q (.bl (decide (i < j))) H
 | .str i,.str j=>Q (.bl (decide (i.cps.toList < j.cps.toList))) H
 | _,_=>False
def rLeD:R2:=fun x y H Q=>match x,y with
 | .int i,.int j=>Q (.bl (decide (i <= j))) H
 | .str i,.str j=>Q (.bl (!decide (j.cps.toList < i.cps.toList))) H
 | _,_=>False
def rGtD:R2:=fun x y H Q=>match x,y with
 | .int i,.int j=>Q (.bl (decide (j < i))) H
 | _,_=>False
def rGeD:R2:=fun x y H Q=>match x,y with
 | .int i,.int j=>Q (.bl (decide (j <= i))) H
 | _,_=>False
def rInD (K:PySem.W.Frag) (neg:Bool):R2:=fun x y H Q=>match x,y with
 | x,.ref p=>rIn K neg x (.ref p) H Q \/ ∃ o,DGet H p x o /\ Q (.bl (if neg then !o.isSome else o.isSome)) H
 | _,_=>False
def rIsD (neg:Bool):R2:=fun x y H Q=>match y with
 | .non=>Q (.bl (if neg then !decide (x = .non) else decide (x = .non))) H
 | .bl d=>(match x with
  | .bl c=>Q (.bl (if neg then !(c == d) else (c == d))) H
  | _=>False)
 | _=>False
def rCmp (K:PySem.W.Frag):CmpOp -> R2
 | .Eq=>rEqD K false
 | .NotEq=>rEqD K true
 | .Lt=>rLtD
 | .LtE=>rLeD
 | .Gt=>rGtD
 | .GtE=>rGeD
 | .In=>rInD K false
 | .NotIn=>rInD K true
 | .Is=>rIsD false
 | .IsNot=>rIsD true
section
variable {X:Cx}
theorem Kl (hu:X.A.units + 64 < cLine) (op:CmpOp):OpR X (compareOp op) (rCmp X.K op):=by
  intro pins s σ H x y v u Q I rx ry h
  cases op with
  | Eq=>
    cases x <;> cases y <;> first
      | (rcases h with h | h | h
         . exact am4 (by omega) pins s σ H _ _ v u Q I rx ry h
         . exact P4 hu I rx ry (.inl ⟨_,rfl⟩) h
         . exact am3 hu I rx ry h)
      | exact P4 hu I rx ry (.inl ⟨_,rfl⟩) h
      | exact P4 hu I rx ry (.inr ⟨_,rfl⟩) h
      | exact Rl pins s σ H _ _ v u Q I rx ry h
      | exact Rl pins s σ H _ _ v u Q I rx ry ⟨rfl,by rw [G7,Bool.beq_eq_decide_eq];exact h⟩
      | exact Rl pins s σ H _ _ v u Q I rx ry ⟨rfl,by rw [G8,Bool.beq_eq_decide_eq];exact h⟩
      | exact Rl pins s σ H _ _ v u Q I rx ry ⟨rfl,by rw [Lx];exact h⟩
  | NotEq=>
    cases x <;> cases y <;> first
      | (rcases h with h | h | h
         . exact am9 (by omega) pins s σ H _ _ v u Q I rx ry h
         . exact Qa hu I rx ry (.inl ⟨_,rfl⟩) h
         . exact am8 hu I rx ry h)
      | exact Qa hu I rx ry (.inl ⟨_,rfl⟩) h
      | exact Qa hu I rx ry (.inr ⟨_,rfl⟩) h
      | exact Rm pins s σ H _ _ v u Q I rx ry h
      | exact Rm pins s σ H _ _ v u Q I rx ry ⟨rfl,by rw [G7,Bool.beq_eq_decide_eq];exact h⟩
      | exact Rm pins s σ H _ _ v u Q I rx ry ⟨rfl,by rw [G8,Bool.beq_eq_decide_eq];exact h⟩
      | exact Rm pins s σ H _ _ v u Q I rx ry ⟨rfl,by rw [Lx];exact h⟩
  | Lt=>cases x <;> cases y <;> first | exact (show False from h).elim | exact a24 pins s σ H _ _ v u Q I rx ry ⟨_,_,rfl,rfl,h⟩ | exact Uq pins s σ H _ _ v u Q I rx ry ⟨_,_,rfl,rfl,h⟩
  | LtE=>cases x <;> cases y <;> first | exact (show False from h).elim | exact a23 pins s σ H _ _ v u Q I rx ry ⟨_,_,rfl,rfl,h⟩ | exact Up pins s σ H _ _ v u Q I rx ry ⟨_,_,rfl,rfl,h⟩
  | Gt=>cases x <;> cases y <;> first | exact (show False from h).elim | exact a22 pins s σ H _ _ v u Q I rx ry ⟨_,_,rfl,rfl,h⟩
  | GtE=>cases x <;> cases y <;> first | exact (show False from h).elim | exact a21 pins s σ H _ _ v u Q I rx ry ⟨_,_,rfl,rfl,h⟩
  | In=>cases x <;> cases y <;> first | exact (show False from h).elim | exact h.elim (Uo pins s σ H _ _ v u Q I rx ry) fun ⟨o,g,q⟩=>by cases ry;exact d_in (by omega) I g rx fun s' I'=>⟨.bl _,H,I',rfl,q⟩
  | NotIn=>cases x <;> cases y <;> first | exact (show False from h).elim | exact h.elim (Me pins s σ H _ _ v u Q I rx ry) fun ⟨o,g,q⟩=>by cases ry;exact Y8 (by omega) I g rx fun s' I'=>⟨.bl _,H,I',rfl,q⟩
  | Is=>cases y <;> first | exact (show False from h).elim | exact am5 pins s σ H _ _ v u Q I rx ry ⟨rfl,h⟩ | (cases x <;> first | exact (show False from h).elim | (cases rx;cases ry;exact is_bool ⟨.bl _,H,I,rfl,h⟩))
  | IsNot=>cases y <;> first | exact (show False from h).elim | exact Zw pins s σ H _ _ v u Q I rx ry ⟨rfl,h⟩ | (cases x <;> first | exact (show False from h).elim | (cases rx;cases ry;exact isnot_bool ⟨.bl _,H,I,rfl,h⟩))
end
def Fl:V -> Hp -> VK -> Prop:=fun x H Q=>match x with
 | .int i=>Q (.int (-i)) H
 | _=>False
theorem un_D {X:Cx}:UnR X (unaryOp .USub) Fl:=by
 intro pins s σ H x v Q I rx h
 cases x <;> first | exact (show False from h).elim | exact aw1 pins s σ H _ v Q I rx ⟨_,rfl,h⟩
def Rs:V -> Hp -> VK -> Prop:=fun x H Q=>match x with
 | .int i=>Q (.int (Builtin.bitNot i)) H
 | _=>False
theorem az0 {X:Cx}:UnR X (unaryOp .Invert) Rs:=by
 intro pins s σ H x v Q I rx h
 cases x <;> first | exact (show False from h).elim | exact aw0 pins s σ H _ v Q I rx ⟨_,rfl,h⟩
theorem Sf {X:Cx}:TruR X (truD X.K):=by
 intro pins s σ H x v Q I rx h
 cases x with
 | non=>exact Jy pins s σ H _ v Q I rx ⟨_,rfl,h⟩
 | bl b=>exact Jy pins s σ H _ v Q I rx ⟨_,rfl,h⟩
 | int i=>exact Jy pins s σ H _ v Q I rx ⟨_,rfl,h⟩
 | str y=>exact Jy pins s σ H _ v Q I rx ⟨_,⟨h.1,rfl⟩,h.2⟩
 | ref p=>exact Jy pins s σ H _ v Q I rx h
 | _=>exact (show False from h).elim
inductive SqX (K:PySem.W.Frag) (H:Hp) (p:Addr) (i:Int) (xs:List V):Prop where
 | inl (h:SqL K H p xs)
 | inr (h:SqT K H p xs)
 | dk (h:∀ v,atI xs i=some v -> DGet H p (.int i) (some v))
def rIxD (K:PySem.W.Frag):R2:=fun x y H Q=>match x,y with
 | .str z,.int i=>z.length <= sizeLine /\ ∃ c,atI z.cps.toList i=some c /\ Q (.str ⟨#[c]⟩) H
 | .ref p,.int i=>∃ xs v,SqX K H p i xs /\ atI xs i=some v /\ Q v H
 | .ref p,.str k=>∃ v,DGet H p (.str k) (some v) /\ Q v H
 | .ref p,.ref b=>∃ v,DGet H p (.ref b) (some v) /\ Q v H
 | _,_=>False
theorem ix_D {X:Cx} (hu:X.A.units + 64 < cLine):IxR X (rIxD X.K):=by
  intro value slice pins s σ H x y v u Q I rx ry h hs
  cases x <;> cases y <;> first
    | exact (show False from h).elim
    | (obtain ⟨h1,c,h2,h3⟩:=h;exact aj7 value slice pins s σ H _ _ v u Q I rx ry ⟨_,_,c,rfl,rfl,h1,h2,h3⟩ hs)
    | (obtain ⟨xs,w,h1 | h1 | h1,h2,h3⟩:=h
       . exact Zk value slice pins s σ H _ _ v u Q I rx ry ⟨_,_,_,_,rfl,rfl,h1,h2,h3⟩ hs
       . exact aj8 value slice pins s σ H _ _ v u Q I rx ry ⟨_,_,_,_,rfl,rfl,h1,h2,h3⟩ hs
       . exact Rg hu value slice pins s σ H _ _ v u Q I rx ry ⟨_,w,rfl,h1 w h2,h3⟩ hs)
    | (obtain ⟨w,h1,h2⟩:=h;exact Rg hu value slice pins s σ H _ _ v u Q I rx ry ⟨_,w,rfl,h1,h2⟩ hs)
def ag2:V -> V -> V -> Hp -> (Hp -> Prop) -> Prop:=fun o i v H N=>match o,i with
 | .ref p,.int k=>(∃ xs j,H p=some (.lst xs) /\ ixN xs.length k=some j /\ N (upd H p (.lst (xs.set j v)))) \/ ∃ H',DPut H p (.int k) v H' /\ N H'
 | .ref p,i=>∃ H',DPut H p i v H' /\ N H'
 | _,_=>False
theorem a95 {X:Cx} (hu:X.A.units + 64 < cLine):PSet X ag2:=by
 intro pins s σ H o i v ov iv u Q I ro ri rv h
 cases o with
 | ref p=>
  have dp:∀ {H'},DPut H p i v H' -> Q H' -> wpAny (model X.prog X.w) X.A (setItem ov iv u) (fun _ s'=>∃ H',Inv X pins σ H' s' /\ Q H') X.xe s:=fun {H'} g q=>by
   cases ro
   exact Tj (by omega) I g ri rv fun s' I'=>⟨H',I',q⟩
  cases i with
  | int k=>
   rcases h with ⟨xs,j,h1,h2,h3⟩ | ⟨H',g,q⟩
   ·exact Ya pins s σ H _ _ v ov iv u Q I ro ri rv ⟨p,xs,k,j,rfl,rfl,h1,h2,h3⟩
   ·exact dp g q
  | _=>obtain ⟨H',g,q⟩:=h;exact dp g q
 | _=>exact (show False from h).elim
def B0 (K:PySem.W.Frag) (f:Str):V -> Hp -> VK -> Prop:=fun x H Q=>match x with
 | .ref a=>(∃ C dx fs v,H a=some (.ins C dx fs) /\ Cls K C /\ NoAttr K C f /\ fs.lookup f=some v /\ Q v H) \/ False
 | _=>False
def X3 (K:PySem.W.Frag) (f:Str):V -> V -> Hp -> (Hp -> Prop) -> Prop:=fun x y H N=>match x with
 | .ref a=>(∃ C dx fs,H a=some (.ins C dx fs) /\ Cls K C /\ NoAttr K C f /\ fs.length < 1000 /\ N (upd H a (.ins C dx (putF f y fs)))) \/ False
 | _=>False
section
variable {X:Cx} {pins:List (Addr × Obj)} {σ:St} {H:Hp} {s:Shared} {A:Around} {E:Value -> Shared -> Prop}
theorem ay9 {f:Str} {x:V} {u:Value} {b:Bool} {Q:VK} (I:Inv X pins σ H s) (rx:RelV x u) (h:B0 X.K f x H Q):wpAny (model X.prog X.w) A (getAttr u f b) (EP X pins σ Q) E s:=by
 cases x with
 | ref a=>
  cases rx
  rcases h with ⟨C,dx,fs,v,ea,c,n,l,q⟩ | h
  ·exact Pl I ea c n l fun u' s2 I2 ru=>⟨v,H,I2,ru,q⟩
  ·exact h.elim
 | _=>exact (show False from h).elim
theorem a94 {f:Str} {x y:V} {u v:Value} {N:Hp -> Prop} {Q:Unit -> Shared -> Prop} (I:Inv X pins σ H s) (rx:RelV x u) (ry:RelV y v) (h:X3 X.K f x y H N) (hQ:∀ H' s',Inv X pins σ H' s' -> N H' -> Q () s') :
  wpAny (model X.prog X.w) A (setAttr u f v) Q E s:=by
 cases x with
 | ref a=>
  cases rx
  rcases h with ⟨C,dx,fs,ea,c,n,l,q⟩ | h
  ·exact Qf I ea c n l ry fun s3 I3=>hQ _ _ I3 q
  ·exact h.elim
 | _=>exact (show False from h).elim
end
structure FI where
 f:Addr
 fd:FuncData
 ps:List Str
 k:Nat
 sp:Sp
 dfs:List V
 ds:List Value
structure MI where
 C:Addr
 i:FI
inductive GB where
 | fn (i:FI)
 | cls (C:Addr) (i:Option FI)
 | met (m:Str) (l:List MI)
 | val (v:V) (u:Value)
 | exc (C:Addr) (i:Option FI)
def Ba:List (Str × GB) -> Str -> Option (List MI)
 | [],_=>none
 | (_,.met m l) :: r,x=>if m=x then some l else Ba r x
 | _ :: r,x=>Ba r x
theorem Bg:∀ {gb:List (Str × GB)} {x:Str} {l:List MI},Ba gb x=some l -> ∃ k,(k,GB.met x l) ∈ gb
 | (k,.met m l') :: r,x,l,h=>by
  unfold Ba at h
  by_cases e:m=x
  ·rw [if_pos e] at h;cases h;subst e;exact ⟨k,by simp⟩
  ·rw [if_neg e] at h;obtain ⟨k,q⟩:=Bg h;exact ⟨k,List.mem_cons_of_mem _ q⟩
 | (_,.fn _) :: r,x,l,h=>by unfold Ba at h;obtain ⟨k,q⟩:=Bg h;exact ⟨k,List.mem_cons_of_mem _ q⟩
 | (_,.cls _ _) :: r,x,l,h=>by unfold Ba at h;obtain ⟨k,q⟩:=Bg h;exact ⟨k,List.mem_cons_of_mem _ q⟩
 | (_,.val _ _) :: r,x,l,h=>by unfold Ba at h;obtain ⟨k,q⟩:=Bg h;exact ⟨k,List.mem_cons_of_mem _ q⟩
 | (_,.exc _ _) :: r,x,l,h=>by unfold Ba at h;obtain ⟨k,q⟩:=Bg h;exact ⟨k,List.mem_cons_of_mem _ q⟩
structure Sg where
 K:PySem.W.Frag
 N:List Str
 sc:List (Str × NameKind)
 gb:List (Str × GB)
 bl:List Str
 top:Bool
 calm:Bool
def Bs:List Str -> Str -> Nat -> Option Nat
 | [],_,_=>none
 | y :: r,x,i=>if y=x then some i else Bs r x (i + 1)
theorem Ld:∀ {N:List Str} {x:Str} {i j:Nat},Bs N x j=some i -> j <= i /\ N[i - j]? = some x
 | [],_,_,_,h=>by cases h
 | y :: r,x,i,j,h=>by
  unfold Bs at h
  by_cases e:y=x
  ·rw [if_pos e] at h
   cases h
   refine ⟨Nat.le_refl _,?_⟩
   rw [Nat.sub_self,e]
   rfl
  ·rw [if_neg e] at h
   obtain ⟨h1,h2⟩:=Ld h
   refine ⟨by omega,?_⟩
   have:i - j=(i - (j + 1)) + 1:=by omega
   rw [this,List.getElem?_cons_succ]
   exact h2
theorem C9 {N:List Str} {x:Str} {i:Nat} (h:Bs N x 0=some i):N[i]? = some x:=(Ld h).2
def C7 (x:Str):Bool:=!(x == ("__debug__" : Str)) && !(x == ("__classdict__" : Str)) && !(x == ("__name__" : Str))
def isGl (G:Sg) (x:Str):Bool:=(G.sc.lookup x == some .globalImplicit) && C7 x
def Qs (x:Str):Option String:=
 if x = "int" then some "int" else if x = "bool" then some "bool" else if x = "str" then some "str" else if x = "list" then some "list" else if x = "tuple" then some "tuple" else if x = "dict" then some "dict" else if x = "ValueError" then some "ValueError" else none
theorem Y5:bootBuiltins "ValueError" = some (.type "ValueError"):=by decide +kernel
theorem Vc {x:Str} {T:String} (h:Qs x=some T):bootBuiltins x=some (.type T):=by
 unfold Qs at h
 by_cases e1:x = "int"
 ·rw [if_pos e1] at h;cases h;rw [e1];exact PyProof.Rows.boot_int
 rw [if_neg e1] at h
 by_cases e2:x = "bool"
 ·rw [if_pos e2] at h;cases h;rw [e2];exact PyProof.Rows.boot_bool
 rw [if_neg e2] at h
 by_cases e3:x = "str"
 ·rw [if_pos e3] at h;cases h;rw [e3];exact PyProof.Rows.boot_str
 rw [if_neg e3] at h
 by_cases e4:x = "list"
 ·rw [if_pos e4] at h;cases h;rw [e4];exact PyProof.Rows.boot_list
 rw [if_neg e4] at h
 by_cases e5:x = "tuple"
 ·rw [if_pos e5] at h;cases h;rw [e5];exact PyProof.Rows.boot_tuple
 rw [if_neg e5] at h
 by_cases e6:x = "dict"
 ·rw [if_pos e6] at h;cases h;rw [e6];exact PyProof.Rows.boot_dict
 rw [if_neg e6] at h
 by_cases e7:x = "ValueError"
 ·rw [if_pos e7] at h;cases h;rw [e7];exact Y5
 rw [if_neg e7] at h
 cases h
def Ka (CX:CXT) (X:Cx):Prop:=∀ Ex,Bv X Ex -> ∀ (pins:List (Addr × Obj)) (σ:St) (H:Hp) (s:Shared) (e:Value) (s':Shared),Inv X pins σ H s -> CX X.stack H s (fun v _ H'=>∃ a,v = .ref a /\ Ex σ a H') e s' -> X.xe e s'
structure FIOk (X:Cx) (i:FI):Prop where
 kp:PySem.W.keepIn X.K (.ref i.f)=true
 ok:∃ CX,(∀ X':Cx,X'.prog=X.prog -> X'.w=X.w -> Ka CX X') /\ FnOk X.prog X.w X.K X.mg X.base CX i.k i.f i.fd i.ps i.sp
 room:Room i.k X.A
 binds:∀ j,j <= i.dfs.length -> Binds X.K i.fd i.ps (i.ds.drop j)
 vals:Vals i.dfs i.ds
def Lk (X:Cx) (C:Addr):Option FI -> Prop
 | none=>PySem.W.findIn X.K (.ref C) "__init__" = some (some (.builtin "ValueError.__init__"))
 | some i=>PySem.W.findIn X.K (.ref C) "__init__" = some (some (.ref i.f)) /\ PySem.W.isFn X.K (.ref i.f)=true /\ FIOk X i /\ Room (i.k + 1) X.A
def MkOk (X:Cx) (C:Addr):Option FI -> Prop
 | none=>PySem.W.makesIn X.K C=true /\ PySem.W.findIn X.K (.ref C) "__init__" = some (some (.builtin "object.__init__"))
 | some i=>PySem.W.makesIn X.K C=true /\ PySem.W.findIn X.K (.ref C) "__init__" = some (some (.ref i.f)) /\ PySem.W.isFn X.K (.ref i.f)=true /\ FIOk X i /\ Room (i.k + 1) X.A
def FrH (X:Cx):Prop:=∃ (e0:Env) (o0:List Env) (L:Addr),X.stack=e0 :: o0 /\ e0.frame=some L /\ X.env.frame=some L
structure GOk (X:Cx) (G:Sg):Prop where
 K:X.K=G.K
 kind:X.env.scope.kind = .function
 own:G.top=true -> PassesOwn (model X.prog X.w) X.A X.env X.xe
 N:X.N=G.N
 nd:G.N.Nodup
 sc:∀ x,X.env.scope.names.lookup x=G.sc.lookup x
 vis:∀ x ∈ G.N,Vis X.env.scope x
 top:G.top=true -> ∀ x,X.fn x=true
 calm:G.calm=X.calm
 hd:X.calm=true -> X.A.handled=none
 units:X.A.units + 64 < cLine
 cel:∀ x,(X.env.scope.names.lookup x=some .cell \/ X.env.scope.names.lookup x=some .free) -> ∃ c,X.env.cells.lookup x=some c
 fn:∀ x i,G.gb.lookup x=some (.fn i) -> X.mg x=some (.ref i.f) /\ FIOk X i
 val:∀ x v u,G.gb.lookup x=some (.val v u) -> X.mg x=some u /\ RelV v u
 bl:∀ x,G.bl.contains x=true -> X.mg x=none
 exc:∀ x C oi,G.gb.lookup x=some (.exc C oi) -> X.mg x=some (.ref C) /\ PySem.W.keepIn X.K (.ref C)=true /\ ECls X.K C /\ Lk X C oi
 cls:∀ x C oi,G.gb.lookup x=some (.cls C oi) -> X.mg x=some (.ref C) /\ PySem.W.keepIn X.K (.ref C)=true /\ MkOk X C oi
 met:∀ m l,Ba G.gb m=some l -> ∀ mi ∈ l,Cls X.K mi.C /\ Meth X.K mi.C m mi.i.f /\ FIOk X mi.i
 frm:G.top=true -> X.stack=X.env :: X.outer /\ X.env.frame=some X.env.locals
 fr:FrH X
section
variable {X:Cx} {G:Sg}
theorem GOk.gl (O:GOk X G) {x:Str} (h:isGl G x=true):Gl X x:=by
 unfold isGl at h
 rw [Bool.and_eq_true] at h
 have:=eq_of_beq h.1
 unfold Gl
 show X.env.scope.names.lookup x=_
 rw [O.sc x]
 exact this
theorem Mg {x:Str} (h:C7 x=true):(x == ("__debug__" : Str))=false /\ (x == ("__classdict__" : Str))=false /\ x ≠ "__name__" := by
 unfold C7 at h
 simp only [Bool.and_eq_true,Bool.not_eq_true'] at h
 exact ⟨h.1.1,h.1.2,fun e=>by rw [e] at h;simp at h⟩
theorem Pp {x:Str} (h:isGl G x=true):(x == ("__debug__" : Str))=false /\ (x == ("__classdict__" : Str))=false /\ x ≠ "__name__" := by
 unfold isGl at h
 rw [Bool.and_eq_true] at h
 exact Mg h.2
def Yy (G:Sg) (x:Str):DE:=
 match Bs G.N x 0 with
 | some i=>if C7 x=true then dVar i else dNo
 | none=>if isGl G x=true then (match G.gb.lookup x with
   | some (.val v _)=>dC v
   | some (.exc C _)=>dC (.ref C)
   | some (.cls C _)=>dC (.ref C)
   | some _=>dNo
   | none=>if G.bl.contains x=true then (match Qs x with
    | some T=>dC (.ty T)
    | none=>dNo) else dNo) else dNo
theorem A3 {e:Expr}:QE X e dNo:=fun _ _ _ _ _ _ _ _ h=>h.elim
theorem aq3 {i:Nat} {x:Str} {pos:Pos} (hN:X.N[i]? = some x) (hv:Vis X.env.scope x) (hp:C7 x=true):QE X (.Name x pos) (dVar i):=by
 intro Ex _ pins s σ H Q I h
 unfold dVar at h
 split at h
 ·rename_i v e
  exact ao0 hN hv (Mg hp).1 (Mg hp).2.1 pins s σ H Q I ⟨v,e,h⟩
 ·exact h.elim
theorem aa7 (O:GOk X G) (x:Str) (pos:Pos):QE X (.Name x pos) (Yy G x):=by
 unfold Yy
 split
 ·rename_i i e
  split
  ·rename_i hp
   have hi:=C9 e
   exact aq3 (by rw [O.N];exact hi) (O.vis x (List.mem_of_getElem? hi)) hp
  ·exact A3
 ·split
  ·rename_i hg
   have dd:=Pp hg
   split
   ·rename_i v u e
    obtain ⟨h1,h2⟩:=O.val x v u e
    exact fun _ _=>Mf (O.gl hg) h1 h2 dd.1
   ·rename_i C oi e
    exact fun _ _=>Mf (v:=.ref C) (O.gl hg) (O.exc x C oi e).1 rfl dd.1
   ·rename_i C oi e
    exact fun _ _=>Mf (v:=.ref C) (O.gl hg) (O.cls x C oi e).1 rfl dd.1
   ·exact A3
   ·split
    ·rename_i hb
     split
     ·rename_i T e
      exact fun _ _=>Zy (O.gl hg) (O.bl x hb) (Vc e) rfl dd.2.2 dd.1
     ·exact A3
    ·exact A3
  ·exact A3
def Yw:Const -> DE
 | .int i=>dC (.int i)
 | .bool b=>dC (.bl b)
 | .none=>dC .non
 | .str x=>dC (.str x)
 | _=>dNo
theorem Xt (c:Const) (j:Nat) (pos:Pos):QE X (.Constant c j pos) (Yw c):=by
 cases c with
 | int i=>exact fun _ _=>an4
 | bool b=>exact fun _ _=>a26
 | none=>exact fun _ _=>an6
 | str x=>exact fun _ _=>an8
 | _=>exact A3
variable {a b c:Expr} {da db dc:DE} {ta tb:DT} {es:List Expr} {r:DA} {pos:Pos}
theorem ap1 (op:Operator) (ha:QE X a da) (hb:QE X b db):QE X (.BinOp a op b pos) (dBin (rOp X.K op) da db):=fun Ex m=>a28 (op_D op) (ha Ex m) (hb Ex m)
theorem ap8 (ha:QE X a da):QE X (.UnaryOp .USub a pos) (dUn Fl da):=fun Ex m=>af6 un_D (ha Ex m)
theorem ap4 (ha:QE X a da):QE X (.UnaryOp .Invert a pos) (dUn Rs da):=fun Ex m=>af6 az0 (ha Ex m)
theorem ap3 (hu:X.A.units + 64 < cLine) (op:CmpOp) (ha:QE X a da) (hb:QE X b db) (hm:behindInMarks op b=false):QE X (.Compare a [op] [b] pos) (dBin (rCmp X.K op) da db):=fun Ex m=>Zz (Kl hu op) (ha Ex m) (hb Ex m) hm
theorem ar3 (hu:X.A.units + 64 < cLine) (op:CmpOp) (ha:QE X a da) (hb:QE X b db) (hm:behindInMarks op b=false):QT X (.Compare a [op] [b] pos) (dTst (dBin (rCmp X.K op) da db)):=by
 intro Ex m pins s σ H Q I h
 refine wpAny_isTrue_Compare1 (thn (ha Ex m pins s σ H _ I h) fun v s1 ⟨x,H1,I1,r1,q1⟩=>thn (hb Ex m pins s1 σ H1 _ I1 q1) fun u s2 ⟨y,H2,I2,r2,q2⟩=>
  thn (Kl hu op pins s2 σ H2 x y v u _ I2 r1 r2 q2) fun c s3 ⟨z,H3,I3,r3,q3⟩=>?_) hm
 cases z with
 | bl k=>cases r3;exact wpAny_truthy_bool ⟨H3,I3,q3⟩
 | _=>exact (show False from q3).elim
theorem Xs (hu:X.A.units + 64 < cLine) (op op':CmpOp) (ha:QE X a da) (hb:QE X b db) (hc:QE X c dc) (hm:lastMarks [op,op'] [b,c]=false) :
  QE X (.Compare a [op,op'] [b,c] pos) (Cy (rCmp X.K op) (rCmp X.K op') da db dc):=by
 intro Ex m pins s σ H Q I h
 refine Compare_chain (thn (ha Ex m pins s σ H _ I h) fun v s1 ⟨x,H1,I1,r1,q1⟩=>chain_link (thn (hb Ex m pins s1 σ H1 _ I1 q1) fun u s2 ⟨y,H2,I2,r2,q2⟩=>
  thn (Kl hu op pins s2 σ H2 x y v u _ I2 r1 r2 q2) fun d s3 ⟨z,H3,I3,r3,q3⟩=>?_)) hm
 cases z with
 | bl k=>
  cases r3
  refine wpAny_truthy_bool ?_
  cases k with
  | false=>exact ite_ff ⟨.bl false,H3,I3,rfl,q3⟩
  | true=>exact ite_tt (chain_last (thn (hc Ex m pins s3 σ H3 _ I3 q3) fun w' s4 ⟨z',H4,I4,r4,q4⟩=>Kl hu op' pins s4 σ H4 y z' u w' Q I4 r2 r4 q4))
 | _=>exact (show False from q3).elim
theorem X1 (hu:X.A.units + 64 < cLine) (op op':CmpOp) (ha:QE X a da) (hb:QE X b db) (hc:QE X c dc) (hm:lastMarks [op,op'] [b,c]=false) :
  QT X (.Compare a [op,op'] [b,c] pos) (dTst (Cy (rCmp X.K op) (rCmp X.K op') da db dc)):=by
 intro Ex m pins s σ H Q I h
 refine isTrue_chain (thn (ha Ex m pins s σ H _ I h) fun v s1 ⟨x,H1,I1,r1,q1⟩=>test_link (thn (hb Ex m pins s1 σ H1 _ I1 q1) fun u s2 ⟨y,H2,I2,r2,q2⟩=>
  thn (Kl hu op pins s2 σ H2 x y v u _ I2 r1 r2 q2) fun d s3 ⟨z,H3,I3,r3,q3⟩=>?_)) hm
 cases z with
 | bl k=>
  cases r3
  refine wpAny_truthy_bool ?_
  cases k with
  | false=>exact ite_ff ⟨H3,I3,q3⟩
  | true=>
   refine ite_tt (test_last (thn (hc Ex m pins s3 σ H3 _ I3 q3) fun w' s4 ⟨z',H4,I4,r4,q4⟩=>thn (Kl hu op' pins s4 σ H4 y z' u w' _ I4 r2 r4 q4) fun d' s5 ⟨z2,H5,I5,r5,q5⟩=>?_))
   cases z2 with
   | bl k2=>cases r5;exact wpAny_truthy_bool ⟨H5,I5,q5⟩
   | _=>exact (show False from q5).elim
 | _=>exact (show False from q3).elim
def Xj:Expr -> Bool
 | .UnaryOp .Not _ _=>false
 | .BoolOp _ _ _=>false
 | .IfExp _ _ _ _=>false
 | .Compare _ _ _ _=>false
 | _=>true
theorem Uu {e:Expr} (h:Xj e=true) (whole:Sem Value):isTrue e X.env whole=(do let v <- whole;standAt e.pos;holding [v] (truthy v)):=by
 cases e with
 | UnaryOp op _ _=>cases op <;> first | rfl | cases h
 | BoolOp _ _ _=>cases h
 | IfExp _ _ _ _=>cases h
 | Compare _ _ _ _=>cases h
 | _=>rfl
theorem ar5 (ha:QE X a da) (h:Xj a=true):QT X a (dTru X.K da):=by
 intro Ex m pins s σ H Q I hw
 exact isTrue_plain (thn (ha Ex m pins s σ H _ I hw) fun v s1 ⟨x,H1,I1,r1,q1⟩=>Sf pins s1 σ H1 x v Q I1 r1 q1) (Uu h _)
theorem ar4 (ha:QT X a ta):QT X (.UnaryOp .Not a pos) (dNot ta):=fun Ex m=>ao6 (ha Ex m)
theorem ab5 (ha:QT X a ta):QW X (.BoolOp .And [a] pos) ta:=fun Ex m=>Z9 (ha Ex m)
theorem ar7 (ha:QT X a ta):QW X (.BoolOp .Or [a] pos) ta:=fun Ex m=>ao8 (ha Ex m)
theorem ar6 (ha:QT X a ta) (hb:QW X (.BoolOp .And (b :: es) pos) tb):QW X (.BoolOp .And (a :: b :: es) pos) (dAnd ta tb):=fun Ex m=>ao7 (ha Ex m) (hb Ex m)
theorem a38 (ha:QT X a ta) (hb:QW X (.BoolOp .Or (b :: es) pos) tb):QW X (.BoolOp .Or (a :: b :: es) pos) (dOr ta tb):=fun Ex m=>a32 (ha Ex m) (hb Ex m)
theorem aq0 {op:BoolOp} (ha:QE X a da):QE X (.BoolOp op [a] pos) da:=fun Ex m=>an7 (ha Ex m)
theorem ap0 (ha:QE X a da) (hb:QE X (.BoolOp .And (b :: es) pos) db):QE X (.BoolOp .And (a :: b :: es) pos) (Kn X.K da db):=by
 intro Ex m pins s σ H Q I h
 refine BoolOp_and (thn (ha Ex m pins s σ H _ I h) fun v s1 ⟨x,H1,I1,r1,q1⟩=>thn (Sf pins s1 σ H1 x v _ I1 r1 q1) fun k s2 ⟨H2,I2,q2⟩=>?_)
 cases k with
 | true=>exact hb Ex m pins s2 σ H2 Q I2 q2
 | false=>exact ⟨x,H2,I2,r1,q2⟩
theorem a36 (ha:QE X a da) (hb:QE X (.BoolOp .Or (b :: es) pos) db):QE X (.BoolOp .Or (a :: b :: es) pos) (dOrV X.K da db):=by
 intro Ex m pins s σ H Q I h
 refine BoolOp_or (thn (ha Ex m pins s σ H _ I h) fun v s1 ⟨x,H1,I1,r1,q1⟩=>thn (Sf pins s1 σ H1 x v _ I1 r1 q1) fun k s2 ⟨H2,I2,q2⟩=>?_)
 cases k with
 | false=>exact hb Ex m pins s2 σ H2 Q I2 q2
 | true=>exact ⟨x,H2,I2,r1,q2⟩
theorem ap9 (ha:QE X a da):QE X (.UnaryOp .Not a pos) (V7 X.K da):=by
 intro Ex m pins s σ H Q I h
 refine UnaryOp_ (thn (ha Ex m pins s σ H _ I h) fun v s1 ⟨x,H1,I1,r1,q1⟩=>not_of (thn (Sf pins s1 σ H1 x v _ I1 r1 q1) fun k s2 ⟨H2,I2,q2⟩=>?_))
 exact ⟨.bl (!k),H2,I2,rfl,q2⟩
theorem a33 {t:Expr} (ht:QT X t ta) (ha:QE X a da) (hb:QE X b db):QE X (.IfExp t a b pos) (dIfE ta da db):=fun Ex m=>Xe (ht Ex m) (ha Ex m) (hb Ex m)
def noStar:Expr -> Bool
 | .Starred _ _=>false
 | _=>true
theorem As {e:Expr} (h:noStar e=true) (es:List Expr) (env:Env):starEach (e :: es) env=(false,eval e env) :: starEach es env:=by
 cases e with
 | Starred _ _=>cases h
 | _=>rfl
theorem Ay {es:List Expr} (h:es.all noStar=true) (env:Env) (pos:Pos):(backTo pos (starEach es env)).any (·.1)=false:=by
 induction es with
 | nil=>rfl
 | cons e es ih=>
  rw [List.all_cons,Bool.and_eq_true] at h
  rw [As h.1]
  show (false || (backTo pos (starEach es env)).any (·.1))=false
  rw [ih h.2]
  rfl
theorem Gp {es:List Expr} (h:es.all noStar=true) (env:Env) (pos:Pos):(backTo pos (starEach es env)).all (fun x=>!x.1)=true:=by
 induction es with
 | nil=>rfl
 | cons e es ih=>
  rw [List.all_cons,Bool.and_eq_true] at h
  rw [As h.1]
  show (true && (backTo pos (starEach es env)).all (fun x=>!x.1))=true
  rw [ih h.2]
  rfl
theorem ao9:QA X [] dNil:=fun _ _=>an3
theorem aa0 (ha:QE X a da) (hr:QA X es r) (hs:noStar a=true):QA X (a :: es) (Ab da r):=fun Ex m=>Zx (ha Ex m) (hr Ex m) (As hs es X.env)
theorem aq2 {k:Nat} (h:QA X es r):QE X (.Tuple es k pos) (dTup r):=fun Ex m=>an9 (h Ex m)
theorem ap5 (h:QA X es r):QE X (.List es pos) (dLst r):=fun Ex m=>an5 (h Ex m)
def Fk:Expr -> Bool
 | .Slice _ _ _ _=>false
 | _=>true
theorem P1 {e:Expr} (h:Fk e=true):Qv e:=by
 intro o i
 cases e with
 | Slice _ _ _ _=>cases h
 | _=>rfl
theorem a34 (hu:X.A.units + 64 < cLine) (ha:QE X a da) (hb:QE X b db) (h:Fk b=true):QE X (.Subscript a b pos) (dBin (rIxD X.K) da db):=fun Ex m=>a27 (ix_D hu) (ha Ex m) (hb Ex m) (P1 h)
theorem aa1 {f:Str} (ha:QE X a da) (h:attributeBase a f X.env (eval a X.env)=eval a X.env):QE X (.Attribute a f pos) (dUn (B0 X.K f) da):=by
 intro Ex m pins s σ H Q I hw
 exact Y0 h (thn (ha Ex m pins s σ H _ I hw) fun u s1 ⟨x,H1,I1,rx,q⟩=>ay9 I1 rx q)
end
abbrev RF:=List V -> Hp -> VK -> Prop
def Kz (x:V) (T:String):Bool:=match x with
 | .int _=>T == "int"
 | .bl _=>T == "bool" || T == "int"
 | .str _=>T == "str"
 | _=>false
def okT (T:String):Bool:=["int", "bool", "str", "list", "tuple", "dict"].contains T
def rIsi (K:PySem.W.Frag):RF:=fun xs H Q=>match xs with
 | [.int i,.ty T]=>okT T=true /\ Q (.bl (Kz (.int i) T)) H
 | [.bl i,.ty T]=>okT T=true /\ Q (.bl (Kz (.bl i) T)) H
 | [.str i,.ty T]=>okT T=true /\ Q (.bl (Kz (.str i) T)) H
 | [.non,.ty T]=>okT T=true /\ Q (.bl (Kz .non T)) H
 | [x,.ty T]=>∃ t b,TyX K H x t /\ PySem.W.kitOne K t (.type T)=some b /\ Q (.bl b) H
 | [x,.ref C]=>(∃ t b,TyX K H x t /\ PySem.W.kitOne K t (.ref C)=some b /\ Q (.bl b) H) \/ ag1 K x (.ref C) H Q
 | _=>False
def rLen (K:PySem.W.Frag):RF:=fun xs H Q=>match xs with
 | [.str z]=>z.length <= sizeLine /\ Q (.int z.length) H
 | [.ref p]=>(∃ ys,(SqL K H p ys \/ SqT K H p ys) /\ Q (.int ys.length) H) \/ ∃ kvs,Rd H p (.dK kvs) /\ Q (.int kvs.length) H
 | _=>False
def rAll (K:PySem.W.Frag):RF:=fun xs H Q=>match xs with
 | [.ref p]=>∃ bs:List Bool,SqL K H p (bs.map V.bl) /\ Q (.bl (bs.all fun b=>b)) H
 | _=>False
def rInt:RF:=fun xs H Q=>match xs with
 | [.int i]=>Q (.int i) H
 | [.bl k]=>Q (.int (if k then 1 else 0)) H
 | _=>False
def A5 (K:PySem.W.Frag):RF:=fun xs H Q=>match xs with
 | [.ref p]=>∃ ys,(SqL K H p ys \/ SqT K H p ys) /\ ∀ l,H l=none -> Q (.ref l) (upd H l (.lst ys))
 | _=>False
def Cb (K:PySem.W.Frag):RF:=fun xs H Q=>match xs with
 | [.ref p]=>∃ ys,(SqL K H p ys /\ ∀ l,H l=none -> Q (.ref l) (upd H l (.tup ys))) \/ (SqT K H p ys /\ Q (.ref p) H)
 | _=>False
def rMax:RF:=fun xs H Q=>match xs with
 | [.int i,.int j]=>Q (.int (if j > i then j else i)) H
 | _=>False
def rMin:RF:=fun xs H Q=>match xs with
 | [.int i,.int j]=>Q (.int (if j < i then j else i)) H
 | _=>False
inductive BF where
 | bf (id:String) | ty (T:String)
def bltR (K:PySem.W.Frag) (calm:Bool) (x:Str):Option (BF × RF):=
 if x = "len" then some (.bf "len", rLen K) else
 if x = "isinstance" then some (.bf "isinstance", rIsi K) else
 if x = "all" then (if calm=true then some (.bf "all", rAll K) else none) else
 if x = "int" then some (.ty "int", rInt) else
 if x = "list" then some (.ty "list", A5 K) else
 if x = "tuple" then some (.ty "tuple", Cb K) else
 if x = "max" then (if calm=true then some (.bf "max", rMax) else none) else
 if x = "min" then (if calm=true then some (.bf "min", rMin) else none) else
 none
def BF.val:BF -> Value
 | .bf id=>.builtin id
 | .ty T=>.type T
section
variable {X:Cx}
theorem Pq {K:PySem.W.Frag} {x:V} {T:String} (hx:A7 x=true) (h:okT T=true):∃ t,(∀ H,TyOf K H x t) /\ PySem.W.kitOne K t (.type T)=some (Kz x T):=by
 have hT:T = "int" \/ T = "bool" \/ T = "str" \/ T = "list" \/ T = "tuple" \/ T = "dict" := by
  unfold okT at h
  simpa using h
 cases x with
 | int i=>refine ⟨_,fun H=>TyOf.int i,?_⟩;rcases hT with rfl | rfl | rfl | rfl | rfl | rfl <;> rfl
 | bl i=>refine ⟨_,fun H=>TyOf.bl i,?_⟩;rcases hT with rfl | rfl | rfl | rfl | rfl | rfl <;> rfl
 | str i=>refine ⟨_,fun H=>TyOf.str i,?_⟩;rcases hT with rfl | rfl | rfl | rfl | rfl | rfl <;> rfl
 | non=>refine ⟨_,fun H=>TyOf.non,?_⟩;rcases hT with rfl | rfl | rfl | rfl | rfl | rfl <;> rfl
 | _=>cases hx
theorem V3:Bl X (.builtin "isinstance") (rIsi X.K):=by
 intro pins s σ H xs us Q I r h
 have sc:∀ x T,xs=[x,.ty T] -> A7 x=true -> okT T=true -> Q (.bl (Kz x T)) H -> wpAny (model X.prog X.w) X.A (call (.builtin "isinstance") us) (EP X pins σ Q) X.xe s:=fun x T e hx hT q=>by
  subst e
  obtain ⟨t,ht,hk⟩:=Pq (K:=X.K) hx hT
  exact V2 pins s σ H _ us Q I r ⟨x,T,t,_,rfl,ht H,hk,q⟩
 unfold rIsi at h
 split at h
 ·exact sc _ _ rfl rfl h.1 h.2
 ·exact sc _ _ rfl rfl h.1 h.2
 ·exact sc _ _ rfl rfl h.1 h.2
 ·exact sc _ _ rfl rfl h.1 h.2
 ·obtain ⟨t,b,ty,e,q⟩:=h
  obtain ⟨u,v,rfl,ru,rv⟩:=r.two
  cases rv
  exact Ig I ru ty e fun tk=>⟨.bl b,H,I.tok tk,rfl,q⟩
 ·obtain ⟨u,v,rfl,ru,rv⟩:=r.two
  rcases h with ⟨t,b,ty,e,q⟩ | h
  ·cases rv
   exact Ig I ru ty e fun tk=>⟨.bl b,H,I.tok tk,rfl,q⟩
  ·exact Sy I ru rv h
 ·exact h.elim
theorem Sz:Bl X (.builtin "len") (rLen X.K):=by
 intro pins s σ H xs us Q I r h
 unfold rLen at h
 split at h
 ·exact Lr pins s σ H _ us Q I r ⟨_,rfl,h.1,h.2⟩
 ·rcases h with ⟨ys,h1,h2⟩ | ⟨kvs,h1,h2⟩
  ·exact Lq pins s σ H _ us Q I r ⟨_,ys,rfl,h1,h2⟩
  ·obtain ⟨u,rfl,ru⟩:=Fr r
   cases ru
   exact ay3 I h1 fun t s' I'=>⟨.int _,H,I',⟨t,rfl⟩,h2⟩
 ·exact h.elim
theorem Sv (hc:X.calm=true):Bl X (.builtin "all") (rAll X.K):=by
 intro pins s σ H xs us Q I r h
 unfold rAll at h
 split at h
 ·obtain ⟨bs,h1,h2⟩:=h
  exact V1 hc pins s σ H _ us Q I r ⟨_,bs,rfl,h1,h2⟩
 ·exact h.elim
theorem Sx:Bl X (.type "int") rInt:=by
 intro pins s σ H xs us Q I r h
 unfold rInt at h
 split at h
 ·exact Kh pins s σ H _ us Q I r (.inl ⟨_,rfl,h⟩)
 ·exact Kh pins s σ H _ us Q I r (.inr ⟨_,rfl,h⟩)
 ·exact h.elim
theorem Pb:Bl X (.type "list") (A5 X.K):=by
 intro pins s σ H xs us Q I r h
 unfold A5 at h
 split at h
 ·obtain ⟨ys,h1,h2⟩:=h
  exact Ls pins s σ H _ us Q I r ⟨_,ys,rfl,h1,h2⟩
 ·exact h.elim
theorem Tg:Bl X (.type "tuple") (Cb X.K):=by
 intro pins s σ H xs us Q I r h
 unfold Cb at h
 split at h
 ·obtain ⟨ys,h1⟩:=h
  exact J6 pins s σ H _ us Q I r ⟨_,ys,rfl,h1⟩
 ·exact h.elim
theorem Td (hc:X.calm=true):Bl X (.builtin "max") rMax:=by
 intro pins s σ H xs us Q I r h
 unfold rMax at h
 split at h
 ·exact Ta hc pins s σ H _ us Q I r ⟨_,_,rfl,h⟩
 ·exact h.elim
theorem Tf (hc:X.calm=true):Bl X (.builtin "min") rMin:=by
 intro pins s σ H xs us Q I r h
 unfold rMin at h
 split at h
 ·exact Te hc pins s σ H _ us Q I r ⟨_,_,rfl,h⟩
 ·exact h.elim
theorem Y4 {x:Str} {f:BF} {r:RF} {c:Bool} (h:bltR X.K c x=some (f,r)) (hc:c=X.calm):bootBuiltins x=some f.val /\ Bl X f.val r:=by
 unfold bltR at h
 by_cases e:x = "len"
 ·rw [if_pos e] at h;cases h;rw [e];exact ⟨PySem.boot_len,Sz⟩
 rw [if_neg e] at h
 by_cases e:x = "isinstance"
 ·rw [if_pos e] at h;cases h;rw [e];exact ⟨PyProof.Rows.boot_isinstance,V3⟩
 rw [if_neg e] at h
 by_cases e:x = "all"
 ·rw [if_pos e] at h
  by_cases ec:c=true
  ·rw [if_pos ec] at h;cases h;rw [e];exact ⟨PyProof.Rows.boot_all,Sv (hc ▸ ec)⟩
  ·rw [if_neg ec] at h;cases h
 rw [if_neg e] at h
 by_cases e:x = "int"
 ·rw [if_pos e] at h;cases h;rw [e];exact ⟨PyProof.Rows.boot_int,Sx⟩
 rw [if_neg e] at h
 by_cases e:x = "list"
 ·rw [if_pos e] at h;cases h;rw [e];exact ⟨PyProof.Rows.boot_list,Pb⟩
 rw [if_neg e] at h
 by_cases e:x = "tuple"
 ·rw [if_pos e] at h;cases h;rw [e];exact ⟨PyProof.Rows.boot_tuple,Tg⟩
 rw [if_neg e] at h
 by_cases e:x = "max"
 ·rw [if_pos e] at h
  by_cases ec:c=true
  ·rw [if_pos ec] at h;cases h;rw [e];exact ⟨PyProof.Rows.boot_max,Td (hc ▸ ec)⟩
  ·rw [if_neg ec] at h;cases h
 rw [if_neg e] at h
 by_cases e:x = "min"
 ·rw [if_pos e] at h
  by_cases ec:c=true
  ·rw [if_pos ec] at h;cases h;rw [e];exact ⟨PyProof.Rows.boot_min,Tf (hc ▸ ec)⟩
  ·rw [if_neg ec] at h;cases h
 rw [if_neg e] at h
 cases h
abbrev RM:=V -> List V -> Hp -> VK -> Prop
structure BM where
 T:String
 id:String
 r:RM
def rMt (K:PySem.W.Frag) (bs:List BM):V -> Hp -> (Hp -> (List V -> Hp -> Prop) -> Prop) -> VK -> Prop:=fun x H1 ta Q=>
 match bs with
 | []=>False
 | [b]=>tyV K b.T x H1 /\ ta H1 fun xs H2=>b.r x xs H2 Q
 | b :: rest=>(tyV K b.T x H1 /\ ta H1 fun xs H2=>b.r x xs H2 Q) \/ rMt K rest x H1 ta Q
structure BMOk (X:Cx) (m:Str) (b:BM):Prop where
 pa:PlainAttrs b.T
 slot:Slot b.T m b.id
 ty:typeOf (.builtin b.id)=pure (.type "method_descriptor")
 mt:MtR X b.id b.r
def Rt (K:PySem.W.Frag):RM:=fun x xs H Q=>∃ z p ys,x = .str z /\ xs=[.ref p] /\ SqL K H p (ys.map V.str) /\ (ys.map (·.length)).sum + ys.length * z.length <= 16777216 /\ Q (.str (Txt.join z ys)) H
def Oh:RM:=fun x xs H Q=>match x,xs with
 | .ref a,[y]=>∃ o,DGet H a y o /\ Q (o.getD .non) H
 | .ref a,[y,z]=>∃ o,DGet H a y o /\ Q (o.getD z) H
 | _,_=>False
theorem Zq (hu:X.A.units + 64 < cLine):MtR X "dict.get" Oh:=by
 intro pins s σ H x xs v us Q I rx rs h
 unfold Oh at h
 split at h
 ·obtain ⟨o,g,q⟩:=h
  obtain ⟨u,rfl,ru⟩:=rs.one
  cases rx
  exact ai5 (by omega) I g ru fun w' s' I' r'=>⟨_,H,I',r',q⟩
 ·obtain ⟨o,g,q⟩:=h
  obtain ⟨u,w,rfl,ru,rw'⟩:=rs.two
  cases rx
  exact ai6 (by omega) I g ru rw' fun w' s' I' r'=>⟨_,H,I',r',q⟩
 ·exact h.elim
def Ei:RM:=fun x xs H Q=>∃ p kvs,x = .ref p /\ xs=[] /\ H p=some (.dK kvs) /\ Q .non (upd H p (.dK []))
theorem Ug:MtR X "dict.clear" Ei:=by
 intro pins s σ H x xs v us Q I rx rs h
 obtain ⟨p,kvs,rfl,rfl,e,q⟩:=h
 cases rx
 cases rs
 exact Y7 I e fun s' I'=>⟨.non,_,I',rfl,q⟩
def mtR (K:PySem.W.Frag) (m:Str):List BM:=
 if m = "append" then [⟨"list", "list.append", B8⟩] else
 if m = "get" then [⟨"dict", "dict.get", Oh⟩] else
 if m = "extend" then [⟨"list", "list.extend", Ho⟩] else
 if m = "clear" then [⟨"list", "list.clear", Iy⟩,⟨"dict", "dict.clear", Ei⟩] else
 if m = "reverse" then [⟨"list", "list.reverse", Fm⟩] else
 if m = "join" then [⟨"str", "str.join", Rt K⟩] else []
theorem W2 {m:Str} {b:BM} (hu:X.A.units + 64 < cLine) (h:b ∈ mtR X.K m):BMOk X m b:=by
 unfold mtR at h
 by_cases e:m = "append"
 ·rw [if_pos e] at h
  have:b=⟨"list", "list.append", B8⟩:=by simpa using h
  subst this;subst e
  exact ⟨PySem.F.plainAttrs_list,PySem.F.slot_list_append,PySem.F.type_list_append,K7⟩
 rw [if_neg e] at h
 by_cases e:m = "get"
 ·rw [if_pos e] at h
  have:b=⟨"dict", "dict.get", Oh⟩:=by simpa using h
  subst this;subst e
  exact ⟨PySem.F.plainAttrs_dict,PySem.F.slot_dict_get,PySem.F.type_dict_get,Zq hu⟩
 rw [if_neg e] at h
 by_cases e:m = "extend"
 ·rw [if_pos e] at h
  have:b=⟨"list", "list.extend", Ho⟩:=by simpa using h
  subst this;subst e
  exact ⟨PySem.F.plainAttrs_list,PySem.F.slot_list_extend,PySem.F.type_list_extend,Uh⟩
 rw [if_neg e] at h
 by_cases e:m = "clear"
 ·rw [if_pos e] at h
  rcases List.mem_cons.mp h with this | h
  ·subst this;subst e
   exact ⟨PySem.F.plainAttrs_list,PySem.F.slot_list_clear,PySem.F.type_list_clear,W4⟩
  ·have:b=⟨"dict", "dict.clear", Ei⟩:=by simpa using h
   subst this;subst e
   exact ⟨PySem.F.plainAttrs_dict,PySem.F.slot_dict_clear,PySem.F.type_dict_clear,Ug⟩
 rw [if_neg e] at h
 by_cases e:m = "reverse"
 ·rw [if_pos e] at h
  have:b=⟨"list", "list.reverse", Fm⟩:=by simpa using h
  subst this;subst e
  exact ⟨PySem.F.plainAttrs_list,PySem.F.slot_list_reverse,PySem.F.type_list_reverse,Pz⟩
 rw [if_neg e] at h
 by_cases e:m = "join"
 ·rw [if_pos e] at h
  have:b=⟨"str", "str.join", Rt X.K⟩:=by simpa using h
  subst this;subst e
  exact ⟨PySem.F.plainAttrs_str,PySem.F.slot_str_join,PySem.F.type_str_join,Zr⟩
 rw [if_neg e] at h
 cases h
theorem Mj {K:PySem.W.Frag}:∀ {bs:List BM} {x:V} {H1:Hp} {ta:Hp -> (List V -> Hp -> Prop) -> Prop} {Q:VK},rMt K bs x H1 ta Q -> ∃ b ∈ bs,tyV K b.T x H1 /\ ta H1 fun xs H2=>b.r x xs H2 Q
 | [],_,_,_,_,h=>h.elim
 | [b],_,_,_,_,h=>⟨b,by simp,h⟩
 | b :: c :: rest,x,H1,ta,Q,h=>by
  rcases h with h | h
  ·exact ⟨b,by simp,h⟩
  ·obtain ⟨d,hd,q⟩:=Mj h
   exact ⟨d,List.mem_cons_of_mem _ hd,q⟩
def Cu:Expr -> Bool
 | .Call (.Name x _) [] [] _=>!(x == ("super" : Str))
 | _=>true
theorem Dj {e:Expr} (h:Cu e=true) (f:Str) (env:Env) (whole:Sem Value):attributeBase e f env whole=whole:=by
 unfold attributeBase
 split
 ·rename_i id p pos
  have:(id == ("super" : Str))=false:=by
   have h':(!(id == ("super" : Str)))=true:=h
   simpa using h'
  have e2:(id != "super")=true:=by
   show (!(id == "super"))=true
   rw [this]
   rfl
  rw [e2]
  simp
 ·rfl
variable {o:Expr} {do':DE} {es:List Expr} {r:DA} {m:Str} {apos cpos:Pos}
theorem ap7 {bs:List BM} (hb:∀ b ∈ bs,BMOk X m b) (ho:QE X o do') (h1:Cu o=true) (h4:(apos.endLine == cpos.line)=true) :
  QE X (.Call (.Attribute o m apos) [] [] cpos) (dMt (rMt X.K bs) do' dNil):=by
 intro Ex mt pins s σ H Q I h
 refine wpAny_Call_method0_late (Dj h1 m X.env _) h4 (thn (ho Ex mt pins s σ H _ I h) fun v s1 ⟨x,H1,I1,r1,q1⟩=>?_)
 obtain ⟨b,hbm,ty,q⟩:=Mj q1
 obtain ⟨k1,k2⟩:=Yr I1 r1 ty
 have B:=hb b hbm
 exact ⟨b.T,b.id,B.pa,B.slot,B.ty,k1,k2,Calls.callWith_builtin rfl (PySem.evalArgs_none (B.mt pins s1 σ H1 x [] v [] Q I1 r1 .nil q))⟩
theorem a35 {bs:List BM} {e:Expr} (hb:∀ b ∈ bs,BMOk X m b) (ho:QE X o do') (ha:QA X (e :: es) r) (h1:Cu o=true) (h2:(e :: es).all noStar=true) (h3:(e :: es).length < 30) (h4:(apos.endLine == cpos.line)=true) :
  QE X (.Call (.Attribute o m apos) (e :: es) [] cpos) (dMt (rMt X.K bs) do' r):=by
 intro Ex mt pins s σ H Q I h
 have hs:=List.all_cons ▸ h2
 rw [Bool.and_eq_true] at hs
 have hfew:((backTo cpos (starEach (e :: es) X.env)).all (fun x=>!x.1) && (backToKw cpos (keywordEach [] X.env)).all (fun x=>x.1.isSome)
   && decide ((e :: es).length + ([]:List Keyword).length + (if ([]:List Keyword).isEmpty then 0 else 1) < 30))=true:=by
  rw [Gp h2]
  have:decide ((e :: es).length + ([]:List Keyword).length + (if ([]:List Keyword).isEmpty then 0 else 1) < 30)=true:=by
   rw [decide_eq_true_iff]
   simpa using h3
  rw [this]
  rfl
 refine wpAny_Call_method_late (Dj h1 m X.env _) hfew h4 rfl (thn (ho Ex mt pins s σ H _ I h) fun v s1 ⟨x,H1,I1,r1,q1⟩=>?_)
 obtain ⟨b,hbm,ty,q⟩:=Mj q1
 obtain ⟨k1,k2⟩:=Yr I1 r1 ty
 have B:=hb b hbm
 refine ⟨b.T,b.id,B.pa,B.slot,B.ty,k1,k2,?_⟩
 have hA:=ha Ex mt cpos pins s1 σ H1 _ I1 q
 rw [As hs.1] at hA ⊢
 refine Calls.callWith_builtin (by show (false || (backTo cpos (starEach es X.env)).any (·.1))=false;rw [Ay hs.2] <;> rfl) (Calls.evalArgs_plain ?_)
 exact thn hA fun us s2 ⟨vs,H2,I2,r2,q2⟩=>B.mt pins s2 σ H2 x vs v us Q I2 r1 r2 q2
variable {x:Str} {p pos:Pos} {G:Sg}
theorem ap2 {f:BF} {rf:RF} {e:Expr} (hc:Bl X f.val rf) (hg:Gl X x) (hm:X.mg x=none) (hv:bootBuiltins x=some f.val) (ha:QA X (e :: es) r) (hs:(e :: es).all noStar=true) (hn:x ≠ "__name__") (hdb:(x == ("__debug__" : Str))=false) :
  QE X (.Call (.Name x p) (e :: es) [] pos) (dFn (fun vs H Q _=>rf vs H Q) r):=by
 intro Ex mt
 have h:=List.all_cons ▸ hs
 rw [Bool.and_eq_true] at h
 cases f with
 | bf id=>exact Xd hc hg hm hv (ha Ex mt) hn hdb (As h.1 es X.env) (Ay h.2 X.env pos)
 | ty T=>exact Ur hc hg hm hv (ha Ex mt) hn hdb (As h.1 es X.env) (Ay h.2 X.env pos)
def spE (sp:Sp) (dvs:List V):List V -> Hp -> VK -> EK -> Prop:=fun vs H Q E=>sp (vs ++ dvs) H Q (fun v _ H'=>∃ a,v = .ref a /\ E a H')
theorem Hu {i:FI} (F:FIOk X i) {j:Nat} (hj:j <= i.dfs.length) {Ex:St -> EK} (mt:Bv X Ex) {pins:List (Addr × Obj)} {σ:St} {H:Hp} {s:Shared} {Q:VK} {us:List Value} {vs:List V}
  (I:Inv X pins σ H s) (r:Vals vs us) (h:spE i.sp (i.dfs.drop j) vs H Q (Ex σ)):wpAny (model X.prog X.w) X.A (call (.ref i.f) us) (EP X pins σ Q) X.xe s:=by
 obtain ⟨CX,hx,FO⟩:=F.ok
 have r2:Vals (vs ++ i.dfs.drop j) (us ++ i.ds.drop j):=r.append (F.vals.drop j)
 have hl:(us ++ i.ds.drop j).length=i.ps.length:=by rw [<- r2.length];exact FO.len _ _ _ _ h
 refine wpAny_call (codeAny_mono (FO.run X.A X.stack s H ⟨us,[]⟩ (us ++ i.ds.drop j) (vs ++ i.dfs.drop j) Q _ F.room I.env0 (F.binds j hj s us I.kIn hl) r2 h) fun r s' hq=>?_)
 cases r with
 | error e=>exact hx X rfl rfl Ex mt pins σ H s e s' I hq
 | ok fl=>
  cases fl with
  | ret u=>exact I.after hq
  | next=>exact False.elim hq
  | brk=>exact False.elim hq
  | cont=>exact False.elim hq
theorem Xq {i:FI} (F:FIOk X i) {j:Nat} (hj:j <= i.dfs.length) (hg:Gl X x) (hm:X.mg x=some (.ref i.f)) (hdb:(x == ("__debug__" : Str))=false) :
  QE X (.Call (.Name x p) [] [] pos) (dFn (spE i.sp (i.dfs.drop j)) dNil):=by
 intro Ex mt pins s σ H Q I h
 refine wpAny_Call_Name_kw (Cs I hg hm ?_ hdb)
 exact PySem.W.callWith_K0 I.kIn F.kp (Hu (us:=[]) F hj mt I .nil h)
theorem aa2 {i:FI} {e:Expr} (F:FIOk X i) {j:Nat} (hj:j <= i.dfs.length) (hg:Gl X x) (hm:X.mg x=some (.ref i.f)) (ha:QA X (e :: es) r) (hs:(e :: es).all noStar=true) (hdb:(x == ("__debug__" : Str))=false) :
  QE X (.Call (.Name x p) (e :: es) [] pos) (dFn (spE i.sp (i.dfs.drop j)) r):=by
 intro Ex mt pins s σ H Q I h
 have h2:=List.all_cons ▸ hs
 rw [Bool.and_eq_true] at h2
 refine wpAny_Call_Name_kw (Cs I hg hm ?_ hdb)
 refine PySem.W.callWith_K (h₀:=X.base) I.ok.mod.kin F.kp (thn (ha Ex mt pos pins s σ H _ I h) fun us s1 ⟨vs,H1,I1,r,q⟩=>⟨I1.kIn,?_⟩) (As h2.1 es X.env) (Ay h2.2 X.env pos)
 exact Hu F hj mt I1 r q
def mkX (C:Addr):Option FI -> Nat -> List V -> Hp -> VK -> EK -> Prop
 | none,_=>fun _ H Q _=>∀ a,H a=none -> Q (.ref a) (upd H a (excO a C none))
 | some i,j=>fun _ _ _ _=>False
theorem Rx {C:Addr} {oi:Option FI} {j:Nat} (c:ECls X.K C) (hi:Lk X C oi) (hj:∀ i,oi=some i -> j <= i.dfs.length) {Ex:St -> EK} (mt:Bv X Ex) {pins:List (Addr × Obj)} {σ:St} {H:Hp} {s:Shared} {Q:VK} {us:List Value} {vs:List V}
  (I:Inv X pins σ H s) (rv:Vals vs us) (hl:vs.length <= 1000) (h:mkX C oi j vs H Q (Ex σ)):wpAny (model X.prog X.w) X.A (call (.ref C) us) (EP X pins σ Q) X.xe s:=by
 cases oi with
 | none=>exact Qe c hi I rv hl h
 | some i=>
  exact (show False from h).elim
theorem Rp {C:Addr} {oi:Option FI} {j:Nat} (c:ECls X.K C) (hi:Lk X C oi) (hj:∀ i,oi=some i -> j <= i.dfs.length) (kp:PySem.W.keepIn X.K (.ref C)=true) (hg:Gl X x) (hm:X.mg x=some (.ref C)) (hdb:(x == ("__debug__" : Str))=false) :
  QE X (.Call (.Name x p) [] [] pos) (dFn (mkX C oi j) dNil):=by
 intro Ex mt pins s σ H Q I h
 refine wpAny_Call_Name_kw (Cs I hg hm ?_ hdb)
 exact PySem.W.callWith_K0 I.kIn kp (Rx (us:=[]) c hi hj mt I .nil (by simp) h)
theorem Xv {C:Addr} {oi:Option FI} {j:Nat} {e:Expr} (c:ECls X.K C) (hi:Lk X C oi) (hj:∀ i,oi=some i -> j <= i.dfs.length) (kp:PySem.W.keepIn X.K (.ref C)=true) (hg:Gl X x) (hm:X.mg x=some (.ref C)) (ha:QA X (e :: es) r) (hs:(e :: es).all noStar=true) (hdb:(x == ("__debug__" : Str))=false) :
  QE X (.Call (.Name x p) (e :: es) [] pos) (dFn (fun vs H Q E=>vs.length <= 1000 /\ mkX C oi j vs H Q E) r):=by
 intro Ex mt pins s σ H Q I h
 have h2:=List.all_cons ▸ hs
 rw [Bool.and_eq_true] at h2
 refine wpAny_Call_Name_kw (Cs I hg hm ?_ hdb)
 refine PySem.W.callWith_K (h₀:=X.base) I.ok.mod.kin kp (thn (ha Ex mt pos pins s σ H _ I h) fun us s1 ⟨vs,H1,I1,r,q⟩=>⟨I1.kIn,?_⟩) (As h2.1 es X.env) (Ay h2.2 X.env pos)
 exact Rx c hi hj mt I1 r q.1 q.2
def mkC (C:Addr):Option FI -> Nat -> List V -> Hp -> VK -> EK -> Prop
 | none,_=>fun vs H Q _=>vs=[] /\ ∀ a dx,H a=none -> H dx=none -> dx ≠ a -> Q (.ref a) (upd (upd H dx (.own a)) a (.ins C dx []))
 | some i,j=>fun vs H Q E=>∀ a dx,H a=none -> H dx=none -> dx ≠ a ->
   i.sp (.ref a :: (vs ++ i.dfs.drop j)) (upd (upd H dx (.own a)) a (.ins C dx [])) (fun v H2=>v = .non /\ Q (.ref a) H2) (fun v _ H'=>∃ b,v = .ref b /\ E b H')
theorem Uy {C:Addr} (h1:PySem.W.makesIn X.K C=true) (h2:PySem.W.findIn X.K (.ref C) "__init__" = some (some (.builtin "object.__init__"))) {pins:List (Addr × Obj)} {σ:St} {H:Hp} {s:Shared} {Q:VK}
  (I:Inv X pins σ H s) (h:∀ a dx,H a=none -> H dx=none -> dx ≠ a -> Q (.ref a) (upd (upd H dx (.own a)) a (.ins C dx []))):wpAny (model X.prog X.w) X.A (call (.ref C) []) (EP X pins σ Q) X.xe s:=by
 have hq:=h (s.heap.objs.size + 1) s.heap.objs.size (I.hok.fresh (Nat.le_succ _)) (I.hok.fresh (Nat.le_refl _)) (Nat.ne_of_lt (Nat.lt_succ_self _))
 have I2:=Inv.made (C:=C) I
 have e2:((s.heap.push PySem.W.emptyDict).push (PySem.W.instObj C s.heap.objs.size)).get? (s.heap.objs.size + 1)=some (PySem.W.instObj C s.heap.objs.size):=by
  have z:=Heap.get?_push_size (s.heap.push PySem.W.emptyDict) (o:=PySem.W.instObj C s.heap.objs.size) rfl
  rwa [Heap.size_push] at z
 refine wpAny_call (Uc I.kIn h1 h2 (fun self=>.of_pure (PySem.W.oi_bind self)) ?_)
 have ty:PySem.W.Looks (model X.prog X.w) ((s.heap.push PySem.W.emptyDict).push (PySem.W.instObj C s.heap.objs.size)) (typeOf (.ref (s.heap.objs.size + 1))) (.ref C):=(PySem.W.Looks.ld e2).andThen .now
 have io:PySem.W.Looks (model X.prog X.w) ((s.heap.push PySem.W.emptyDict).push (PySem.W.instObj C s.heap.objs.size)) (isInstance (.ref (s.heap.objs.size + 1)) (.type "object")) true:=
  ty.andThen ((PySem.W.makes_of (M:=model X.prog X.w) I.kIn h1).top.keeps fun b o e=>Heap.get?_push_of_some _ (Heap.get?_push_of_some _ e))
 refine codeAny_call_builtin PySem.W.oi_plain PySem.W.entry_oi (PySem.W.check_slot (s:={ s with heap:=(s.heap.push PySem.W.emptyDict).push (PySem.W.instObj C s.heap.objs.size) }) (i := "object.__init__") (owner := "object") (self:=.ref (s.heap.objs.size + 1)) PySem.W.oi_kind PySem.W.oi_split io (PySem.W.oi_args _) ?_)
 rw [PySem.W.oi_run]
 exact wpAny_pure ⟨rfl,⟨.ref _,_,I2,rfl,hq⟩⟩
theorem ab7 {C f:Addr} {CX:CXT} {k:Nat} {fd:FuncData} {ps:List Str} {sp:Sp} {ds:List Value} {dvs:List V} {E:XK} {pins:List (Addr × Obj)} {σ:St} {H:Hp} {s:Shared} {Q:VK} {us:List Value} {vs:List V}
  (M:Mk X.K C f) (F:FnOk X.prog X.w X.K X.mg X.base CX k f fd ps sp) (hr:Room (k + 1) X.A) (hb:Binds X.K fd ps ds) (hd:Vals dvs ds) (hx:∀ H1 s1 e s',Inv X pins σ H1 s1 -> CX X.stack H1 s1 E e s' -> X.xe e s') (I:Inv X pins σ H s) (r:Vals vs us)
  (h:∀ x dx,H x=none -> H dx=none -> dx ≠ x -> sp (.ref x :: (vs ++ dvs)) (upd (upd H dx (.own x)) x (.ins C dx [])) (fun v H2=>v = .non /\ Q (.ref x) H2) E) :
  wpAny (model X.prog X.w) X.A (call (.ref C) us) (EP X pins σ Q) X.xe s:=by
 have hq:=h (s.heap.objs.size + 1) s.heap.objs.size (I.hok.fresh (Nat.le_succ _)) (I.hok.fresh (Nat.le_refl _)) (Nat.ne_of_lt (Nat.lt_succ_self _))
 have I2:=Inv.made (C:=C) I
 have r2:Vals (V.ref (s.heap.objs.size + 1) :: (vs ++ dvs)) (Value.ref (s.heap.objs.size + 1) :: (us ++ ds)):=.cons rfl (r.append hd)
 have hl:(Value.ref (s.heap.objs.size + 1) :: us ++ ds).length=ps.length:=by
  have e:=r2.length
  rw [F.len _ _ _ _ hq] at e
  exact e.symm
 refine wpAny_call (Wv (f:=f) I.kIn M.makes M.init (beq_iff_eq.mp M.fn) (codeAny_mono (F.run _ X.stack _ _ ⟨Value.ref (s.heap.objs.size + 1) :: us,[]⟩ (Value.ref (s.heap.objs.size + 1) :: (us ++ ds)) _ _ E (hr.make C us [])
  (I2.env0.make C us []) (hb _ (Value.ref (s.heap.objs.size + 1) :: us) I2.kIn hl) r2 hq) fun r s' hq'=>?_))
 cases r with
 | error e=>exact hx _ _ e s' I2 hq'
 | ok fl=>
  cases fl with
  | ret u=>
   obtain ⟨v,H',I3,rv,ev,q3⟩:=I2.after hq'
   subst ev
   exact ⟨rv,⟨V.ref (s.heap.objs.size + 1),H',I3,rfl,q3⟩⟩
  | next=>exact False.elim hq'
  | brk=>exact False.elim hq'
  | cont=>exact False.elim hq'
theorem Rw {C:Addr} {oi:Option FI} {j:Nat} (hi:MkOk X C oi) (hj:∀ i,oi=some i -> j <= i.dfs.length) {Ex:St -> EK} (mt:Bv X Ex) {pins:List (Addr × Obj)} {σ:St} {H:Hp} {s:Shared} {Q:VK} {us:List Value} {vs:List V}
  (I:Inv X pins σ H s) (rv:Vals vs us) (kp:PySem.W.keepIn X.K (.ref C)=true) (h:mkC C oi j vs H Q (Ex σ)):wpAny (model X.prog X.w) X.A (call (.ref C) us) (EP X pins σ Q) X.xe s:=by
 cases oi with
 | none=>
  obtain ⟨rfl,h⟩:=h
  cases rv
  exact Uy hi.1 hi.2 I h
 | some i=>
  obtain ⟨h0,h1,h2,F,hr⟩:=hi
  obtain ⟨CX,hx,FO⟩:=F.ok
  exact ab7 ⟨h0,h1,h2,kp⟩ FO hr (F.binds j (hj i rfl)) (F.vals.drop j) (fun H1 s1 e s' I1 q=>hx X rfl rfl Ex mt pins σ H1 s1 e s' I1 q) I rv h
theorem Ro {C:Addr} {oi:Option FI} {j:Nat} (hi:MkOk X C oi) (hj:∀ i,oi=some i -> j <= i.dfs.length) (kp:PySem.W.keepIn X.K (.ref C)=true) (hg:Gl X x) (hm:X.mg x=some (.ref C)) (hdb:(x == ("__debug__" : Str))=false) :
  QE X (.Call (.Name x p) [] [] pos) (dFn (mkC C oi j) dNil):=by
 intro Ex mt pins s σ H Q I h
 refine wpAny_Call_Name_kw (Cs I hg hm ?_ hdb)
 exact PySem.W.callWith_K0 I.kIn kp (Rw (us:=[]) hi hj mt I .nil kp h)
theorem ap6 {C:Addr} {oi:Option FI} {j:Nat} {e:Expr} (hi:MkOk X C oi) (hj:∀ i,oi=some i -> j <= i.dfs.length) (kp:PySem.W.keepIn X.K (.ref C)=true) (hg:Gl X x) (hm:X.mg x=some (.ref C)) (ha:QA X (e :: es) r) (hs:(e :: es).all noStar=true) (hdb:(x == ("__debug__" : Str))=false) :
  QE X (.Call (.Name x p) (e :: es) [] pos) (dFn (mkC C oi j) r):=by
 intro Ex mt pins s σ H Q I h
 have h2:=List.all_cons ▸ hs
 rw [Bool.and_eq_true] at h2
 refine wpAny_Call_Name_kw (Cs I hg hm ?_ hdb)
 refine PySem.W.callWith_K (h₀:=X.base) I.ok.mod.kin kp (thn (ha Ex mt pos pins s σ H _ I h) fun us s1 ⟨vs,H1,I1,r,q⟩=>⟨I1.kIn,?_⟩) (As h2.1 es X.env) (Ay h2.2 X.env pos)
 exact Rw hi hj mt I1 r kp q
def dOwn (m:Str) (n:Nat) (l:List MI) (o:DE) (t:DA):DE:=fun σ H Q E=>o σ H (fun x H1=>∃ a dx fs mi,x = .ref a /\ mi ∈ l /\ H1 a=some (.ins mi.C dx fs) /\ fs.lookup m=none /\ (n + 1 <= mi.i.ps.length /\ mi.i.ps.length <= n + 1 + mi.i.dfs.length) /\
 t σ H1 (fun vs H2=>spE mi.i.sp (mi.i.dfs.drop (n + 1 + mi.i.dfs.length - mi.i.ps.length)) (.ref a :: vs) H2 Q E) E) E
theorem Oa {es:List Expr} {P:Value -> Shared -> Prop} {s:Shared} (h1:Cu o=true) (h2:es.all noStar=true) (h3:es.length < 30) (h4:(apos.endLine == cpos.line)=true)
  (h:wpAny (model X.prog X.w) X.A (eval o X.env) (fun ov s1=>∀ pl,wpAny (model X.prog X.w) X.A (getMethod ov m pl) (fun fx s2=>wpAny (model X.prog X.w) X.A (callWith cpos fx.1 fx.2 (backTo cpos (starEach es X.env)) (backToKw cpos (keywordEach [] X.env))) P X.xe s2) X.xe s1) X.xe s) :
  wpAny (model X.prog X.w) X.A (eval (.Call (.Attribute o m apos) es [] cpos) X.env) P X.xe s:=by
 have few:methodCallForm (es.length + ([]:List Keyword).length) (backTo cpos (starEach es X.env)) (backToKw cpos (keywordEach [] X.env))=true:=by
  unfold methodCallForm
  rw [Gp h2]
  simpa [backToKw,keywordEach] using h3
 rw [arm_eval_Call,Dj h1]
 refine wpAny_bind (thn h fun ov s1 h1=>wpAny_bind (wpAny_standAt ?_))
 unfold methodCall calleeOf
 rw [few,if_pos rfl]
 refine wpAny_bind (wpAny_holding (thn (h1 _) fun fx s2 h2=>?_))
 have hp:methodCallPos true o X.env apos cpos=pure cpos:=by unfold methodCallPos;rw [h4];rfl
 rw [hp]
 exact wpAny_bind (wpAny_pure h2)
theorem aa8 {l:List MI} (hl:∀ mi ∈ l,Cls X.K mi.C /\ Meth X.K mi.C m mi.i.f /\ FIOk X mi.i) (ho:QE X o do') (h1:Cu o=true) (h4:(apos.endLine == cpos.line)=true) :
  QE X (.Call (.Attribute o m apos) [] [] cpos) (dOwn m 0 l do' dNil):=by
 intro Ex mt pins s σ H Q I h
 refine Oa (es:=[]) h1 rfl (by decide) h4 (thn (ho Ex mt pins s σ H _ I h) fun u s1 ⟨x,H1,I1,rx,a,dx,fs,mi,ex,hm,ea,hf,hn,q⟩ pl=>?_)
 subst ex
 obtain rfl:u=Value.ref a:=rx
 obtain ⟨c,k,F⟩:=hl mi hm
 refine Ic I1 ea c k hf ?_
 exact PySem.W.callWith_K0 (first:=[.ref a]) I1.kIn k.kp (Hu (us:=[.ref a]) (vs:=[.ref a]) F (by omega) mt I1 (.cons rfl .nil) q)
theorem aq1 {l:List MI} {e:Expr} (hl:∀ mi ∈ l,Cls X.K mi.C /\ Meth X.K mi.C m mi.i.f /\ FIOk X mi.i) (ho:QE X o do') (ha:QA X (e :: es) r) (h1:Cu o=true) (h2:(e :: es).all noStar=true) (h3:(e :: es).length < 30) (h4:(apos.endLine == cpos.line)=true) :
  QE X (.Call (.Attribute o m apos) (e :: es) [] cpos) (dOwn m (es.length + 1) l do' r):=by
 intro Ex mt pins s σ H Q I h
 refine Oa h1 h2 h3 h4 (thn (ho Ex mt pins s σ H _ I h) fun u s1 ⟨x,H1,I1,rx,a,dx,fs,mi,ex,hm,ea,hf,hn,q⟩ pl=>?_)
 subst ex
 obtain rfl:u=Value.ref a:=rx
 obtain ⟨c,k,F⟩:=hl mi hm
 refine Ic I1 ea c k hf ?_
 have hs:=List.all_cons ▸ h2
 rw [Bool.and_eq_true] at hs
 refine PySem.W.callWith_K (first:=[.ref a]) (h₀:=X.base) I.ok.mod.kin k.kp (thn (ha Ex mt cpos pins s1 σ H1 _ I1 q) fun us s2 ⟨vs,H2,I2,r2,q2⟩=>⟨I2.kIn,?_⟩) (As hs.1 es X.env) (Ay hs.2 X.env cpos)
 exact Hu (us:=.ref a :: us) (vs:=.ref a :: vs) F (by omega) mt I2 (.cons rfl r2) q2
def Ds:DE:=fun _ H Q _=>∀ p,H p=none -> Q (.ref p) (upd H p (.dK [])) \/ Q (.ref p) (upd H p (.dT []))
theorem aa5:QE X (.Dict [] [] pos) Ds:=fun Ex mt pins s σ H Q I h=>by
 have fr:=I.hok.fresh (Nat.le_refl s.heap.objs.size)
 rcases h _ fr with q | q
 ·exact wpAny_Dict_empty ⟨.ref _,_,I.laid (a:=s.heap.objs.size) (o:=.dK []) (t':=s.toks) (fun _ _ q=>Heap.get?_push_of_some _ q) (Nat.le_refl _) (Nn s.heap I.big),rfl,q⟩
 ·exact wpAny_Dict_empty ⟨.ref _,_,I.laid (a:=s.heap.objs.size) (o:=.dT []) (t':=s.toks) (fun _ _ q=>Heap.get?_push_of_some _ q) (Nat.le_refl _) (V9 s.heap I.big),rfl,q⟩
def Pe:List (DE × DE) -> St -> Hp -> (List (V × V) -> Hp -> Prop) -> EK -> Prop
 | [],_,H,Q,_=>Q [] H
 | (k,v) :: r,σ,H,Q,E=>k σ H (fun x H1=>v σ H1 (fun y H2=>Pe r σ H2 (fun ps H3=>Q ((x,y) :: ps) H3) E) E) E
def Bq (trs:List (DE × DE)):DE:=fun σ H Q E=>∀ p,H p=none -> Pe trs σ (upd H p (.dK [])) (fun ps H2=>H2 p=some (.dK []) /\ ∃ kvs:List (Key × V),ps=kvs.map (fun kv=>(kV kv.1,kv.2)) /\ kvs.length <= 15 /\ Q (.ref p) (upd H2 p (.dK (Eu [] kvs)))) E
theorem Xl {w:Expr -> DE} (h:∀ e,QE X e (w e)) {Ex:St -> EK} (mt:Bv X Ex) (pos:Pos):∀ (ks vs:List Expr),ks.length=vs.length -> PPs X pos (ks.map some) vs ((ks.zip vs).map fun p=>((fun σ H Q=>w p.1 σ H Q (Ex σ)),fun σ H Q=>w p.2 σ H Q (Ex σ)))
 | [],[],_=>Z4
 | k :: ks,v :: vs,hl=>Xk (h k Ex mt) (h v Ex mt) (Xl h mt pos ks vs (by simpa using hl))
 | [],_ :: _,hl=>by simp at hl
 | _ :: _,[],hl=>by simp at hl
theorem Nk {Ex:St -> EK} {w:Expr -> DE}:∀ (l:List (Expr × Expr)) (σ:St) (H:Hp) (Q:List (V × V) -> Hp -> Prop),Pe (l.map fun p=>(w p.1,w p.2)) σ H Q (Ex σ)=Mu (l.map fun p=>((fun σ H Q=>w p.1 σ H Q (Ex σ)),fun σ H Q=>w p.2 σ H Q (Ex σ))) σ H Q
 | [],_,_,_=>rfl
 | (k,v) :: r,σ,H,Q=>by
  show w k σ H _ _=w k σ H _ _
  congr 1
  funext x H1
  congr 1
  funext y H2
  exact Nk r σ H2 _
theorem aa4 {w:Expr -> DE} (h:∀ e,QE X e (w e)) {ks vs:List Expr} (hl:ks.length=vs.length) (h0:ks ≠ []) (h15:ks.length <= 15):QE X (.Dict (ks.map some) vs pos) (Bq ((ks.zip vs).map fun p=>(w p.1,w p.2))):=by
 intro Ex mt pins s σ H Q I q
 refine Z0 (Xl h mt pos ks vs hl) (by simp) (by simpa using hl) (by simpa using h0) (by simpa using h15) pins s σ H Q I ?_
 intro p hp
 have q:=q p hp
 rw [Nk] at q
 exact q
theorem Uw {a:Expr} {da:DE} {p2 pos2:Pos} (hc:X.calm=true) (hg:Gl X "len") (hm:X.mg "len" = none) (hg2:Gl X "set") (hm2:X.mg "set" = none) (ha:QE X a da) (hs:noStar a=true) :
  QE X (.Call (.Name "len" p) [.Call (.Name "set" p2) [a] [] pos2] [] pos) (dUn (Ht X.K) da):=by
 intro Ex mt pins s σ H Q I h
 refine wpAny_Call_Name_kw (Er I hg hm PySem.boot_len (PyProof.Rows.callWith_builtin1 (Calls.spliced_cons ?_) rfl rfl) (by decide) (by decide))
 refine wpAny_Call_Name_kw (Er I hg2 hm2 PyProof.Rows.boot_set (PyProof.Rows.callWith_type1 ?_ (As hs [] X.env) rfl) (by decide) (by decide))
 rw [As hs]
 show wpAny _ _ (spliced ((false,eval a X.env) :: backTo pos2 (starEach [] X.env))) _ _ s
 refine Calls.spliced_cons (thn (ha Ex mt pins s σ H _ I h) fun u s1 ⟨x,H1,I1,r1,q1⟩=>Calls.spliced_nil ?_)
 exact thn (Zn hc I1 r1 q1) fun v s2 q=>Calls.spliced_nil q
end
def Itst (lo st:Int) (n:Nat):It:=⟨fun i _=>i < n,fun i H x H'=>H' = H /\ x = .int (lo + (i:Int) * st),fun i _=>n <= i⟩
theorem Vb {P:Program} {w:World} {K:PySem.W.Frag} {tg:Expr} (it:Addr) (lo st:Int) (n:Nat):Turn P w K tg (Itst lo st n) [it] it (fun i h=>IsRangeIter h it (lo + (i:Nat) * st) ((n:Int) - (i:Nat)) st) where
 mem:=List.mem_singleton.mpr rfl
 obj:=fun i h q b hb=>by
  obtain rfl:=List.mem_singleton.mp hb
  exact ⟨_,q,fun v z=>by cases (show Data.fields _=Data.cell v from z)⟩
 keep:=fun i h h' q k=>k it (List.mem_singleton.mpr rfl) _ q
 item:=by
  intro X hP hw hK hc i pins s σ H E I hf q go
  subst hP hw hK
  obtain ⟨g0,g1,_,g3,g4,g5⟩:=hf it (List.mem_singleton.mpr rfl)
  refine (Walks.range (prog:=X.prog) (w:=X.w) (I.ok.hd hc) it lo st n).item i s _ _ go q fun v h' tk hv q' kk=>?_
  obtain ⟨t,rfl⟩:=hv
  have I1:Inv X pins σ H { s with heap:=h',toks:=tk }:=I.turned (fun b o nb e=>kk b o (fun z=>nb (List.mem_singleton.mp z)) e) g0 g1 g3 g4 g5
  exact ⟨_,rfl,Kv (s:={ s with heap:=h',toks:=tk }) (n := "range_iterator") q' rfl rfl (by decide) ⟨.int (lo + (i:Int) * st),H,I1,⟨t,rfl⟩,⟨rfl,rfl⟩,q',fun b hb=>(hf b hb).1⟩⟩
 done:=by
  intro X hP hw hK hc i pins s σ H E I hf q go
  subst hP hw hK
  obtain ⟨g0,g1,_,g3,g4,g5⟩:=hf it (List.mem_singleton.mpr rfl)
  exact wpAny_pyNext_range_end (I.ok.hd hc) q (by have:n <= i:=go;omega) fun h' eb=>⟨rfl,I.turned (t':=s.toks) (fun b o nb e=>eb b o nb e) g0 g1 g3 g4 g5⟩
 self:=fun _ _ _ _ _ q h=>wpAny_pyIter_rangeiter q h
section
variable {X:Cx} {tg:Expr}
theorem ac4 {pins:List (Addr × Obj)} {σ:St} {H:Hp} {s:Shared} {R:It -> Hp -> Prop} {E:Value -> Shared -> Prop} {lo hi st:Int} {t u v:Tok} {tk:Nat} (I:Inv X pins σ H s) (sm:Builtin.Range.small lo hi st=true)
  (q:R (Itst lo st (Builtin.Range.rangeSize lo hi st).toNat) H):wpAny (model X.prog X.w) X.A (pyIter (.ref s.heap.objs.size)) (PIE X pins σ tg R) E { s with heap:=s.heap.push { cls:=.type "range", data:=.fields #[.int lo t,.int hi u,.int st v] },toks:=tk }:=by
 refine wpAny_pyIter_range (IsRange.new ..) sm ?_
 have I1:Inv X pins σ H { s with heap:=s.heap.push { cls:=.type "range", data:=.fields #[.int lo t,.int hi u,.int st v] },toks:=tk }:=I.kept fun b o e=>Heap.get?_push_of_some _ e
 generalize s.heap.push { cls:=.type "range", data:=.fields #[.int lo t,.int hi u,.int st v] }=h1 at I1 ⊢
 refine ⟨h1.objs.size,[h1.objs.size],_,_,H,rfl,I1.kept (t':=tk) fun b o e=>Heap.get?_push_of_some _ e,Vb _ lo st (Builtin.Range.rangeSize lo hi st).toNat,?_,fun b hb=>?_,q⟩
 ·have e:lo + ((0:Nat):Int) * st=lo:=by rw [Int.natCast_zero,Int.zero_mul,Int.add_zero]
  have f:(((Builtin.Range.rangeSize lo hi st).toNat:Nat):Int) - ((0:Nat):Int)=Builtin.Range.rangeSize lo hi st:=by
   rw [<- rangeSize_toNat,Int.natCast_zero,Int.sub_zero]
  show IsRangeIter _ _ (lo + ((0:Nat):Int) * st) ((((Builtin.Range.rangeSize lo hi st).toNat:Nat):Int) - ((0:Nat):Int)) st
  rw [e,f]
  exact Heap.get?_push_size _ rfl
 ·obtain rfl:=List.mem_singleton.mp hb
  exact I1.fpOk (Nat.le_refl _) (I1.hok.fresh (Nat.le_refl _))
end
def QI (X:Cx) (tg e:Expr) (t:DI):Prop:=∀ Ex,Bv X Ex -> PI X tg e (fun σ H R=>t σ H R (Ex σ))
def iNo:DI:=fun _ _ _ _=>False
def onD (p:Addr) (H:Hp) (R:Obj -> List (Key × V) -> Hp -> Prop):Prop:=(∃ kvs,H p=some (.dK kvs) /\ ∀ o,R o kvs (upd H p (.frz o (.dK kvs)))) \/ ∃ o kvs,H p=some (.frz o (.dK kvs)) /\ R o kvs H
theorem Xa {X:Cx} {pins:List (Addr × Obj)} {σ:St} {H:Hp} {s:Shared} {p:Addr} {R:Obj -> List (Key × V) -> Hp -> Prop} (I:Inv X pins σ H s) (h:onD p H R):∃ o kvs H',Inv X pins σ H' s /\ H' p=some (.frz o (.dK kvs)) /\ R o kvs H':=by
 rcases h with ⟨kvs,e,q⟩ | ⟨o,kvs,e,q⟩
 ·obtain ⟨o,ep,_,_,I'⟩:=I.froze e
  exact ⟨o,kvs,_,I',Ac,q o⟩
 ·exact ⟨o,kvs,H,I,e,q⟩
def iVal (K:PySem.W.Frag) (a:DE):DI:=fun σ H R E=>a σ H (fun x H1=>match x with
 | .str z=>R (Its z) H1
 | .ref p=>((∃ xs,SqL K H1 p xs) /\ R (Itl K p) H1) \/ ((∃ xs,SqT K H1 p xs) /\ R (Itt K p) H1) \/ onD p H1 fun o kvs H2=>R (Itd p o kvs) H2
 | _=>False) E
def iRng (t:DA):DI:=fun σ H R E=>t σ H (fun vs H1=>match vs with
 | [.int j]=>(-(2 ^ 62) <= j /\ j < 2 ^ 62) /\ R (Itr 0 j.toNat) H1
 | [.int i,.int j]=>(-(2 ^ 62) <= i /\ i < 2 ^ 62 /\ -(2 ^ 62) <= j /\ j < 2 ^ 62) /\ R (Itr i (j - i).toNat) H1
 | [.int i,.int j,.int k]=>(Builtin.Range.small i j k=true /\ 1 <= k /\ k <= 1000) /\ R (Itst i k (Builtin.Range.rangeSize i j k).toNat) H1
 | _=>False) E
def iEn (K:PySem.W.Frag) (t:DA):DI:=fun σ H R E=>t σ H (fun vs H1=>match vs with
 | [.ref a]=>((∃ xs,SqL K H1 a xs) /\ R (Ite K a) H1) \/ onD a H1 fun o kvs H2=>R (Itde a o kvs) H2
 | _=>False) E
section
variable {X:Cx} {tg e a b:Expr} {da:DE} {r:DA} {p pos:Pos}
theorem af7:QI X tg e iNo:=fun _ _ _ _ _ _ _ _ h=>h.elim
theorem aq4 (ha:QE X e da):QI X tg e (iVal X.K da):=by
 intro Ex mt pins s σ H R I h
 refine thn (ha Ex mt pins s σ H _ I h) fun v s1 ⟨x,H1,I1,r1,q1⟩=>?_
 cases x with
 | str z=>
  obtain ⟨t,rfl⟩:=r1
  refine wpAny_pyIter_strU ?_
  refine ⟨s1.heap.objs.size,[s1.heap.objs.size],_,_,H1,rfl,I1.kept (t':=s1.toks) fun b o e=>Heap.get?_push_of_some _ e,Yq s1.heap.objs.size z t (strIterType z) (by unfold strIterType;split <;> simp),⟨_,Heap.get?_push_size _ rfl,rfl,rfl⟩,fun b hb=>?_,q1⟩
  have e:b=s1.heap.objs.size:=by simpa using hb
  subst e
  exact I1.fpOk (Nat.le_refl _) (I1.hok.fresh (Nat.le_refl _))
 | ref a=>
  cases r1
  rcases q1 with ⟨⟨xs,hq⟩,q⟩ | ⟨⟨xs,hq⟩,q⟩ | q
  ·obtain ⟨its,rv,p,hz⟩:=I1.list hq
   refine wpAny_pyIter_list p.isList ?_
   refine ⟨s1.heap.objs.size,[s1.heap.objs.size],_,_,H1,rfl,I1.kept (t':=s1.toks) fun b o e=>Heap.get?_push_of_some _ e,Va a _,⟨_,Heap.get?_push_size _ rfl,rfl,rfl⟩,fun b hb=>?_,q⟩
   have e:b=s1.heap.objs.size:=by simpa using hb
   subst e
   exact I1.fpOk (Nat.le_refl _) (I1.hok.fresh (Nat.le_refl _))
  ·obtain ⟨its,rv,p,hz⟩:=I1.tuple hq
   refine wpAny_pyIter_tuple (show s1.heap.IsTuple a its.toArray from p) ?_
   refine ⟨s1.heap.objs.size,[s1.heap.objs.size],_,_,H1,rfl,I1.kept (t':=s1.toks) fun b o e=>Heap.get?_push_of_some _ e,Qq a _,⟨_,Heap.get?_push_size _ rfl,rfl,rfl⟩,fun b hb=>?_,q⟩
   have e:b=s1.heap.objs.size:=by simpa using hb
   subst e
   exact I1.fpOk (Nat.le_refl _) (I1.hok.fresh (Nat.le_refl _))
  ·obtain ⟨o,kvs,H2,I2,e,q⟩:=Xa I1 q
   exact Za I2 e q
 | _=>exact (show False from q1).elim
variable {es:List Expr}
theorem Xx (hg:Gl X "range") (hm:X.mg "range" = none) (ha:QA X (a :: es) r) (hs:(a :: es).all noStar=true):QI X tg (.Call (.Name "range" p) (a :: es) [] pos) (iRng r):=by
 intro Ex mt pins s σ H R I h
 have h2:=List.all_cons ▸ hs
 rw [Bool.and_eq_true] at h2
 refine Call_ (Er I hg hm boot_range (PyProof.Rows.callWith_type1 (thn (ha Ex mt pos pins s σ H _ I h) fun us s1 ⟨vs,H1,I1,r1,q1⟩=>?_) (As h2.1 es X.env) (Ay h2.2 X.env pos)))
 dsimp only at q1
 split at q1
 ·obtain ⟨⟨h1,h2⟩,q⟩:=q1
  obtain ⟨u,rfl,t,rfl⟩:=Fr r1
  exact call_range_1 (Oj I1 (by omega) (by omega) h1 h2 (by simpa using q))
 ·obtain ⟨⟨h1,h2,h3,h4⟩,q⟩:=q1
  obtain ⟨u,v,rfl,⟨t,rfl⟩,⟨t',rfl⟩⟩:=Yu r1
  exact call_range_2 (Oj I1 h1 h2 h3 h4 q)
 ·obtain ⟨⟨h1,h2,h3⟩,q⟩:=q1
  cases r1 with
  | cons ra rr=>cases rr with
   | cons rb rr=>cases rr with
    | cons rc rr=>
     cases rr
     obtain ⟨t,rfl⟩:=ra
     obtain ⟨t',rfl⟩:=rb
     obtain ⟨t2,rfl⟩:=rc
     exact call_range_3 (by omega) (ac4 I1 h1 q) (.inl (PyProof.noPylong_small (by omega)))
 ·exact q1.elim
theorem aa9 {elts:List Expr} {kt:Nat} {pt:Pos} (hg:Gl X "enumerate") (hm:X.mg "enumerate" = none) (ha:QA X (a :: es) r) (hs:(a :: es).all noStar=true):QI X (.Tuple elts kt pt) (.Call (.Name "enumerate" p) (a :: es) [] pos) (iEn X.K r):=by
 intro Ex mt pins s σ H R I h
 have hh:=List.all_cons ▸ hs
 rw [Bool.and_eq_true] at hh
 refine Call_ (Er I hg hm boot_enumerate (PyProof.Rows.callWith_type1 (thn (ha Ex mt pos pins s σ H _ I h) fun us s1 ⟨vs,H1,I1,r1,q1⟩=>?_) (As hh.1 es X.env) (Ay hh.2 X.env pos)))
 dsimp only at q1
 split at q1
 ·rename_i l
  obtain ⟨u,rfl,ru⟩:=Fr r1
  cases ru
  rcases q1 with ⟨⟨xs,q1⟩,q⟩ | q
  case inr=>
   obtain ⟨o,kvs,H2,I2,e,q⟩:=Xa I1 q
   exact Wb I2 e q
  obtain ⟨its1,t1,p1,z1⟩:=I1.list q1
  refine call_enumerate_list p1.isList fun h' he hit hsz hk=>?_
  refine wpAny_pyIter_enum he ?_
  refine ⟨_,_,_,_,H1,rfl,I1.kept (t':=s1.toks) hk,U9 (Nat.succ_ne_self _),⟨⟨_,he⟩,hit⟩,fun b hb=>?_,q⟩
  have hb:b=s1.heap.objs.size + 1 \/ b=s1.heap.objs.size:=by simpa using hb
  have le:s1.heap.objs.size <= b:=by
   rcases hb with e | e
   ·rw [e];exact Nat.le_add_right _ 1
   ·rw [e];exact Nat.le_refl _
  exact I1.fpOk le (I1.hok.fresh le)
 ·exact q1.elim
def gNo:DG:=fun _ _ _ _=>False
def gdS:List DG -> List V -> St -> Hp -> (St -> Hp -> Prop) -> Prop
 | [],[],σ,H,Q=>Q σ H
 | g :: gs,v :: vs,σ,H,Q=>g v σ H fun σ' H'=>gdS gs vs σ' H' Q
 | _,_,_,_,_=>False
def gdT (K:PySem.W.Frag) (n:Nat) (gs:List DG):DG:=fun v σ H Q=>match v with
 | .ref a=>∃ xs,SqT K H a xs /\ xs.length=n /\ gdS gs xs σ H Q
 | _=>False
theorem Ob:PG X tg gNo:=fun _ _ _ _ _ _ _ _ _ h=>h.elim
theorem a30:PGs X [] (gdS []):=by
 intro pins s σ H vs us Q I r h
 cases vs with
 | nil=>exact Z2 pins s σ H [] us Q I r ⟨rfl,h⟩
 | cons v vs=>exact (show False from h).elim
theorem a29 {g:DG} {gs:List DG} {ts:List Expr} (h1:PG X tg g) (h2:PGs X ts (gdS gs)) (hs:(assignEach (tg :: ts) X.env).map (·.2)=assign tg X.env :: (assignEach ts X.env).map (·.2)):PGs X (tg :: ts) (gdS (g :: gs)):=by
 intro pins s σ H vs us Q I r h
 cases vs with
 | nil=>exact (show False from h).elim
 | cons v vs=>exact Xf h1 h2 hs pins s σ H (v :: vs) us Q I r ⟨v,vs,rfl,h⟩
theorem pg_T {ts:List Expr} {k n:Nat} {gs:List DG} (hc:X.calm=true) (h:PGs X ts (gdS gs)) (hn:(assignEach ts X.env).length=n) (hst:(assignEach ts X.env).findIdx? (·.1)=none):PG X (.Tuple ts k pos) (gdT X.K n gs):=by
 intro pins s σ H v u Q I r hw
 cases v with
 | ref a=>exact ao2 hc h hn hst pins s σ H _ u Q I r (let ⟨xs,h1,h2,h3⟩:=hw;⟨a,xs,rfl,h1,h2,h3⟩)
 | _=>exact (show False from hw).elim
end
def B2 (cs:List (Str × Addr)):List (Str × NameKind) -> List (Str × Addr) -> List (Str × Addr)
 | [],acc=>acc
 | (n,k) :: r,acc=>if k == .free then B2 cs r ((n,(cs.lookup n).getD 0) :: acc) else B2 cs r acc
theorem J7 {scope:Scope} {env:Env} (h:∀ y ∈ scope.names,y.2 = .free -> ∃ c,env.cells.lookup y.1=some c):closureFor scope env=pure (B2 env.cells scope.names []):=by
 unfold closureFor
 generalize scope.names=names at h
 suffices ∀ acc,(forIn names acc fun (x:Str × NameKind) cs=>do
   if (x.2 == .free)=true then do
    let c <- cellOf env x.1
    pure (ForInStep.yield ((x.1,c) :: cs))
   else pure (ForInStep.yield cs):Sem (List (Str × Addr)))=pure (B2 env.cells names acc) by
  have:=this []
  simp only [bind_pure]
  exact this
 induction names with
 | nil=>intro acc;rfl
 | cons y r ih=>
  intro acc
  obtain ⟨n,k⟩:=y
  rw [List.forIn_cons]
  unfold B2
  by_cases e:(k == NameKind.free)=true
  ·obtain ⟨c,hc⟩:=h (n,k) (by simp) (eq_of_beq e)
   have ec:cellOf env n=pure c:=by
    unfold cellOf
    rw [show env.cells.lookup n=some c from hc]
   simp only [e,if_true,ec,pure_bind]
   rw [ih (fun y hy=>h y (List.mem_cons_of_mem _ hy))]
   rw [show env.cells.lookup n=some c from hc]
   rfl
  ·have e':(k == NameKind.free)=false:=by simpa using e
   simp only [e',Bool.false_eq_true,if_false,pure_bind]
   rw [ih (fun y hy=>h y (List.mem_cons_of_mem _ hy))]
theorem Fu {cs:List (Str × Addr)}:∀ {names:List (Str × NameKind)} {acc:List (Str × Addr)} {p:Str × Addr},p ∈ B2 cs names acc -> p ∈ acc \/ ((p.1,NameKind.free) ∈ names /\ p.2=(cs.lookup p.1).getD 0)
 | [],_,_,h=>.inl h
 | (n,k) :: r,acc,p,h=>by
  unfold B2 at h
  by_cases e:(k == NameKind.free)=true
  ·rw [if_pos e] at h
   rcases Fu h with h | ⟨h1,h2⟩
   ·rcases List.mem_cons.mp h with h | h
    ·subst h
     exact .inr ⟨by rw [eq_of_beq e];simp,rfl⟩
    ·exact .inl h
   ·exact .inr ⟨List.mem_cons_of_mem _ h1,h2⟩
  ·rw [if_neg e] at h
   rcases Fu h with h | ⟨h1,h2⟩
   ·exact .inl h
   ·exact .inr ⟨List.mem_cons_of_mem _ h1,h2⟩
theorem Ft {cs:List (Str × Addr)}:∀ {names:List (Str × NameKind)} {acc:List (Str × Addr)} {p:Str × Addr},p ∈ acc -> p ∈ B2 cs names acc
 | [],_,_,h=>h
 | (n,k) :: r,acc,p,h=>by
  unfold B2
  split
  ·exact Ft (List.mem_cons_of_mem _ h)
  ·exact Ft h
theorem Kk {cs:List (Str × Addr)}:∀ {names:List (Str × NameKind)} {acc:List (Str × Addr)} {n:Str},(n,NameKind.free) ∈ names -> n ∈ (B2 cs names acc).map (·.1)
 | [],_,_,h=>by cases h
 | (m,k) :: r,acc,n,h=>by
  unfold B2
  rcases List.mem_cons.mp h with e | h
  ·cases e
   rw [if_pos (show (NameKind.free == NameKind.free)=true from rfl)]
   exact List.mem_map.mpr ⟨_,Ft (List.mem_cons_self),rfl⟩
  ·split <;> exact Kk h
def relN (sc:List (Str × NameKind)) (names:List (Str × NameKind)):List (Str × NameKind):=names.map fun (n,k)=>if (k == .free && sc.lookup n == some .cell) then (n,.cell) else (n,k)
def locN (names:List (Str × NameKind)):List Str:=(names.filter fun y=>(y.2 == .local) && !(y.1 == (".0" : Str))).map (·.1)
def freN (names:List (Str × NameKind)):List Str:=(names.filter fun y=>y.2 == .free).map (·.1)
def cfV (o:Option NameKind):Bool:=o == some .cell || o == some .free
def B3 (G:Sg) (names:List (Str × NameKind)):Sg:={ G with N:=locN names ++ freN names,sc:=relN G.sc names,top:=false }
def Ed (G:Sg) (names:List (Str × NameKind)):List (Option Nat):=(locN names).map (fun _=>none) ++ (freN names).map (fun x=>Bs G.N x 0)
def Dr (G:Sg) (sc:Scope):Bool:=
 (sc.names.all fun y=>!(y.2 == .cell)) && (sc.names.all fun y=>!(y.2 == .local) || (sc.names.lookup y.1 == some .local)) && (sc.kind == .function) &&
 decide (locN sc.names ++ freN sc.names).Nodup && ((freN sc.names).all fun x=>(Bs G.N x 0).isSome && cfV (G.sc.lookup x) && cfV ((relN G.sc sc.names).lookup x)) &&
 ((locN sc.names).all fun x=>(relN G.sc sc.names).lookup x == some .local)
section
variable {X:Cx} {G:Sg} {sc:Scope}
theorem E9 {o:Option NameKind} (h:cfV o=true):o=some .cell \/ o=some .free:=by
 unfold cfV at h
 rw [Bool.or_eq_true] at h
 exact h.elim (fun e=>.inl (eq_of_beq e)) fun e=>.inr (eq_of_beq e)
theorem Ey (O:GOk X G):(relabel sc X.env).names=relN G.sc sc.names:=by
 unfold relabel relN
 apply List.map_congr_left
 rintro ⟨n,k⟩ _
 have e:X.env.kindOf n=G.sc.lookup n:=O.sc n
 dsimp only
 rw [e,O.kind]
 simp
theorem Lw (O:GOk X G) (h:Dr G sc=true):Hv X (B3 G sc.names).N (Ed G sc.names) sc (B2 X.env.cells sc.names []):=by
 unfold Dr at h
 simp only [Bool.and_eq_true,List.all_eq_true,Bool.not_eq_true',decide_eq_true_eq,Bool.or_eq_true] at h
 obtain ⟨⟨⟨⟨⟨h1,h2⟩,h3⟩,h4⟩,h5⟩,h6⟩:=h
 have fr:∀ y ∈ sc.names,y.2 = .free -> ∃ c,X.env.cells.lookup y.1=some c:=fun y hy hf=>by
  refine O.cel y.1 ?_
  rw [O.sc]
  refine E9 (h5 y.1 ?_).1.2
  exact List.mem_map.mpr ⟨y,List.mem_filter.mpr ⟨hy,by rw [hf];rfl⟩,rfl⟩
 have nc:∀ y ∈ sc.names,y.2 ≠ .cell:=fun y hy e=>by
  have:=h1 y hy
  rw [e] at this
  cases this
 refine ⟨J7 fr,nc,eq_of_beq h3,fun y hy hl=>?_,fun x c hx=>?_,fun x hx=>?_,?_,fun k j x e1 e2=>?_⟩
 ·rcases h2 y hy with z | z
  ·rw [hl] at z;cases z
  ·exact eq_of_beq z
 ·have hm:=PySem.mem_of_lookup hx
  rcases Fu hm with z | ⟨z1,z2⟩
  ·cases z
  ·obtain ⟨c',hc'⟩:=fr _ z1 rfl
   have z2':c=(X.env.cells.lookup x).getD 0:=z2
   rw [show X.env.cells.lookup x=some c' from hc'] at z2' ⊢
   rw [z2']
   rfl
 ·have hn:(relabel sc X.env).names=relN G.sc sc.names:=Ey O
  have key:∀ kd,(relabel sc X.env).names.lookup x=some kd -> cfV (some kd)=true -> ∃ c,(B2 X.env.cells sc.names []).lookup x=some c:=fun kd hkd hc=>by
   rw [hn] at hkd
   have hm:=PySem.mem_of_lookup hkd
   unfold relN at hm
   obtain ⟨⟨n,k⟩,hy,e⟩:=List.mem_map.mp hm
   dsimp only at e
   have hfree:k = .free /\ n=x:=by
    have hkc:=nc _ hy
    by_cases e1:(k == NameKind.free && G.sc.lookup n == some .cell)=true
    ·rw [if_pos e1] at e
     rw [Bool.and_eq_true] at e1
     exact ⟨eq_of_beq e1.1,congrArg Prod.fst e⟩
    ·rw [if_neg e1] at e
     cases e
     rcases E9 hc with z | z
     ·exact absurd (Option.some.inj z) hkc
     ·exact ⟨Option.some.inj z,rfl⟩
   obtain ⟨rfl,rfl⟩:=hfree
   exact Ww (Kk hy)
  rcases hx with hx | hx
  ·exact key _ hx rfl
  ·exact key _ hx rfl
 ·unfold Ed B3
  simp
 ·have e1':(locN sc.names ++ freN sc.names)[k]? = some x:=e1
  have e2':((locN sc.names).map (fun _=>(none:Option Nat)) ++ (freN sc.names).map (fun x=>Bs G.N x 0))[k]? = some (some j):=e2
  by_cases hlt:k < (locN sc.names).length
  ·rw [List.getElem?_append_left (by simpa using hlt),List.getElem?_map] at e2'
   cases q:(locN sc.names)[k]? with
   | none=>rw [q] at e2';cases e2'
   | some z=>rw [q] at e2';cases e2'
  ·rw [List.getElem?_append_right (by simpa using hlt)] at e1' 
   rw [List.getElem?_append_right (by simpa using hlt),List.length_map,List.getElem?_map,e1'] at e2'
   have hs:Bs G.N x 0=some j:=Option.some.inj e2'
   have hx:x ∈ freN sc.names:=List.mem_of_getElem? e1'
   obtain ⟨⟨_,c1⟩,c2⟩:=h5 x hx
   refine ⟨by rw [O.N];exact C9 hs,?_,?_⟩
   ·rw [O.sc];exact E9 c1
   ·rw [Ey O];exact E9 c2
theorem Q7 (O:GOk X G) (h:Dr G sc=true) (fp:List Addr) (C:Addr) (s:Shared) (H:Hp) (xe:Value -> Shared -> Prop) :
  GOk (X.comp (B3 G sc.names).N sc (B2 X.env.cells sc.names []) fp C s H xe) (B3 G sc.names):=by
 have S:=Lw O h
 unfold Dr at h
 simp only [Bool.and_eq_true,List.all_eq_true,Bool.not_eq_true',decide_eq_true_eq,Bool.or_eq_true] at h
 obtain ⟨⟨⟨⟨⟨h1,h2⟩,h3⟩,h4⟩,h5⟩,h6⟩:=h
 have hn:(relabel sc X.env).names=relN G.sc sc.names:=Ey O
 refine ⟨O.K,eq_of_beq h3,(fun z=>by cases z),rfl,h4,fun x=>?_,fun x hx=>?_,fun z=>(by cases z),O.calm,O.hd,O.units,fun x hx=>S.has x hx,fun x i e=>?_,O.val,O.bl,fun x C oi e=>?_,fun x C oi e=>?_,fun m l e mi hm=>?_,fun z=>(by cases z),O.fr⟩
 ·show (relabel sc X.env).names.lookup x=_
  rw [hn]
  rfl
 ·show Vis (relabel sc X.env) x
  unfold Vis
  rw [hn]
  rcases List.mem_append.mp hx with q | q
  ·exact .inl (eq_of_beq (h6 x q))
  ·exact .inr (E9 (h5 x q).2)
 ·obtain ⟨m,F⟩:=O.fn x i e
  obtain ⟨CX,p,f⟩:=F.ok
  exact ⟨m,⟨F.kp,⟨CX,p,f⟩,F.room,F.binds,F.vals⟩⟩
 ·obtain ⟨m,k,c,i0⟩:=O.exc x C oi e
  refine ⟨m,k,c,?_⟩
  cases oi with
  | none=>exact i0
  | some i=>obtain ⟨a1,a2,F,r⟩:=i0;obtain ⟨CX,p,f⟩:=F.ok;exact ⟨a1,a2,⟨F.kp,⟨CX,p,f⟩,F.room,F.binds,F.vals⟩,r⟩
 ·obtain ⟨m,k,i0⟩:=O.cls x C oi e
  refine ⟨m,k,?_⟩
  cases oi with
  | none=>exact i0
  | some i=>
   obtain ⟨a,b,c,F,r⟩:=i0
   obtain ⟨CX,p,f⟩:=F.ok
   exact ⟨a,b,c,⟨F.kp,⟨CX,p,f⟩,F.room,F.binds,F.vals⟩,r⟩
 ·obtain ⟨a,b,F⟩:=O.met m l e mi hm
  obtain ⟨CX,p,f⟩:=F.ok
  exact ⟨a,b,⟨F.kp,⟨CX,p,f⟩,F.room,F.binds,F.vals⟩⟩
end
def En:St -> Hp -> (Option Int -> Hp -> Prop) -> EK -> Prop:=fun _ H Q _=>Q none H
def Fb (a:DE):St -> Hp -> (Option Int -> Hp -> Prop) -> EK -> Prop:=fun σ H Q E=>a σ H (fun x H1=>match x with
 | .int i=>Q (some i) H1
 | _=>False) E
abbrev DO:=St -> Hp -> (Option Int -> Hp -> Prop) -> EK -> Prop
def rSlD (K:PySem.W.Frag):V -> Option Int -> Option Int -> Hp -> VK -> Prop:=fun x lo hi H Q=>match x with
 | .str z=>z.length <= sizeLine /\ Q (.str (Txt.slice z lo hi)) H
 | .ref a=>(∃ xs,SqL K H a xs /\ ∀ p,H p=none -> Q (.ref p) (upd H p (.lst (cutV xs lo hi)))) \/
   (∃ xs,SqT K H a xs /\ ¬ (HT.sIx xs.length 0 lo=0 /\ HT.sIx xs.length xs.length hi=xs.length) /\ ∀ p,H p=none -> Q (.ref p) (upd H p (.tup (cutV xs lo hi))))
 | _=>False
def dSl (K:PySem.W.Frag) (a:DE) (l h:DO):DE:=fun σ H Q E=>a σ H (fun x H1=>l σ H1 (fun lo H2=>h σ H2 (fun hi H3=>rSlD K x lo hi H3 Q) E) E) E
def QO (X:Cx) (e:Option Expr) (t:DO):Prop:=∀ Ex,Bv X Ex -> PO X e (fun σ H Q=>t σ H Q (Ex σ))
section
variable {X:Cx} {G:Sg} {e:Expr} {de:DE} {lo hi:Option Expr} {dl dh:DO} {pos p2:Pos}
theorem Rq:QO X none En:=fun _ _=>Z3
theorem Rr (h:QE X e de):QO X (some e) (Fb de):=by
 intro Ex m pins s σ H Q I hw
 rw [evalPart_some]
 refine thn (h Ex m pins s σ H _ I hw) fun u s1 ⟨x,H1,I1,r1,q1⟩=>?_
 cases x with
 | int i=>obtain ⟨t,rfl⟩:=r1;exact ⟨some i,H1,I1,.int i t,q1⟩
 | _=>exact (show False from q1).elim
theorem Mb (e:Expr) (z:Str) (t:Tok) (r:Value):letTemporaryGo e (.str z t) r=pure ():=by
 cases e <;> rfl
theorem Xw (he:QE X e de) (hl:QO X lo dl) (hh:QO X hi dh):QE X (.Subscript e (.Slice lo hi none p2) pos) (dSl X.K de dl dh):=by
 intro Ex m pins s σ H Q I h
 refine Subscript_ (thn (he Ex m pins s σ H _ I h) fun v s1 ⟨x,H1,I1,r1,q1⟩=>?_)
 refine wpAny_Slice (thn (hl Ex m pins s1 σ H1 _ I1 q1) fun vl s2 ⟨l,H2,I2,pl,q2⟩=>thn (hh Ex m pins s2 σ H2 _ I2 q2) fun vu s3 ⟨u,H3,I3,pu,q3⟩=>?_)
 rw [evalPart_none]
 refine wpAny_pure ?_
 show wpAny (model X.prog X.w) X.A (subscriptTail e (.Slice lo hi none p2) v (.ref s3.heap.objs.size)) (EP X pins σ Q) X.xe { s3 with heap:=s3.heap.push { cls:=.type "slice", data:=.fields #[vl,vu,.none] } }
 have I4:Inv X pins σ H3 { s3 with heap:=s3.heap.push { cls:=.type "slice", data:=.fields #[vl,vu,.none] } }:=I3.kept (t':=s3.toks) fun b ob q=>Heap.get?_push_of_some _ q
 have gen:∀ r,SlR X r -> r x l u H3 Q -> wpAny (model X.prog X.w) X.A (subscriptTail e (.Slice lo hi none p2) v (.ref s3.heap.objs.size)) (EP X pins σ Q) X.xe { s3 with heap:=s3.heap.push { cls:=.type "slice", data:=.fields #[vl,vu,.none] } }:=fun r hr q=>by
  obtain ⟨T,id,hT,ht,hg⟩:=hr pins _ σ H3 x v vl vu l u s3.heap.objs.size Q I4 r1 (Heap.IsSliceOf.new ..) pl pu q
  exact tail_any (ops:=[.ref s3.heap.objs.size,v]) ht hT hg (by with_unfolding_all rfl)
 cases x with
 | str z=>
  obtain ⟨hz,q⟩:=q3
  obtain ⟨t,rfl⟩:=r1
  have hk:KeptH (fun h=>Inv X pins σ H3 { s3 with heap:=h }):=fun h ob J=>J.kept (t':=s3.toks) fun b o eb=>Heap.get?_push_of_some _ eb
  have fin:∀ h' t' k,Inv X pins σ H3 { s3 with heap:=h' } -> EP X pins σ Q (.str (Txt.slice z l u) t') { s3 with heap:=h',toks:=k }:=fun h' t' k J=>⟨.str _,H3,J.tok k,⟨_,rfl⟩,q⟩
  cases pl with
  | none=>
   cases pu with
   | none=>exact tail_of_ItemOn (SBH.sliceItem_nn hk I3 fin hz) (by with_unfolding_all rfl) (Mb e z t)
   | int j uj=>exact tail_of_ItemOn (SBH.sliceItem_ns hk I3 fin hz) (by with_unfolding_all rfl) (Mb e z t)
  | int i ui=>
   cases pu with
   | none=>exact tail_of_ItemOn (SBH.sliceItem_sn hk I3 fin hz) (by with_unfolding_all rfl) (Mb e z t)
   | int j uj=>exact tail_of_ItemOn (SBH.sliceItem_ss hk I3 fin hz) (by with_unfolding_all rfl) (Mb e z t)
 | ref a=>
  rcases q3 with ⟨xs,h1,h2⟩ | ⟨xs,h1,h2,h3⟩
  ·exact gen _ ac1 ⟨a,xs,rfl,h1,h2⟩
  ·exact gen _ av6 ⟨a,xs,rfl,h1,h2,h3⟩
 | _=>exact (show False from q3).elim
def Il:Expr -> Bool
 | .Set _ _ _=>false
 | _=>true
theorem Im {e:Expr} (h:Il e=true) (env:Env) (x:Value):foldedSetIterable e env x=pure x:=by
 cases e with
 | Set _ _ _=>cases h
 | _=>rfl
theorem Fi:Bv X (fun _ _ _=>False):=fun _ _ _ _ _ _ _ h=>h.elim
variable {tg iter elt:Expr} {ifs:List Expr} {sc:Scope} {wi:DI} {g:DG} {tc:DT}
def okSt (G:Sg) (x:Str):Bool:=(G.sc.lookup x == some .local) || (G.top && (G.sc.lookup x == some .cell))
def wG:Nat -> Sg -> Expr -> DG
 | 0,_,_=>gNo
 | n + 1,G,e=>match e with
  | .Name x _=>match Bs G.N x 0 with
   | some i=>if okSt G x=true then gdN i else gNo
   | none=>gNo
  | .Tuple ts _ _=>if G.calm=true /\ ts.all noStar=true then gdT G.K ts.length (ts.map (wG n G)) else gNo
  | _=>gNo
theorem Md (O:GOk X G) {x:Str} (h:okSt G x=true):Loc X.env.scope x /\ (X.fn x=true \/ X.env.scope.names.lookup x=some .local):=by
 unfold okSt at h
 rw [Bool.or_eq_true,Bool.and_eq_true] at h
 rcases h with h | ⟨h1,h2⟩
 ·have:X.env.scope.names.lookup x=some .local:=by rw [O.sc];exact eq_of_beq h
  exact ⟨.inl this,.inr this⟩
 ·have:X.env.scope.names.lookup x=some .cell:=by rw [O.sc];exact eq_of_beq h2
  exact ⟨.inr this,.inl (O.top h1 x)⟩
theorem Dn {e:Expr} (h:noStar e=true) (es:List Expr) (env:Env):assignEach (e :: es) env=(false,assign e env) :: assignEach es env:=by
 cases e with
 | Starred _ _=>cases h
 | _=>rfl
theorem Hw {es:List Expr} (h:es.all noStar=true) (env:Env):(assignEach es env).length=es.length /\ (assignEach es env).findIdx? (·.1)=none:=by
 induction es with
 | nil=>exact ⟨rfl,rfl⟩
 | cons e es ih=>
  rw [List.all_cons,Bool.and_eq_true] at h
  obtain ⟨h1,h2⟩:=ih h.2
  rw [Dn h.1]
  refine ⟨by rw [List.length_cons,List.length_cons,h1],?_⟩
  rw [List.findIdx?_cons,h2]
  rfl
theorem Ox:∀ (n:Nat) (X:Cx) (G:Sg),GOk X G -> ∀ e,PG X e (wG n G e)
 | 0,_,_,_,_=>Ob
 | n + 1,X,G,O,e=>by
  cases e with
  | Name x p=>
   unfold wG
   dsimp only
   split
   ·rename_i i e
    split
    ·rename_i h
     obtain ⟨h1,h2⟩:=Md O h
     exact Z1 (by rw [O.N];exact O.nd) (by rw [O.N];exact C9 e) h1 h2
    ·exact Ob
   ·exact Ob
  | Tuple ts k p=>
   unfold wG
   dsimp only
   split
   ·rename_i h
    obtain ⟨h1,h2⟩:=h
    obtain ⟨h3,h4⟩:=Hw h2 X.env
    rw [<- O.K]
    refine pg_T (O.calm ▸ h1) ?_ h3 h4
    clear h3 h4
    induction ts with
    | nil=>exact a30
    | cons t ts ih=>
     rw [List.all_cons,Bool.and_eq_true] at h2
     refine a29 (Ox n X G O t) (ih h2.2) ?_
     rw [Dn h2.1]
     rfl
   ·exact Ob
  | _=>exact Ob
end
end L2
namespace L2
open PySem PySem.Spec
structure Qu (l:List Addr) (e C:Addr) (dx:Option Addr) (h h':Heap):Prop where
 exc:∃ (vs':Array Value) (T:Addr) (oT:Obj) (ts':Array Value),h'.get? e=some (Ar C dx vs') /\ vs'.size=6 /\ vs'[1]? = some (.ref T) /\ h.objs.size <= T /\ T ≠ e /\ h'.get? T=some oT /\ oT.data = .fields ts' /\ 3 < ts'.size
 keep:∀ b o,b ≠ e -> b ∉ l -> h.get? b=some o -> h'.get? b=some o
 slot:∀ b o,b ≠ e -> h.get? b=some o -> ∃ sl,h'.get? b=some { o with slots:=sl }
abbrev tbO (fs:Array Value):Obj:={ cls:=.type "traceback", dict:=none,data:=.fields fs }
abbrev Ij (T:Addr):Obj -> Obj:=Obj.mapFields (·.setIfInBounds 1 (.ref T))
abbrev G9 (h:Heap) (e:Addr) (fs:Array Value):Heap:=(h.push (tbO fs)).update e (Ij h.objs.size)
section
variable {h:Heap} {e C:Addr} {dx:Option Addr} {vs fs:Array Value}
theorem apart (q:h.get? e=some (Ar C dx vs)):h.objs.size ≠ e:=Nat.ne_of_gt (Heap.lt_size q)
theorem Nw (T:Addr):(Ij T (Ar C dx vs)).data = .fields (vs.setIfInBounds 1 (.ref T)):=rfl
theorem Pg (q:h.get? e=some (Ar C dx vs)):(G9 h e fs).get? e=some (Ar C dx (vs.setIfInBounds 1 (.ref h.objs.size))):=
 Heap.get?_update_self (Ij h.objs.size) (Heap.get?_push_of_some (tbO fs) q) (Obj.isFreed_of_fields (Nw h.objs.size))
theorem Ph (q:h.get? e=some (Ar C dx vs)):(G9 h e fs).get? h.objs.size=some (tbO fs):=
 (Heap.get?_update_other (h.push (tbO fs)) (Ij h.objs.size) (apart q).symm).trans (Heap.get?_push_size h rfl)
theorem Gk {b:Addr} {o:Obj} (ne:b ≠ e) (q:h.get? b=some o):(G9 h e fs).get? b=some o:=
 (Heap.get?_update_other (h.push (tbO fs)) (Ij h.objs.size) ne.symm).trans (Heap.get?_push_of_some (tbO fs) q)
theorem Pr {h0:Heap} {l:List Addr} (hz:h.objs.size=h0.objs.size) (k1:∀ b,b ∉ l -> h.get? b=h0.get? b) (k2:∀ b o,h0.get? b=some o -> ∃ sl,h.get? b=some { o with slots:=sl }) (q:h.get? e=some (Ar C dx vs)) (hs:vs.size=6) (hf:3 < fs.size) :
  Qu l e C dx h0 (G9 h e fs) where
 exc:=⟨_,h.objs.size,_,_,Pg q,by rw [Array.size_setIfInBounds];exact hs,Array.getElem?_setIfInBounds_self_of_lt (by omega),by omega,apart q,Ph q,rfl,hf⟩
 keep:=fun b o ne nl hb=>Gk ne ((k1 b nl).trans hb)
 slot:=fun b o ne hb=>let ⟨sl,z⟩:=k2 b o hb;⟨sl,Gk ne z⟩
end
section
variable {M:Model} {A:Around} {E:Value -> Shared -> Prop} {s:Shared} {base:Heap} {env:Env} {outer:List Env} {L e C:Addr} {dx:Option Addr} {vs:Array Value} {Q:Unit -> Shared -> Prop}
theorem Uj {head:Value} {hadNext:Bool} {env0:Env} (hfr:A.frames=some (env0 :: outer)) (hl:s.heap.FunFrames base (env0 :: outer)) (h0:env0.frame=some L) (hf:env.frame=some L) (q:s.heap.get? e=some (Ar C dx vs)) (hs:vs.size=6) (k:∀ h',Qu (frs (env0 :: outer)) e C dx s.heap h' -> Q () { s with heap:=h' }) :
  wpAny M A ((frameOf env >>= fun a=>entryPlaceOf L hadNext >>= fun pl=>EntryCells.newEntry head a .none (rawInt L) .none pl >>= fun b=>setField (.ref e) 1 b)) Q E s:=by
 have off:e ∉ frs (env0 :: outer):=fun z=>by
  obtain ⟨_,o,z1,z2⟩:=hl.mem z
  rw [q] at z1
  cases z1
  exact z2 vs rfl
 have fe:frameOf env=frameOf env0:=by unfold frameOf;rw [hf,h0]
 rw [fe]
 refine wpAny_bind (wpAny_frameOf_fun hfr hl h0 fun h1 ⟨a1,a2,a3⟩=>wpAny_bind (wpAny_entryPlaceOf fun pl hpl=>?_))
 unfold EntryCells.newEntry newFields
 refine wpAny_bind (wpAny_newObj_type ?_ (hpl.sizeOk5 _ _ _ _ _))
 have q1:h1.get? e=some (Ar C dx vs):=(a2 e off).trans q
 have lt:3 < ([head,.ref L,.none,rawInt L,.none] ++ (if pl.isEmpty then List.replicate 6 Value.none else pl)).toArray.size:=by rw [List.size_toArray,List.length_append];simp only [List.length_cons,List.length_nil];omega
 generalize ([head,.ref L,.none,rawInt L,.none] ++ (if pl.isEmpty then List.replicate 6 Value.none else pl)).toArray=fs at lt ⊢
 exact wpAny_setField (Heap.get?_push_of_some (tbO fs) q1) rfl (show 1 < vs.size by omega) (k _ (Pr a1 a2 a3 q1 hs lt))
end
end L2
namespace L2
open PySem PySem.Spec PyProof.Rows
open Sem (wp)
def ay1 (n:Nat) (a:Addr) (H':Hp) (s':Shared):Prop:=
 ∃ (C:Addr) (dx:Option Addr) (vs:Array Value) (T:Addr) (oT:Obj) (ts:Array Value),H' a=some (flO a C dx) /\ s'.heap.get? a=some (Ar C dx vs) /\ vs.size=6 /\ vs[1]? = some (.ref T) /\ T ≠ a /\ s'.heap.get? T=some oT /\ oT.data = .fields ts /\ ts[3]? = some .none /\ n <= T /\ H' T=none
def CXE (P:Program) (w:World):CXT:=fun outer H s E e s'=>
 ∃ (a:Addr) (H':Hp),e = .ref a /\ s'.os=s.os /\ AllBare s'.gens /\ Un (frs outer) [] H H' s.heap s'.heap /\ HOk P w H' s'.heap /\ ay1 s.heap.objs.size a H' s' /\ E e none H'
section
variable {X:Cx} {pins:List (Addr × Obj)} {σ:St} {H:Hp} {s:Shared} {a C:Addr} {dx:Option Addr} {h':Heap}
theorem Zm (I:Inv X pins σ H s) (ea:H a=some (flO a C dx)) (L:Qu (frs X.stack) a C dx s.heap h'):Un (frs X.stack) [] H H s.heap h' where
 keep:=fun b o q n hb _=>L.keep b o (fun z=>by rw [z,ea] at n;cases n) hb q
 slot:=fun b o q n _ _=>L.slot b o (fun z=>by rw [z,ea] at n;cases n) q
 free:=fun b o _ n _=>n
 there:=fun b o q _=>by
  by_cases hb:b=a
  ·obtain ⟨vs',T,oT,ts',h1,_⟩:=L.exc
   exact ⟨_,by rw [hb];exact h1⟩
  ·obtain ⟨sl,h1⟩:=L.slot b o hb q
   exact ⟨_,h1⟩
 tups:=fun _ _ e=>e
 frzs:=fun _ _ _ e=>e
 tbls:=fun b ps e=>⟨#[],by rw [e];simp⟩
theorem Zl (I:Inv X pins σ H s) (ea:H a=some (flO a C dx)) (L:Qu (frs X.stack) a C dx s.heap h'):HOk X.prog X.w H h':=fun b o e=>by
 by_cases hb:b=a
 ·subst hb
  rw [ea] at e
  cases e
  obtain ⟨vs',T,oT,ts',h1,h2,_⟩:=L.exc
  exact Wh h1 h2
 ·refine (I.hok b o e).stay (fun c u hc q=>L.keep c u ?_ ?_ q) (fun _ q=>q) fun _ _ q=>q
  ·rcases hc with rfl | hc
   ·exact hb
   ·rintro rfl
    rw [ea] at hc
    cases hc
  ·intro hm
   have n:=I.stkFree c hm
   rcases hc with rfl | hc
   ·rw [n] at e;cases e
   ·rw [n] at hc;cases hc
end
end L2
namespace L2
open PySem PySem.Spec PyProof.Rows
open Sem (wp)
section
variable {X:Cx} {pins:List (Addr × Obj)} {σ:St} {H:Hp} {s:Shared} {a:Addr} {E:Value -> Shared -> Prop} {Q:Unit -> Shared -> Prop}
def FlyT (X:Cx) (pins:List (Addr × Obj)) (H:Hp) (a:Addr) (s:Shared) (z:Value):Prop:=
 ∃ (C:Addr) (dx:Option Addr) (vs:Array Value) (T:Addr) (oT:Obj) (ts:Array Value),H a=some (flO a C dx) /\ s.heap.get? a=some (Ar C dx vs) /\ vs.size=6 /\ vs[1]? = some (.ref T) /\ T ≠ a /\ s.heap.get? T=some oT /\ oT.data = .fields ts /\ ts[3]? = some z /\ FpOk X pins H T
theorem FlyT.at {z:Value} (F:FlyT X pins H a s z):E3 X pins H a s:=by
 obtain ⟨C,dx,vs,T,oT,ts,h1,h2,h3,q1,q2,q3,q4,q5,q6⟩:=F
 exact ⟨C,dx,vs,h1,h2,h3,.inr ⟨T,oT,ts,q1,q2,q3,q4,⟨z,q5⟩,q6⟩⟩
theorem set3 {C T:Addr} {dx:Option Addr} {vs ts:Array Value} {oT:Obj} {y:Value} (I:Inv X pins σ H s) (h1:H a=some (flO a C dx)) (h2:s.heap.get? a=some (Ar C dx vs)) (h3:vs.size=6) (q1:vs[1]? = some (.ref T)) (q2:T ≠ a) (q3:s.heap.get? T=some oT) (q4:oT.data = .fields ts) (q5:ts[3]? = some y) (q6:FpOk X pins H T) (v:Value) :
  Inv X pins σ H { s with heap:=s.heap.update T (Obj.mapFields (·.setIfInBounds 3 v)) } /\ FlyT X pins H a { s with heap:=s.heap.update T (Obj.mapFields (·.setIfInBounds 3 v)) } v /\ (s.heap.update T (Obj.mapFields (·.setIfInBounds 3 v))).get? a=some (Ar C dx vs):=by
 have ha:(s.heap.update T (Obj.mapFields (·.setIfInBounds 3 v))).get? a=some (Ar C dx vs):=(Heap.get?_update_other _ _ q2).trans h2
 obtain ⟨c0,d0,dt0,sl0⟩:=oT
 cases (show dt0 = .fields ts from q4)
 have hT:(s.heap.update T (Obj.mapFields (·.setIfInBounds 3 v))).get? T=some ⟨c0,d0,.fields (ts.setIfInBounds 3 v),sl0⟩:=Heap.get?_update_self _ q3 (Obj.isFreed_of_fields (vs:=ts.setIfInBounds 3 v) rfl)
 exact ⟨I.turned (t':=s.toks) (fun b o ne e=>(Heap.get?_update_other _ _ (Ne.symm ne)).trans e) q6.1 q6.2.1 q6.2.2.2.1 q6.2.2.2.2.1 q6.2.2.2.2.2,⟨C,dx,vs,T,_,_,h1,ha,h3,q1,q2,hT,rfl,Array.getElem?_setIfInBounds_self_of_lt (Array.getElem?_eq_some_iff.mp q5).1,q6⟩,ha⟩
theorem X7 {A:Around} {fr:Option Addr} {z:Value} (I:Inv X pins σ H s) (F:FlyT X pins H a s z) (h:∀ s',Inv X pins σ H s' -> FlyT X pins H a s' (fr.elim .none fun f=>rawInt f) -> Q () s'):wpAny (model X.prog X.w) A (setFlight (.ref a) fr) Q E s:=by
 obtain ⟨C,dx,vs,T,oT,ts,h1,h2,h3,q1,q2,q3,q4,q5,q6⟩:=F
 obtain ⟨I',F',_⟩:=set3 I h1 h2 h3 q1 q2 q3 q4 q5 q6 (fr.elim .none fun f=>rawInt f)
 unfold setFlight
 refine wpAny_bind (wpAny_field h2 rfl q1 ?_)
 rw [if_pos (by simp)]
 exact wpAny_setField q3 q4 (Array.getElem?_eq_some_iff.mp q5).1 (h _ I' F')
theorem af5 {env:Env} (I:Inv X pins σ H s) {e0:Env} {o0:List Env} {L:Addr} (hs:X.stack=e0 :: o0) (h0:e0.frame=some L) (hf:env.frame=some L) (F:E3 X pins H a s) (h:∀ s' z,Inv X pins σ H s' -> FlyT X pins H a s' z -> Q () s') :
  wpAny (model X.prog X.w) X.A (noteFrame (.ref a) env) Q E s:=by
 obtain ⟨C,dx,vs,h1,h2,h3,h4⟩:=F
 have fr:X.A.frames=some (e0 :: o0):=hs ▸ I.ok.frames
 have new:∀ {s1:Shared} {head:Value} {hadNext:Bool},Inv X pins σ H s1 -> s1.heap.get? a=some (Ar C dx vs) -> wpAny (model X.prog X.w) X.A ((frameOf env >>= fun y=>entryPlaceOf L hadNext >>= fun pl=>EntryCells.newEntry head y .none (rawInt L) .none pl >>= fun b=>setField (.ref a) 1 b)) Q E s1:=fun {s1 head hadNext} I1 q=>by
  have fn:s1.heap.FunFrames X.base (e0 :: o0):=hs ▸ I1.stack
  refine Uj (base:=X.base) fr fn h0 hf q h3 fun h' L=>?_
  rw [<- hs] at L
  have I':=I1.call (h':=h') (g':=s1.gens) (t':=s1.toks) (d':=s1.drawn) (ch:=[]) (Zm I1 h1 L) (Zl I1 h1 L) I1.bare (fun b z=>absurd z (by simp))
  obtain ⟨vs',T,oT,ts',a1,a2,a3,a4,a5,a6,a7,a8⟩:=L.exc
  exact h _ _ I' ⟨C,dx,vs',T,oT,ts',h1,a1,a2,a3,a5,a6,a7,Array.getElem?_eq_getElem a8,I1.fpOk a4 (I1.hok.fresh a4)⟩
 unfold noteFrame
 simp only [hf]
 rcases h4 with c | ⟨T,oT,ts,c,ne,hT,hd,⟨z,hz⟩,fp⟩
 ·refine wpAny_bind (wpAny_field h2 rfl c ?_)
  rw [if_neg (by decide)]
  exact new I h2
 ·refine wpAny_bind (wpAny_field h2 rfl c ?_)
  rw [if_pos (by simp)]
  refine wpAny_bind (wpAny_field hT hd hz ?_)
  by_cases e:(z == rawInt L)=true
  ·rw [if_pos e]
   exact wpAny_pure (h s z I ⟨C,dx,vs,T,oT,ts,h1,h2,h3,c,ne,hT,hd,hz,fp⟩)
  ·rw [if_neg e]
   obtain ⟨I',_,ha⟩:=set3 I h1 h2 h3 c ne hT hd hz fp .none
   exact wpAny_bind (wpAny_setField hT hd (Array.getElem?_eq_some_iff.mp hz).1 (new I' ha))
theorem Rk (I:Inv X pins σ H s) (hs:X.stack=X.env :: X.outer) (hf:X.env.frame=some X.env.locals) (F:E3 X pins H a s) (h:∀ s',Inv X pins σ H s' -> FlyT X pins H a s' .none -> Q () s') :
  wpAny (model X.prog X.w) X.A (noteFrame (.ref a) X.env) (fun _ s1=>wpAny (model X.prog X.w) X.A (setFlight (.ref a) none) Q E s1) E s:=
 af5 I hs hf hf F fun s1 z I1 F1=>X7 I1 F1 h
theorem Kr {A:Around} (I:Inv X pins σ H s) (F:E3 X pins H a s) (h:∀ s',Inv X pins σ H s' -> E3 X pins H a s' -> Q () s'):wpAny (model X.prog X.w) A (setFlight (.ref a) none) Q E s:=by
 obtain ⟨C,dx,vs,h1,h2,h3,h4⟩:=F
 rcases h4 with h4 | ⟨T,oT,ts,q1,q2,q3,q4,⟨z,q5⟩,q6⟩
 ·unfold setFlight
  refine wpAny_bind (wpAny_field h2 rfl h4 ?_)
  rw [if_neg (by decide)]
  exact wpAny_pure (h s I ⟨C,dx,vs,h1,h2,h3,.inl h4⟩)
 ·exact X7 I ⟨C,dx,vs,T,oT,ts,h1,h2,h3,q1,q2,q3,q4,q5,q6⟩ fun s' I' F'=>h s' I' F'.at
end
section
variable {prog:Program} {w:World} {A:Around} {E:Value -> Shared -> Prop} {s:Shared} {K:PySem.W.Frag} {a C D:Addr} {dx:Option Addr} {vs:Array Value} {b:Bool} {Q:Bool -> Shared -> Prop}
open PySem.W in
theorem Px (X:K.In s.heap) (c:ECls K C) (d:ECls K D) (ha:s.heap.get? a=some (Ar C dx vs)) (m:mroIn K C (.ref D)=some b) (h:Q b s) :
  wpAny (model prog w) A (excMatches (.ref a) (.ref D)) Q E s:=by
 obtain ⟨nm,qn,N,bs,bm,hdct,sn,sub,ab,col,dd,k0,k1,k2,k3,k5,hl,ht,hd⟩:=c.obj
 obtain ⟨nm',qn',N',bs',bm',hdct',sn',sub',ab',col',dd',k0',k1',k2',k3',k5',hl',ht',hd'⟩:=d.obj
 have hC:=X _ _ hl
 have hD:=X _ _ hl'
 have hcB:(Value.ref D :: bm').contains (.type "BaseException")=true:=by rw [List.contains_cons,Bf ht' (show valTail.contains (.type "BaseException")=true by decide +kernel),Bool.or_true]
 have hcD:(Value.ref C :: bm).contains (.ref D)=b:=by
  unfold mroIn at m
  obtain ⟨cd,e,em⟩:∃ cd,clsIn K C=some cd /\ cd.mro = .ref C :: bm:=⟨_,by unfold clsIn;rw [hl],rfl⟩
  rw [e,Option.bind_some,em] at m
  exact Option.some.inj m
 have f:=tc_notTuple
 obtain ⟨hp,g,dr,tk,os⟩:=s
 unfold excMatches
 repeat (first | with_reducible refine wpAny_loadPart_at ha ?_ | with_reducible refine wpAny_loadPart_at hD ?_ | (with_reducible refine wpAny_isSubtype_exc hD ?_;rw [hcB]) | (with_reducible refine wpAny_isSubtype_exc hC ?_;rw [hcD]) | wp_step)
 cases b <;> (wp_walk;exact h)
end
end L2
namespace L2
open PySem PySem.Spec PyProof.Rows
section
variable {X:Cx} {G:Sg} {elt tg iter:Expr} {ifs:List Expr} {sc:Scope} {wi:DI} {g:DG} {tc:DT} {de:DE} {pos:Pos}
theorem ay7 {pins pins':List (Addr × Obj)} {σ:St} {H2 H':Hp} {s2:Shared} {N':List Str} {cl:List (Str × Addr)} {fp:List Addr} {C T:Addr} {xe:Value -> Shared -> Prop} (I2:Inv X pins σ H2 s2) (f2:∀ b ∈ fp,FpOk X pins H2 b)
  (F:FpOk (X.comp N' sc cl fp C s2 H2 xe) pins' H' T):FpOk X pins H' T:=by
 obtain ⟨r1,r2,r3,r4,r5,r6⟩:=F
 rcases r4 with r4 | r4
 ·exact ⟨r1,(f2 T r4).2⟩
 ·exact I2.fpOk r4 r1
theorem Ik {Ex:St -> EK} (m:Bv X Ex) (fr:FrH X) {pins:List (Addr × Obj)} {σ:St} {H2:Hp} {s2:Shared} {N':List Str} {cl:List (Str × Addr)} {fp:List Addr} {C D:Addr} {us:Option (Value -> Sem Unit)} {Q2:Value -> Shared -> Prop} (I2:Inv X pins σ H2 s2) (f2:∀ b ∈ fp,FpOk X pins H2 b)
  (hC:s2.heap.objs.size <= C):Bv (X.comp N' sc cl fp C s2 H2 (A0 X sc cl us Q2 D C)) (fun _ a H'=>Ex σ a H'):=by
 intro pins' σ' H' s' a I' F' hE
 obtain ⟨e0,o0,L,f1,f3,f4⟩:=fr
 refine af5 (X:=X.comp N' sc cl fp C s2 H2 (A0 X sc cl us Q2 D C)) (env:=compEnvC sc cl C X.env) I' f1 f3 f4 F' fun s3 z I3 F3=>?_
 obtain ⟨mm,hn,_⟩:=id I3.loc
 refine ⟨mm,hn,fun h' sb cenv hce=>?_⟩
 have I4:Inv X pins σ H' s3:=I2.call' (ch:=fp) I3.os I3.base I3.hok I3.bare fun b hb=>⟨(f2 b hb).2.2.2.1,(f2 b hb).2.1,(f2 b hb).2.2.2.2.1,(f2 b hb).2.2.2.2.2⟩
 have fo:=I2.fpOk hC I3.free
 obtain ⟨g0,g1,g2,g3,g4,g5⟩:=id fo
 have I5:Inv X pins σ H' { s3 with heap:=h' }:=I4.turned (t':=s3.toks) (fun b o hb e=>(sb.2 b hb).trans e) g0 g1 g3 g4 g5
 obtain ⟨C0,dx,vs,T,oT,ts,h1,h2,h3,q1,q2,q3,q4,q5,q6⟩:=F3
 have na:a ≠ C:=fun z=>by rw [z,g0] at h1;cases h1
 have nT:T ≠ C:=q6.2.1
 have F5:FlyT X pins H' a { s3 with heap:=h' } z:=⟨C0,dx,vs,T,oT,ts,h1,(sb.2 a na).trans h2,h3,q1,q2,(sb.2 T nT).trans q3,q4,q5,ay7 I2 f2 q6⟩
 unfold PySem.passOn
 refine wpAny_bind (wpAny_field (s:={ s3 with heap:=h' }) ((sb.2 a na).trans h2) rfl q1 ?_)
 rw [if_neg (by simp)]
 refine wpAny_bind (X7 I5 F5 fun s6 I6 F6=>?_)
 exact wpAny_throw (m pins σ H' s6 a I6 F6.at hE)
def QIfs (X:Cx) (ifs:List Expr) (t:DT):Prop:=∀ Ex,Bv X Ex -> PIfs X ifs (fun σ H Q=>t σ H Q (Ex σ))
theorem Oe:QIfs X [] dYes:=fun _ _=>Xh
theorem Og {c:Expr} {t:DT} (h:QT X c t):QIfs X [c] t:=fun Ex m=>Xi (h Ex m)
theorem Rn (O:GOk X G) (hc:X.calm=true) (hk:Dr G sc=true) (hs:Il iter=true) (hi:QI X tg iter wi) (hg:∀ X',GOk X' (B3 G sc.names) -> PG X' tg g) (ht:∀ X',GOk X' (B3 G sc.names) -> QIfs X' ifs tc) (he:∀ X',GOk X' (B3 G sc.names) -> QE X' elt de) :
  QE X (.ListComp elt [⟨tg,iter,ifs,0⟩] sc pos) (Bp (Ed G sc.names) wi g tc de):=by
 intro Ex m pins s σ H Q I h
 exact V5 hc (Lw O hk) (hi Ex m) (fun Q2 fp C D s2 H2 I2 f2 hC=>
  have M:=Ik (N':=(B3 G sc.names).N) (cl:=B2 X.env.cells sc.names []) (us:=none) (Q2:=Q2) (D:=D) m O.fr I2 f2 hC
  have K:=Q7 O hk fp C s2 H2 (A0 X sc (B2 X.env.cells sc.names []) none Q2 D C)
  ⟨hg _ K,ht _ K _ M,he _ K _ M⟩) I h (fun x=>Im hs X.env x)
end
def Q4 (K:PySem.W.Frag) (op:BoolOp):List DE -> DE
 | []=>dNo
 | [a]=>a
 | a :: r=>match op with
  | .And=>Kn K a (Q4 K op r)
  | .Or=>dOrV K a (Q4 K op r)
def Q3 (op:BoolOp):List DT -> DT
 | []=>fun _ _ _ _=>False
 | [a]=>a
 | a :: r=>match op with
  | .And=>dAnd a (Q3 op r)
  | .Or=>dOr a (Q3 op r)
def Cd:List DE -> DA
 | []=>dNil
 | a :: r=>Ab a (Cd r)
def tNo:DT:=fun _ _ _ _=>False
def wCmp (G:Sg) (ops:List CmpOp) (bs:List Expr) (a:DE) (ds:List DE):DE:=match ops,bs,ds with
 | [op],[b],[d]=>if behindInMarks op b=false then dBin (rCmp G.K op) a d else dNo
 | [op,op'],[b,c],[d,d']=>if lastMarks [op,op'] [b,c]=false then Cy (rCmp G.K op) (rCmp G.K op') a d d' else dNo
 | _,_,_=>dNo
def Yv (G:Sg) (x:Str) (es:List Expr) (ds:List DE):DE:=
 if isGl G x=true /\ (Bs G.N x 0)=none /\ es.all noStar=true then (match G.gb.lookup x with
  | some (.fn i)=>if es.length <= i.ps.length /\ i.ps.length <= es.length + i.dfs.length then dFn (spE i.sp (i.dfs.drop (es.length + i.dfs.length - i.ps.length))) (Cd ds) else dNo
  | some (.exc C oi)=>(match oi with
   | none=>if es.isEmpty=true then dFn (mkX C none 0) (Cd ds) else dFn (fun vs H Q E=>vs.length <= 1000 /\ mkX C none 0 vs H Q E) (Cd ds)
   | some i=>if es.length + 1 <= i.ps.length /\ i.ps.length <= es.length + 1 + i.dfs.length then (if es.isEmpty=true then dFn (mkX C (some i) (es.length + 1 + i.dfs.length - i.ps.length)) (Cd ds)
    else dFn (fun vs H Q E=>vs.length <= 1000 /\ mkX C (some i) (es.length + 1 + i.dfs.length - i.ps.length) vs H Q E) (Cd ds)) else dNo)
  | some (.cls C oi)=>(match oi with
   | none=>if es.isEmpty=true then dFn (mkC C none 0) (Cd ds) else dNo
   | some i=>if es.length + 1 <= i.ps.length /\ i.ps.length <= es.length + 1 + i.dfs.length then dFn (mkC C (some i) (es.length + 1 + i.dfs.length - i.ps.length)) (Cd ds) else dNo)
  | some _=>dNo
  | none=>if G.bl.contains x=true then (match bltR G.K G.calm x with
   | some (_,r)=>if es.isEmpty=true then dNo else dFn (fun vs H Q _=>r vs H Q) (Cd ds)
   | none=>dNo) else dNo) else dNo
def Yx (G:Sg) (o:Expr) (m:Str) (es:List Expr) (ap cp:Pos) (d:DE) (ds:List DE):DE:=
 if Cu o=true /\ es.all noStar=true /\ es.length < 30 /\ (ap.endLine == cp.line)=true then (match Ba G.gb m with
  | none=>dMt (rMt G.K (mtR G.K m)) d (Cd ds)
  | some l=>dOwn m es.length l d (Cd ds)) else dNo
inductive Fz where
 | lenSet (a:Expr)
def fzD (K:PySem.W.Frag) (w:Expr -> DE):Fz -> DE
 | .lenSet a=>dUn (Ht K) (w a)
def isBl (G:Sg) (x:Str):Bool:=isGl G x && (G.gb.lookup x).isNone && G.bl.contains x
def Pk (G:Sg) (x:Str) (es:List Expr):Option Fz:=match es with
 | [.Call (.Name y _) [a] [] _]=>if x = "len" /\ y = "set" /\ isBl G x=true /\ isBl G y=true /\ noStar a=true /\ G.calm=true then some (.lenSet a) else none
 | _=>none
mutual
def wE:Nat -> Sg -> Expr -> DE
 | 0,_,_=>dNo
 | n + 1,G,e=>match e with
  | .Constant c _ _=>Yw c
  | .Name x _=>Yy G x
  | .BinOp a op b _=>dBin (rOp G.K op) (wE n G a) (wE n G b)
  | .UnaryOp .USub a _=>dUn Fl (wE n G a)
  | .UnaryOp .Not a _=>V7 G.K (wE n G a)
  | .UnaryOp .Invert a _=>dUn Rs (wE n G a)
  | .BoolOp op es _=>Q4 G.K op (es.map (wE n G))
  | .Compare a ops bs _=>wCmp G ops bs (wE n G a) (bs.map (wE n G))
  | .IfExp t a b _=>dIfE (wT n G t) (wE n G a) (wE n G b)
  | .List es _=>if es.all noStar=true then dLst (Cd (es.map (wE n G))) else dNo
  | .Tuple es _ _=>if es.all noStar=true then dTup (Cd (es.map (wE n G))) else dNo
  | .Subscript a (.Slice lo hi none _) _=>dSl G.K (wE n G a) (match lo with | none=>En | some l=>Fb (wE n G l)) (match hi with | none=>En | some h=>Fb (wE n G h))
  | .Subscript a b _=>if Fk b=true then dBin (rIxD G.K) (wE n G a) (wE n G b) else dNo
  | .Attribute o f _=>if Cu o=true then dUn (B0 G.K f) (wE n G o) else dNo
  | .Call (.Name x _) es [] _=>match Pk G x es with
   | some z=>fzD G.K (wE n G) z
   | none=>Yv G x es (es.map (wE n G))
  | .Dict ks vs _=>if ks.isEmpty=true /\ vs.isEmpty=true then Ds else if (ks.all (·.isSome))=true /\ ks.length=vs.length /\ ks.length <= 15 /\ ks.isEmpty=false then Bq (((ks.filterMap id).zip vs).map fun p=>(wE n G p.1,wE n G p.2)) else dNo
  | .Call (.Attribute o m ap) es [] cp=>Yx G o m es ap cp (wE n G o) (es.map (wE n G))
  | .ListComp elt [⟨tg,iter,ifs,0⟩] sc _=>if G.calm=true /\ Dr G sc=true /\ Il iter=true then
    Bp (Ed G sc.names) (wI n G tg iter) (wG n (B3 G sc.names) tg) (match ifs with | []=>dYes | [c]=>wT n (B3 G sc.names) c | _=>tNo) (wE n (B3 G sc.names) elt) else dNo
  | _=>dNo
def wT:Nat -> Sg -> Expr -> DT
 | 0,_,_=>tNo
 | n + 1,G,e=>match e with
  | .UnaryOp .Not a _=>dNot (wT n G a)
  | .BoolOp op es _=>Q3 op (es.map (wT n G))
  | .Compare a ops bs _=>dTst (wCmp G ops bs (wE n G a) (bs.map (wE n G)))
  | .IfExp _ _ _ _=>tNo
  | e=>dTru G.K (wE n G e)
def wI:Nat -> Sg -> Expr -> Expr -> DI
 | 0,_,_,_=>iNo
 | n + 1,G,tg,e=>match e with
  | .Call (.Name x _) (a :: es) [] _=>
   if x = "range" /\ isGl G x=true /\ G.gb.lookup x=none /\ G.bl.contains x=true /\ (a :: es).all noStar=true then iRng (Cd ((a :: es).map (wE n G)))
   else if x = "enumerate" /\ isGl G x=true /\ G.gb.lookup x=none /\ G.bl.contains x=true /\ (a :: es).all noStar=true then (match tg with
    | .Tuple _ _ _=>iEn G.K (Cd ((a :: es).map (wE n G)))
    | _=>iNo)
   else iVal G.K (wE n G e)
  | e=>iVal G.K (wE n G e)
end
theorem af8 {X:Cx} {e:Expr}:QT X e tNo:=fun _ _ _ _ _ _ _ _ h=>h.elim
theorem Bn {X:Cx} {w:Expr -> DE} (h:∀ e,QE X e (w e)):∀ {es:List Expr},es.all noStar=true -> QA X es (Cd (es.map w))
 | [],_=>ao9
 | e :: es,hs=>by
  rw [List.all_cons,Bool.and_eq_true] at hs
  exact aa0 (h e) (Bn h hs.2) hs.1
theorem Mh {X:Cx} {w:Expr -> DE} {op:BoolOp} {pos:Pos} (h:∀ e,QE X e (w e)):∀ {es:List Expr},QE X (.BoolOp op es pos) (Q4 X.K op (es.map w))
 | []=>A3
 | [e]=>aq0 (h e)
 | e :: e' :: es=>by
  cases op with
  | And=>exact ap0 (h e) (Mh h)
  | Or=>exact a36 (h e) (Mh h)
theorem Mi {X:Cx} {w:Expr -> DT} {op:BoolOp} {pos:Pos} (h:∀ e,QT X e (w e)):∀ {es:List Expr},QW X (.BoolOp op es pos) (Q3 op (es.map w))
 | []=>fun _ _ _ _ _ _ _ _ _ h=>h.elim
 | [e]=>by
  cases op with
  | And=>exact ab5 (h e)
  | Or=>exact ar7 (h e)
 | e :: e' :: es=>by
  cases op with
  | And=>exact ar6 (h e) (Mi h)
  | Or=>exact a38 (h e) (Mi h)
section
variable {X:Cx} {G:Sg}
theorem aa3 (O:GOk X G) {w:Expr -> DE} (h:∀ e,QE X e (w e)) (a:Expr) (ops:List CmpOp) (bs:List Expr) (pos:Pos):QE X (.Compare a ops bs pos) (wCmp G ops bs (w a) (bs.map w)):=by
 unfold wCmp
 rw [<- O.K]
 split
 ·rename_i op b d e
  have:d=w b:=by simpa using e.symm
  subst this
  split
  ·exact ap3 O.units op (h a) (h b) ‹_›
  ·exact A3
 ·rename_i op op' b c d d' e
  have:w b=d /\ w c=d':=by simpa using e
  obtain ⟨rfl,rfl⟩:=this
  split
  ·exact Xs O.units op op' (h a) (h b) (h c) ‹_›
  ·exact A3
 ·exact A3
theorem ab4 (O:GOk X G) {w:Expr -> DE} (h:∀ e,QE X e (w e)) (a:Expr) (ops:List CmpOp) (bs:List Expr) (pos:Pos):QT X (.Compare a ops bs pos) (dTst (wCmp G ops bs (w a) (bs.map w))):=by
 unfold wCmp
 rw [<- O.K]
 split
 ·rename_i op b d e
  have:d=w b:=by simpa using e.symm
  subst this
  split
  ·exact ar3 O.units op (h a) (h b) ‹_›
  ·exact fun _ _ _ _ _ _ _ _ h=>h.elim
 ·rename_i op op' b c d d' e
  have:w b=d /\ w c=d':=by simpa using e
  obtain ⟨rfl,rfl⟩:=this
  split
  ·exact X1 O.units op op' (h a) (h b) (h c) ‹_›
  ·exact fun _ _ _ _ _ _ _ _ h=>h.elim
 ·exact fun _ _ _ _ _ _ _ _ h=>h.elim
theorem Xr (O:GOk X G) {w:Expr -> DE} (h:∀ e,QE X e (w e)) (x:Str) (es:List Expr) (p pos:Pos):QE X (.Call (.Name x p) es [] pos) (Yv G x es (es.map w)):=by
 unfold Yv
 split
 ·rename_i hh
  obtain ⟨hg,_,hs⟩:=hh
  have dd:=Pp hg
  split
  ·rename_i i e
   obtain ⟨hm,F⟩:=O.fn x i e
   split
   ·rename_i hl
    cases es with
    | nil=>exact Xq F (by have:=hl.1;omega) (O.gl hg) hm dd.1
    | cons e es=>exact aa2 F (by have:=hl.1;omega) (O.gl hg) hm (Bn h hs) hs dd.1
   ·exact A3
  ·rename_i C oi e
   obtain ⟨hm,kp,c,hi⟩:=O.exc x C oi e
   split
   ·cases es with
    | nil=>exact Rp (j:=0) c hi (fun i z=>nomatch z) kp (O.gl hg) hm dd.1
    | cons e es=>exact Xv (j:=0) c hi (fun i z=>nomatch z) kp (O.gl hg) hm (Bn h hs) hs dd.1
   ·rename_i i
    split
    ·rename_i hl
     cases es with
     | nil=>exact Rp (j:=([]:List Expr).length + 1 + i.dfs.length - i.ps.length) c hi (fun i z=>by cases z;have:=hl.1;omega) kp (O.gl hg) hm dd.1
     | cons e es=>exact Xv (j:=(e :: es).length + 1 + i.dfs.length - i.ps.length) c hi (fun i z=>by cases z;have:=hl.1;omega) kp (O.gl hg) hm (Bn h hs) hs dd.1
    ·exact A3
  ·rename_i C oi e
   obtain ⟨hm,kp,hi⟩:=O.cls x C oi e
   split
   ·cases es with
    | nil=>exact Ro (j:=0) hi (fun i z=>nomatch z) kp (O.gl hg) hm dd.1
    | cons e es=>exact A3
   ·rename_i i
    split
    ·rename_i hl
     cases es with
     | nil=>exact Ro hi (fun i z=>by cases z;have:=hl.1;omega) kp (O.gl hg) hm dd.1
     | cons e es=>exact ap6 hi (fun i z=>by cases z;have:=hl.1;omega) kp (O.gl hg) hm (Bn h hs) hs dd.1
    ·exact A3
  ·exact A3
  ·rename_i e
   split
   ·rename_i hb
    split
    ·rename_i f r er
     split
     ·exact A3
     ·rename_i hne
      cases es with
      | nil=>exact absurd rfl hne
      | cons e es=>
       rw [<- O.K] at er
       obtain ⟨b1,b2⟩:=Y4 er O.calm
       exact ap2 b2 (O.gl hg) (O.bl x hb) b1 (Bn h hs) hs dd.2.2 dd.1
    ·exact A3
   ·exact A3
 ·exact A3
theorem Xu (O:GOk X G) {w:Expr -> DE} (h:∀ e,QE X e (w e)) (o:Expr) (m:Str) (es:List Expr) (ap cp:Pos):QE X (.Call (.Attribute o m ap) es [] cp) (Yx G o m es ap cp (w o) (es.map w)):=by
 unfold Yx
 rw [<- O.K]
 split
 ·rename_i hh
  obtain ⟨h1,h2,h3,h4⟩:=hh
  split
  ·cases es with
   | nil=>exact ap7 (fun b hb=>W2 O.units hb) (h o) h1 h4
   | cons e es=>exact a35 (fun b hb=>W2 O.units hb) (h o) (Bn h h2) h1 h2 h3 h4
  ·rename_i l e
   cases es with
   | nil=>exact aa8 (O.met m l e) (h o) h1 h4
   | cons e es=>exact aq1 (O.met m l ‹_›) (h o) (Bn h h2) h1 h2 h3 h4
 ·exact A3
end
theorem Hj {X:Cx} {G:Sg} (O:GOk X G) {x:Str} (h:isBl G x=true):Gl X x /\ X.mg x=none:=by
 unfold isBl at h
 rw [Bool.and_eq_true,Bool.and_eq_true] at h
 exact ⟨O.gl h.1.1,O.bl _ h.2⟩
theorem aa6 {X:Cx} {G:Sg} (O:GOk X G) {w:Expr -> DE} (h:∀ e,QE X e (w e)) {x:Str} {es:List Expr} {p pos:Pos} {z:Fz} (e:Pk G x es=some z) :
  QE X (.Call (.Name x p) es [] pos) (fzD G.K w z):=by
 unfold Pk at e
 split at e
 ·split at e
  ·rename_i hh
   obtain ⟨rfl,rfl,h1,h2,h3,h4⟩:=hh
   cases e
   rw [<- O.K]
   exact Uw (O.calm ▸ h4) (Hj O h1).1 (Hj O h1).2 (Hj O h2).1 (Hj O h2).2 (h _) h3
  ·cases e
 ·cases e
theorem Nh {α:Type}:∀ {ks:List (Option α)},ks.all (·.isSome)=true -> (ks.filterMap id).map some=ks
 | [],_=>rfl
 | none :: _,h=>by simp at h
 | some k :: ks,h=>by
  rw [List.all_cons,Bool.and_eq_true] at h
  show some k :: (ks.filterMap id).map some=_
  rw [Nh h.2]
theorem w_ok:∀ (n:Nat) (X:Cx) (G:Sg),GOk X G -> (∀ e,QE X e (wE n G e)) /\ (∀ e,QT X e (wT n G e)) /\ (∀ tg e,QI X tg e (wI n G tg e)):=by
 intro n
 induction n with
 | zero=>
  intro X G O
  refine ⟨fun e=>?_,fun e=>?_,fun tg e=>?_⟩
  ·unfold wE;exact A3
  ·unfold wT;exact af8
  ·unfold wI;exact af7
 | succ n ih=>
  intro X G O
  obtain ⟨hE,hT,hI⟩:=ih X G O
  have hv:∀ tg e,QI X tg e (iVal G.K (wE n G e)):=fun tg e=>by rw [<- O.K];exact aq4 (hE e)
  refine ⟨fun e=>?_,fun e=>?_,fun tg e=>?_⟩
  ·unfold wE
   split
   ·exact Xt _ _ _
   ·exact aa7 O _ _
   ·rw [<- O.K];exact ap1 _ (hE _) (hE _)
   ·exact ap8 (hE _)
   ·rw [<- O.K];exact ap9 (hE _)
   ·exact ap4 (hE _)
   ·rw [<- O.K];exact Mh hE
   ·exact aa3 O hE _ _ _ _
   ·exact a33 (hT _) (hE _) (hE _)
   ·split
    ·exact ap5 (Bn hE ‹_›)
    ·exact A3
   ·split
    ·exact aq2 (Bn hE ‹_›)
    ·exact A3
   ·rw [<- O.K]
    refine Xw (hE _) ?_ ?_
    ·split
     ·exact Rq
     ·exact Rr (hE _)
    ·split
     ·exact Rq
     ·exact Rr (hE _)
   ·split
    ·rw [<- O.K];exact a34 O.units (hE _) (hE _) ‹_›
    ·exact A3
   ·split
    ·rw [<- O.K];exact aa1 (hE _) (Dj ‹_› _ X.env _)
    ·exact A3
   ·split
    ·exact aa6 O hE ‹_›
    ·exact Xr O hE _ _ _ _
   ·rename_i ks vs p0
    split
    ·rename_i hh
     have e1:ks=[]:=by simpa using hh.1
     have e2:vs=[]:=by simpa using hh.2
     subst e1 e2
     exact aa5
    ·split
     ·rename_i hh
      obtain ⟨h1,h2,h3,h4⟩:=hh
      have e:=Nh h1
      have hl:(ks.filterMap id).length=ks.length:=by rw [<- List.length_map (f:=some),e]
      have q:=aa4 (X:=X) (pos:=p0) hE (ks:=ks.filterMap id) (vs:=vs) (by rw [hl];exact h2) (fun z=>by rw [z] at e;rw [<- e] at h4;simp at h4) (by rw [hl];exact h3)
      rw [e] at q
      exact q
     ·exact A3
   ·exact Xu O hE _ _ _ _ _
   ·split
    ·rename_i hh
     obtain ⟨h1,h2,h3⟩:=hh
     refine Rn O (O.calm ▸ h1) h2 h3 (hI _ _) (fun X' O'=>Ox n X' _ O' _) (fun X' O'=>?_) (fun X' O'=>(ih X' _ O').1 _)
     split
     ·exact Oe
     ·exact Og ((ih X' _ O').2.1 _)
     ·exact fun _ _ _ _ _ _ _ _ h=>h.elim
    ·exact A3
   ·exact A3
  ·unfold wT
   split
   ·exact ar4 (hT _)
   ·exact fun Ex m=>PW.pt (Mi hT Ex m)
   ·exact ab4 O hE _ _ _ _
   ·exact af8
   ·rename_i h1 h2 h3 h4
    rw [<- O.K]
    refine ar5 (hE _) ?_
    cases e with
    | UnaryOp op a p=>cases op <;> first | rfl | exact absurd rfl (h1 _ _)
    | BoolOp op es p=>exact absurd rfl (h2 _ _ _)
    | Compare a b c p=>exact absurd rfl (h3 _ _ _ _)
    | IfExp a b c p=>exact absurd rfl (h4 _ _ _ _)
    | _=>rfl
  ·unfold wI
   split
   ·split
    ·rename_i hh
     obtain ⟨rfl,h1,_,h2,h3⟩:=hh
     exact Xx (O.gl h1) (O.bl _ h2) (Bn hE h3) h3
    ·split
     ·rename_i hh
      obtain ⟨rfl,h1,_,h2,h3⟩:=hh
      split
      ·rw [<- O.K];exact aa9 (O.gl h1) (O.bl _ h2) (Bn hE h3) h3
      ·exact af7
     ·exact hv _ _
   ·exact hv _ _
def Cx.tr (X:Cx) (pn:List (Addr × Obj)) (xe:Value -> Shared -> Prop):Cx:={ X with pn:=pn,xe:=xe }
def Cx.hd (X:Cx) (a:Addr):Cx:={ X with A:=X.A.mark (some (.ref a)),calm:=false,xe:=fun _ _=>False }
section
variable {X:Cx} {pins pins':List (Addr × Obj)} {σ:St} {H:Hp} {s:Shared} {a C:Addr} {dx:Option Addr} {xe:Value -> Shared -> Prop}
theorem az4 {pn:List (Addr × Obj)} (o:X.Ok):(X.tr pn xe).Ok:=⟨o.mod,o.kind,o.glob,o.blt,o.above,o.inj,o.has,o.cab,o.hd,o.frames,o.stk,o.exf,o.bs,o.bsz,o.noex,o.exfs,o.funs,o.frf⟩
theorem Zt {pn:List (Addr × Obj)} (o:(X.tr pn xe).Ok):X.Ok:=⟨o.mod,o.kind,o.glob,o.blt,o.above,o.inj,o.has,o.cab,o.hd,o.frames,o.stk,o.exf,o.bs,o.bsz,o.noex,o.exfs,o.funs,o.frf⟩
theorem aj6 (I:Inv X pins σ H s):Inv (X.tr (X.pn ++ pins) xe) [] σ H s:=
 ⟨az4 I.ok,I.os,I.bare,I.base,I.loc,I.cell,I.free,I.freeC,fun p hp=>I.pin p (by rw [List.append_nil] at hp;exact hp),I.hok,I.len⟩
theorem Dw (I:Inv (X.tr (X.pn ++ pins) xe) pins' σ H s):Inv X pins σ H s:=
 ⟨Zt I.ok,I.os,I.bare,I.base,I.loc,I.cell,I.free,I.freeC,fun p hp=>I.pin p (List.mem_append_left _ hp),I.hok,I.len⟩
theorem Wi (F:E3 (X.tr (X.pn ++ pins) xe) pins' H a s):E3 X pins H a s:=by
 obtain ⟨C,dx,vs,h1,h2,h3,h4⟩:=F
 refine ⟨C,dx,vs,h1,h2,h3,h4.imp id fun ⟨T,oT,ts,q1,q2,q3,q4,q5,q6⟩=>⟨T,oT,ts,q1,q2,q3,q4,q5,?_⟩⟩
 obtain ⟨r1,r2,r3,r4,r5,r6⟩:=q6
 exact ⟨r1,r2,r3,r4,r5,fun p hp=>r6 p (List.mem_append_left _ hp)⟩
theorem ac3 {D:Ends} {f:Flow} (h:SP (X.tr (X.pn ++ pins) xe) pins' D f s):SP X pins D f s:=by
 cases f with
 | next=>obtain ⟨σ',H',I,q⟩:=h;exact ⟨σ',H',Dw I,q⟩
 | brk=>obtain ⟨σ',H',I,q⟩:=h;exact ⟨σ',H',Dw I,q⟩
 | cont=>obtain ⟨σ',H',I,q⟩:=h;exact ⟨σ',H',Dw I,q⟩
 | ret u=>obtain ⟨v,σ',H',I,r,q⟩:=h;exact ⟨v,σ',H',Dw I,r,q⟩
theorem Pm (I:Inv X pins σ H s):Inv (X.hd a) pins σ H s:=
 ⟨⟨I.ok.mod,I.ok.kind,I.ok.glob,I.ok.blt,I.ok.above,I.ok.inj,I.ok.has,I.ok.cab,(fun z=>by cases z),I.ok.frames,I.ok.stk,I.ok.exf,I.ok.bs,I.ok.bsz,I.ok.noex,I.ok.exfs,I.ok.funs,I.ok.frf⟩,I.os,I.bare,I.base,I.loc,I.cell,I.free,I.freeC,I.pin,I.hok,I.len⟩
theorem Fe (o:X.Ok) (I:Inv (X.hd a) pins σ H s):Inv X pins σ H s:=⟨o,I.os,I.bare,I.base,I.loc,I.cell,I.free,I.freeC,I.pin,I.hok,I.len⟩
theorem Rz {D:Ends} {f:Flow} (o:X.Ok) (h:SP (X.hd a) pins D f s):SP X pins D f s:=by
 cases f with
 | next=>obtain ⟨σ',H',I,q⟩:=h;exact ⟨σ',H',Fe o I,q⟩
 | brk=>obtain ⟨σ',H',I,q⟩:=h;exact ⟨σ',H',Fe o I,q⟩
 | cont=>obtain ⟨σ',H',I,q⟩:=h;exact ⟨σ',H',Fe o I,q⟩
 | ret u=>obtain ⟨v,σ',H',I,r,q⟩:=h;exact ⟨v,σ',H',Fe o I,r,q⟩
end
def asD (a:Addr) (u:DS):Option Nat -> DS
 | none=>fun D σ H=>u { D with ex:=fun _ _ _=>False } σ H
 | some i=>fun D σ H=>u ⟨fun σ' H'=>D.nx (σ'.set i none) H',D.rt,fun σ' H'=>D.bk (σ'.set i none) H',fun σ' H'=>D.ct (σ'.set i none) H',fun _ _ _=>False⟩ (σ.set i (some (.ref a))) H
def Lu (K:PySem.W.Frag) (C a:Addr):List (Addr × Option Nat × DS) -> Outs -> St -> Hp -> Prop
 | [],_,_,_=>False
 | (T,oi,u) :: r,D,σ,H=>∃ b,PySem.W.mroIn K C (.ref T)=some b /\ (if b=true then asD a u oi D σ H else Lu K C a r D σ H)
def dTry (K:PySem.W.Frag) (tb:DS) (us:List (Addr × Option Nat × DS)):DS:=fun D σ H=>tb { D with ex:=fun σ' a H'=>∃ C dx,H' a=some (flO a C dx) /\ ECls K C /\ Lu K C a us D σ' H' } σ H
inductive AsOk (X:Cx):Option Str -> Option Nat -> Prop where
 | no:AsOk X none none
 | as {n:Str} {i:Nat} (hN:X.N.Nodup) (hi:X.N[i]? = some n) (hl:X.env.scope.names.lookup n=some .local):AsOk X (some n) (some i)
inductive HsOk (X:Cx):List ExceptHandler -> List (Addr × Option Nat × DS) -> Prop where
 | nil:HsOk X [] []
 | cons {x:Str} {p pos:Pos} {nm:Option Str} {oi:Option Nat} {b:Stmt} {suite:List Stmt} {rest:List ExceptHandler} {T:Addr} {u:DS} {us:List (Addr × Option Nat × DS)} (hg:Gl X x) (hm:X.mg x=some (.ref T)) (hd:(x == ("__debug__" : Str))=false) (ec:ECls X.K T) (ha:AsOk X nm oi) (hs:∀ a,QSs (X.hd a) (b :: suite) u) (r:HsOk X rest us) :
   HsOk X (.ExceptHandler (some (.Name x p)) nm (b :: suite) pos :: rest) ((T,oi,u) :: us)
section
variable {X:Cx} {pins:List (Addr × Obj)}
theorem Eh {M:Model} {A:Around} {E:Value -> Shared -> Prop} {σ:St} {H:Hp} {s:Shared} {i:Nat} {x:Str} {pos:Pos} {Q:Unit -> Shared -> Prop} (I:Inv X pins σ H s) (hN:X.N.Nodup) (hi:X.N[i]? = some x) (hk:X.env.scope.names.lookup x=some .local)
  (h:∀ s',Inv X pins (σ.set i none) H s' -> Q () s'):wpAny M A (do bindName X.env x .none;unbindBehindTheSuite X.env x pos) Q E s:=by
 obtain ⟨m,hn,hl⟩:=id I.loc
 refine wpAny_nameGoes_keeps hk hn (by rw [I.ok.kind];rfl) fun h' v hn' sb=>h _ ?_
 have old:∀ {b o},X.s₀.heap.get? b=some o -> h'.get? b=s.heap.get? b:=fun {b o} e=>sb.2 b (Nat.ne_of_lt (Nat.lt_of_lt_of_le (Heap.lt_size e) I.ok.above))
 exact {
  ok:=I.ok
  os:=I.os
  bare:=I.bare
  base:={ I.base with
   keep:=fun b o e n hb hx=>by show h'.get? b=_;rw [old e];exact I.base.keep b o e n hb hx
   slot:=fun b o e n hb hx=>by show ∃ sl,h'.get? b=_;rw [old e];exact I.base.slot b o e n hb hx
   there:=fun b o e hx=>by show ∃ o',h'.get? b=_;rw [old e];exact I.base.there b o e hx }
  loc:=⟨_,hn',fun j y w e1 e2 e3=>by
   have hj:j ≠ i:=fun z=>by
    have lt:i < σ.length:=by rw [I.len];exact (List.getElem?_eq_some_iff.mp hi).1
    rw [z,List.getElem?_set_self lt] at e2
    cases e2
   rw [List.getElem?_set_ne (Ne.symm hj)] at e2
   obtain ⟨u,r,q⟩:=hl j y w e1 e2 e3
   have ny:y ≠ x:=fun z=>hj (Io hN e1 (z ▸ hi))
   refine ⟨u,r,q.imp (fun ⟨k,e⟩=>⟨k,(if_neg ny).trans e⟩) fun ⟨k,c,e,z⟩=>⟨k,c,e,z.sameBut sb (I.cne y c e)⟩⟩⟩
  cell:=fun y c e=>let ⟨w,z⟩:=I.cell y c e;⟨w,z.sameBut sb (I.cne y c e)⟩
  free:=I.free
  freeC:=I.freeC
  pin:=fun p hp=>let ⟨e,n,ne,nf,d⟩:=I.pin p hp;⟨(sb.2 p.1 ne).trans e,n,ne,nf,d⟩
  hok:=fun b ob e=>(I.hok b ob e).stay (fun c w hc q=>(sb.2 c (by
   rintro rfl
   have f:=I.free
   rcases hc with rfl | hc
   ·rw [f] at e;cases e
   ·rw [f] at hc;cases hc)).trans q) (fun _ q=>q) fun _ _ q=>q
  len:=by rw [List.length_set];exact I.len }
theorem Tr {Ex:St -> EK} {D:Ends} {hl:List ExceptHandler} {us:List (Addr × Option Nat × DS)} (K:HsOk X hl us):∀ {σ:St} {H:Hp} {s:Shared} {a C:Addr} {dx:Option Addr},Inv X pins σ H s -> E3 X pins H a s -> H a=some (flO a C dx) -> ECls X.K C -> Lu X.K C a us (outs Ex D) σ H ->
  wpAny (model X.prog X.w) X.A (handleBy (.ref a) X.env hl) (SP X pins D) X.xe s:=by
 induction K with
 | nil=>intro σ H s a C dx I F e ec h;exact h.elim
 | @cons x p pos nm oi b suite rest T u us hg hm hd ecT ha hs r ih=>
  intro σ H s a C dx I F e ec h
  obtain ⟨m,hm2,h⟩:=h
  have hx:∃ vs:Array Value,s.heap.get? a=some (Ar C dx vs):=by
   obtain ⟨vs,z,_⟩:=(I.hok a _ e).1
   exact ⟨vs,z⟩
  obtain ⟨vs,hx⟩:=hx
  refine wpAny_handleBy_cons (codeAny_handlers_test (Cs (X:=X.hd a) (Pm I) hg hm ?_ hd)) (by intro q;cases q)
  refine Px (A:=(X.hd a).A) I.kIn ec ecT hx hm2 ?_
  cases m with
  | false=>exact ih I F e ec h
  | true=>
   cases ha with
   | no=>
    refine codeAny_handlers_suite (Kr (A:=(X.hd a).A) I F fun s1 I1 F1=>?_)
    exact wpAny_mono (hs a (fun _ _ _=>False) Fi pins s1 σ H D (Pm I1) h) (fun f s2 q=>Rz I.ok q) fun _ _ z=>z.elim
   | @as n i hN hi hlo=>
    refine codeAny_handlers_suite_as (Kr (A:=(X.hd a).A) I F fun s1 I1 F1=>?_)
    refine Fp (i:=i) (v:=.ref a) I1 hN hi (.inl hlo) rfl (fun s2 I2=>?_) (.inr hlo)
    refine wpAny_mono (hs a (fun _ _ _=>False) Fi pins s2 (σ.set i (some (.ref a))) H ⟨fun σ' H'=>D.nx (σ'.set i none) H',D.rt,fun σ' H'=>D.bk (σ'.set i none) H',fun σ' H'=>D.ct (σ'.set i none) H'⟩ (Pm I2) h) (fun f s3 q=>?_) fun _ _ z=>z.elim
    have q:=Rz I.ok q
    cases f with
    | next=>obtain ⟨σ',H',I',q⟩:=q;exact Eh I' hN hi hlo fun s4 I4=>⟨_,H',I4,q⟩
    | brk=>obtain ⟨σ',H',I',q⟩:=q;exact Eh I' hN hi hlo fun s4 I4=>⟨_,H',I4,q⟩
    | cont=>obtain ⟨σ',H',I',q⟩:=q;exact Eh I' hN hi hlo fun s4 I4=>⟨_,H',I4,q⟩
    | ret w=>obtain ⟨v,σ',H',I',r,q⟩:=q;exact Eh I' hN hi hlo fun s4 I4=>⟨v,_,H',I4,r,q⟩
theorem ar2 {Y:Cx} {body:List Stmt} {h0:ExceptHandler} {hs:List ExceptHandler} {pos:Pos} {tb:DS} {us:List (Addr × Option Nat × DS)} (hst:Y.stack=Y.env :: Y.outer) (hfr:Y.env.frame=some Y.env.locals)
  (hb:∀ pn xe,PassesOwn (model Y.prog Y.w) Y.A Y.env xe -> QSs (Y.tr pn xe) body tb) (hh:HsOk Y (h0 :: hs) us):QS Y (.Try body (h0 :: hs) [] [] pos) (dTry Y.K tb us):=by
 intro Ex m pins s σ H D I hw
 refine wpAny_Try_except ?_
 refine wpAny_mono (hb (Y.pn ++ pins) (fun e s1=>wpAny (model Y.prog Y.w) Y.A (noteFrame e Y.env) (fun _ s2=>wpAny (model Y.prog Y.w) Y.A (setFlight e none) (fun _ s3=>wpAny (model Y.prog Y.w) Y.A (handleBy e Y.env (h0 :: hs)) (SP Y pins D) Y.xe s3) Y.xe s2) Y.xe s1) PassesOwn.looking
  (fun σ' a H'=>∃ C dx,H' a=some (flO a C dx) /\ ECls Y.K C /\ Lu Y.K C a us (outs Ex D) σ' H') ?_ [] s σ H D (aj6 I) hw) (fun f s1 q=>?_) fun _ _ z=>z
 ·intro pins' σ' H' s' a I' F' ⟨C,dx,e,ec,h⟩
  exact Rk (Dw I') hst hfr (Wi F') fun s2 I2 F2=>Tr hh I2 F2.at e ec h
 ·have q:=ac3 q
  cases f with
  | next=>exact wpAny_execs_nil q
  | _=>exact q
end
def F9:Expr -> Bool
 | .ListComp _ _ _ _=>false
 | .SetComp _ _ _ _=>false
 | .DictComp _ _ _ _ _=>false
 | _=>true
theorem Ga {e:Expr} (h:F9 e=true) (t:Option Expr) (l:Nat) (env:Env):swapsWith e t l env=pure false:=by
 cases e with
 | ListComp _ _ _ _=>cases h
 | SetComp _ _ _ _=>cases h
 | DictComp _ _ _ _ _=>cases h
 | _=>rfl
section
variable {X:Cx} {G:Sg} {st:Stmt} {rest:List Stmt} {t u:DS} {e:Expr} {de:DE} {pos p':Pos}
theorem Bd:QS X st Bo:=fun _ _ _ _ _ _ _ _ h=>h.elim
theorem ab3:QSs X [] Ae:=fun _ _=>Z8
theorem X0 (h1:QS X st t) (h2:QSs X rest u):QSs X (st :: rest) (dSeq t u):=fun Ex m=>Xp (h1 Ex m) (h2 Ex m)
theorem ab1:QS X (.Pass pos) Ae:=fun _ _=>Z6
theorem aq6:QS X (.Break pos) dBrk:=fun _ _=>Xn
theorem aq7:QS X (.Continue pos) dCnt:=fun _ _=>Oc
theorem ar0 (h:QE X e de):QS X (.Return (some e) pos) (dRet de):=fun Ex m=>ao4 (h Ex m)
theorem ab2:QS X (.Return none pos) ad3:=fun _ _=>Z7
theorem ab0 (h:QE X e de) (hn:F9 e=true):QS X (.Expr e pos) (B9 de):=fun Ex m=>Z5 (h Ex m) (Ga hn _ _ _)
theorem a37 {c:Expr} {a b:List Stmt} {tc:DT} (hc:QT X c tc) (ha:QSs X a t) (hb:QSs X b u):QS X (.If c a b pos) (dIf tc t u):=fun Ex m=>a31 (hc Ex m) (ha Ex m) (hb Ex m)
theorem Xz {i:Nat} {x:Str} (O:GOk X G) (hi:Bs G.N x 0=some i) (hx:okSt G x=true) (h:QE X e de) (hn:swapsWith e (some (.Name x p')) pos.line X.env=pure false):QS X (.Assign [.Name x p'] e pos) (dSet i de):=by
 obtain ⟨h1,h2⟩:=Md O hx
 exact fun Ex m=>ao5 (by rw [O.N];exact O.nd) (by rw [O.N];exact C9 hi) h1 (h Ex m) hn h2
variable {tg iter elt:Expr} {ifs:List Expr} {sc:Scope} {wi:DI} {g:DG} {tc:DT}
theorem Qd {i:Nat} {x:Str} {cp:Pos} (O:GOk X G) (hi:Bs G.N x 0=some i) (hx:okSt G x=true) (hc:X.calm=true) (hk:Dr G sc=true) (hs:Il iter=true) (hq:QI X tg iter wi) (hg:∀ X',GOk X' (B3 G sc.names) -> PG X' tg g)
  (ht:∀ X',GOk X' (B3 G sc.names) -> QIfs X' ifs tc) (he:∀ X',GOk X' (B3 G sc.names) -> QE X' elt de) :
  QS X (.Assign [.Name x p'] (.ListComp elt [⟨tg,iter,ifs,0⟩] sc cp) pos) (dSet i (Bp (Ed G sc.names) wi g tc de)):=by
 obtain ⟨h1,h2⟩:=Md O hx
 have sw:swapsWith (.ListComp elt [⟨tg,iter,ifs,0⟩] sc cp) (some (.Name x p')) pos.line X.env=pure (X.env.blockKind == .function && X.env.kindOf x == some .local && p'.line == (Expr.ListComp elt [⟨tg,iter,ifs,0⟩] sc cp).pos.line
   && !(sc.names.any fun (n,k)=>n == x && (k == .local || k == .cell))):=rfl
 cases hb:(X.env.blockKind == .function && X.env.kindOf x == some .local && p'.line == (Expr.ListComp elt [⟨tg,iter,ifs,0⟩] sc cp).pos.line
   && !(sc.names.any fun (n,k)=>n == x && (k == .local || k == .cell))) with
 | false=>
  rw [hb] at sw
  exact Xz O hi hx (Rn O hc hk hs hq hg ht he) sw
 | true=>
  rw [hb] at sw
  simp only [Bool.and_eq_true] at hb
  have hl:X.env.scope.names.lookup x=some .local:=eq_of_beq hb.1.1.2
  intro Ex m pins s σ H D I h
  exact V4 hc (by rw [O.N];exact O.nd) (by rw [O.N];exact C9 hi) hl (Lw O hk) (hq Ex m) (fun us Q2 fp C D s2 H2 I2 f2 hC=>
   have M:=Ik (N':=(B3 G sc.names).N) (cl:=B2 X.env.cells sc.names []) (us:=us) (Q2:=Q2) (D:=D) m O.fr I2 f2 hC
   have K:=Q7 O hk fp C s2 H2 (A0 X sc (B2 X.env.cells sc.names []) us Q2 D C)
   ⟨hg _ K,ht _ K _ M,he _ K _ M⟩) I h sw (fun x=>Im hs X.env x)
theorem aq9 {body:List Stmt} (O:GOk X G) (ht:G.top=true) (hc:X.calm=true) (hi:QI X tg iter wi) (hg:PG X tg g) (hb:QSs X body t) (hs:Il iter=true):QS X (.For tg iter body [] pos) (dFor wi g t):=by
 intro Ex m pins s σ H D I h
 refine wpAny_mono (ao3 (O.own ht) hc (hi Ex m) hg (hb Ex m) (fun x=>Im hs X.env x) pins s σ H { D with nx:=fun σ' H'=>Thaw H H' (D.nx σ') } I h) (fun f s' q=>?_) fun _ _ z=>z
 cases f with
 | next=>
  obtain ⟨σ',H',I',q⟩:=q
  obtain ⟨H2,I2,q2⟩:=Thaw.inv I I' q
  exact ⟨σ',H2,I2,q2⟩
 | _=>exact q
def Be (K:PySem.W.Frag) (e:DE):DS:=fun D σ H=>e σ H (X2 K (D.ex σ)) (D.ex σ)
theorem Xy (O:GOk X G) (hc:X.A.handled=none) (h:QE X e de):QS X (.Raise (some e) none pos) (Be X.K de):=fun Ex m=>Xo m hc (h Ex m)
def N2:Expr -> Bool
 | .Tuple _ _ _=>false
 | _=>true
theorem N3 {e:Expr} (h:N2 e=true) (tg:Expr) (env:Env):swappedStores [tg] e env=pure none:=by
 cases e with
 | Tuple _ _ _=>cases h
 | _=>cases tg <;> rfl
theorem aq5 {ts:List Expr} {kt:Nat} {pt:Pos} {g:DG} (h:QE X e de) (hg:PG X (.Tuple ts kt pt) g) (hn:F9 e=true) (ht:N2 e=true):QS X (.Assign [.Tuple ts kt pt] e pos) (dAsg de g):=
 fun Ex m=>Xm (h Ex m) hg (show swapsWithSole [.Tuple ts kt pt] e pos.line X.env=pure false from Ga hn (some (.Tuple ts kt pt)) pos.line X.env) (N3 ht _ _)
def Cm (K:PySem.W.Frag) (o i:DE):DG:=fun v σ H Q=>o σ H (fun x H1=>i σ H1 (fun y H2=>ag2 x y v H2 (Q σ)) fun _ _=>False) fun _ _=>False
theorem ar1 {o i:Expr} {do' di:DE} (hu:X.A.units + 64 < cLine) (ho:QE X o do') (hi:QE X i di) (h:QE X e de) (ht:N2 e=true) (hsl:Fk i=true):QS X (.Assign [.Subscript o i p'] e pos) (dAsg de (Cm X.K do' di)):=by
 intro Ex m
 have hg:PG X (.Subscript o i p') (Cm X.K do' di):=ao1 (ho _ Fi) (hi _ Fi) (a95 hu) (by
  intro v
  cases i with
  | Slice _ _ _ _=>cases hsl
  | _=>rfl)
 exact Xm (h Ex m) hg (show swapsWithSole [.Subscript o i p'] e pos.line X.env=pure false from by show swapsWith e (some (.Subscript o i p')) pos.line X.env=pure false;cases e <;> rfl) (N3 ht _ _)
def dFld (K:PySem.W.Frag) (f:Str) (o e:DE):DS:=fun D σ H=>e σ H (fun y H1=>o σ H1 (fun x H2=>X3 K f x y H2 (D.nx σ)) (D.ex σ)) (D.ex σ)
theorem aq8 {o:Expr} {f:Str} {do':DE} (ho:QE X o do') (h:QE X e de):QS X (.Assign [.Attribute o f p'] e pos) (dFld X.K f do' de):=by
 intro Ex m pins s σ H D I hw
 refine plainObj_wpAny_Assign_Attribute (thn (h Ex m pins s σ H _ I hw) fun u s1 ⟨y,H1,I1,ry,q⟩=>thn (ho Ex m pins s1 σ H1 _ I1 q) fun ov s2 ⟨x,H2,I2,rx,q2⟩=>?_) (by cases e <;> rfl)
 exact a94 I2 rx ry q2 fun H' s' I' hN=>⟨σ,H',I',hN⟩
end
def valB:GB -> GB
 | .val v u=>.val v u
 | .exc C _=>.val (.ref C) (.ref C)
 | .cls C _=>.val (.ref C) (.ref C)
 | _=>.met "" []
def Cc (gb:List (Str × GB)):List (Str × GB):=gb.map fun p=>(p.1,valB p.2)
theorem Dc (x:Str):∀ gb:List (Str × GB),(Cc gb).lookup x=(gb.lookup x).map valB
 | []=>rfl
 | (y,g) :: r=>by
  show List.lookup x ((y,valB g) :: Cc r)=_
  rw [List.lookup_cons,List.lookup_cons]
  cases x == y with
  | true=>rfl
  | false=>exact Dc x r
theorem J4 {m:Str} {l:List MI}:∀ {gb:List (Str × GB)},Ba (Cc gb) m=some l -> l=[]
 | [],h=>by cases h
 | (y,g) :: r,h=>by
  have go:Ba (Cc r) m=some l -> l=[]:=J4
  cases g with
  | val v u=>exact go h
  | exc C i=>exact go h
  | cls C i=>exact go h
  | fn i=>
   have h:(if ("" : Str)=m then some [] else Ba (Cc r) m)=some l:=h
   split at h
   ·cases h;rfl
   ·exact go h
  | met m' l'=>
   have h:(if ("" : Str)=m then some [] else Ba (Cc r) m)=some l:=h
   split at h
   ·cases h;rfl
   ·exact go h
def hdG (G:Sg):Sg:={ G with gb:=Cc G.gb,calm:=false }
def Nq (gb:List (Str × GB)) (x:Str):Option Addr:=match gb.lookup x with
 | some (.exc T _)=>some T
 | _=>none
def okH (G:Sg):ExceptHandler -> Bool
 | .ExceptHandler (some (.Name x _)) nm (_ :: _) _=>isGl G x && (Nq G.gb x).isSome && (match nm with
  | none=>true
  | some n=>(Bs G.N n 0).isSome && (G.sc.lookup n == some .local))
 | _=>false
def W5 (G:Sg):ExceptHandler -> Option Nat
 | .ExceptHandler _ (some n) _ _=>Bs G.N n 0
 | _=>none
def clsH (G:Sg):ExceptHandler -> Addr
 | .ExceptHandler (some (.Name x _)) _ _ _=>(Nq G.gb x).getD 0
 | _=>0
def ad2:ExceptHandler -> List Stmt
 | .ExceptHandler _ _ b _=>b
theorem aj4 {X:Cx} {G:Sg} (O:GOk X G) (a:Addr):GOk (X.hd a) (hdG G) where
 K:=O.K
 kind:=O.kind
 own:=fun _=>PassesOwn.never
 N:=O.N
 nd:=O.nd
 sc:=O.sc
 vis:=O.vis
 top:=O.top
 calm:=rfl
 hd:=fun z=>by cases z
 units:=O.units
 cel:=O.cel
 fn:=fun x i e=>by
  have e:(Cc G.gb).lookup x=some (.fn i):=e
  rw [Dc] at e
  obtain ⟨g,_,z⟩:=Option.map_eq_some_iff.mp e
  cases g <;> cases z
 val:=fun x v u e=>by
  have e:(Cc G.gb).lookup x=some (.val v u):=e
  rw [Dc] at e
  obtain ⟨g,hg,z⟩:=Option.map_eq_some_iff.mp e
  cases g with
  | val v' u'=>cases z;exact O.val x v u hg
  | exc C i=>cases z;exact ⟨(O.exc x C i hg).1,rfl⟩
  | cls C i=>cases z;exact ⟨(O.cls x C i hg).1,rfl⟩
  | fn i=>cases z
  | met m l=>cases z
 bl:=O.bl
 exc:=fun x C oi e=>by
  have e:(Cc G.gb).lookup x=some (.exc C oi):=e
  rw [Dc] at e
  obtain ⟨g,_,z⟩:=Option.map_eq_some_iff.mp e
  cases g <;> cases z
 cls:=fun x C oi e=>by
  have e:(Cc G.gb).lookup x=some (.cls C oi):=e
  rw [Dc] at e
  obtain ⟨g,_,z⟩:=Option.map_eq_some_iff.mp e
  cases g <;> cases z
 met:=fun m l e mi hm=>by
  rw [J4 (show Ba (Cc G.gb) m=some l from e)] at hm
  cases hm
 frm:=O.frm
 fr:=O.fr
theorem R7 {X:Cx} {pn:List (Addr × Obj)} {xe:Value -> Shared -> Prop} {i:FI} (F:FIOk X i):FIOk (X.tr pn xe) i:=⟨F.kp,F.ok,F.room,F.binds,F.vals⟩
theorem av9 {X:Cx} {G:Sg} (O:GOk X G) {pn:List (Addr × Obj)} {xe:Value -> Shared -> Prop} (ho:PassesOwn (model X.prog X.w) X.A X.env xe):GOk (X.tr pn xe) G where
 K:=O.K
 kind:=O.kind
 own:=fun _=>ho
 N:=O.N
 nd:=O.nd
 sc:=O.sc
 vis:=O.vis
 top:=O.top
 calm:=O.calm
 hd:=O.hd
 units:=O.units
 cel:=O.cel
 fn:=fun x i e=>⟨(O.fn x i e).1,R7 (O.fn x i e).2⟩
 val:=O.val
 bl:=O.bl
 exc:=fun x C oi e=>by
  obtain ⟨a,b,c,d⟩:=O.exc x C oi e
  refine ⟨a,b,c,?_⟩
  cases oi with
  | none=>exact d
  | some i=>exact ⟨d.1,d.2.1,R7 d.2.2.1,d.2.2.2⟩
 cls:=fun x C oi e=>by
  obtain ⟨a,b,d⟩:=O.cls x C oi e
  refine ⟨a,b,?_⟩
  cases oi with
  | none=>exact d
  | some i=>exact ⟨d.1,d.2.1,d.2.2.1,R7 d.2.2.2.1,d.2.2.2.2⟩
 met:=fun m l e mi hm=>⟨(O.met m l e mi hm).1,(O.met m l e mi hm).2.1,R7 (O.met m l e mi hm).2.2⟩
 frm:=O.frm
 fr:=O.fr
theorem W9 {G:Sg} {h:ExceptHandler} (hh:okH G h=true):∃ x p nm b suite pos,h = .ExceptHandler (some (.Name x p)) nm (b :: suite) pos /\ isGl G x=true /\ (Nq G.gb x).isSome=true /\ ∀ n,nm=some n -> (Bs G.N n 0).isSome=true /\ G.sc.lookup n=some .local:=by
 unfold okH at hh
 split at hh
 ·rw [Bool.and_eq_true,Bool.and_eq_true] at hh
  refine ⟨_,_,_,_,_,_,rfl,hh.1.1,hh.1.2,fun n e=>?_⟩
  have h2:=hh.2
  rw [e] at h2
  have h2:((Bs G.N n 0).isSome && (G.sc.lookup n == some .local))=true:=h2
  rw [Bool.and_eq_true] at h2
  exact ⟨h2.1,eq_of_beq h2.2⟩
 ·cases hh
theorem ad7 {X:Cx} {G:Sg} (O:GOk X G) {w:List Stmt -> DS} (h:∀ a ss,QSs (X.hd a) ss (w ss)):∀ {hl:List ExceptHandler},hl.all (okH G)=true -> HsOk X hl (hl.map fun h=>(clsH G h,W5 G h,w (ad2 h)))
 | [],_=>.nil
 | e0 :: r,hh=>by
  rw [List.all_cons,Bool.and_eq_true] at hh
  obtain ⟨h1,h2⟩:=hh
  obtain ⟨x,p,nm,b,suite,pos,rfl,hg,hs,hnm⟩:=W9 h1
  obtain ⟨T,hT⟩:=Option.isSome_iff_exists.mp hs
  have hl:∃ oi,G.gb.lookup x=some (.exc T oi):=by
   unfold Nq at hT
   split at hT
   ·rename_i T' oi e;cases hT;exact ⟨oi,e⟩
   ·cases hT
  obtain ⟨oi,hl⟩:=hl
  obtain ⟨m,kp,ec,_⟩:=O.exc x T oi hl
  have e:clsH G (.ExceptHandler (some (.Name x p)) nm (b :: suite) pos)=T:=by show (Nq G.gb x).getD 0=T;rw [hT];rfl
  rw [List.map_cons,e]
  have ao:AsOk X nm (W5 G (.ExceptHandler (some (.Name x p)) nm (b :: suite) pos)):=by
   cases nm with
   | none=>exact .no
   | some n=>
    obtain ⟨z1,z2⟩:=hnm n rfl
    obtain ⟨i,hi⟩:=Option.isSome_iff_exists.mp z1
    show AsOk X (some n) (Bs G.N n 0)
    rw [hi]
    exact .as (by rw [O.N];exact O.nd) (by rw [O.N];exact C9 hi) (by rw [O.sc];exact z2)
  exact .cons (O.gl hg) m (Pp hg).1 ec ao (fun a=>h a _) (ad7 O h h2)
mutual
def wS:Nat -> Sg -> Stmt -> DS
 | 0,_,_=>Bo
 | n + 1,G,st=>match st with
  | .Pass _=>Ae
  | .Break _=>dBrk
  | .Continue _=>dCnt
  | .Return (some e) _=>dRet (wE n G e)
  | .Return none _=>ad3
  | .Expr e _=>if F9 e=true then B9 (wE n G e) else Bo
  | .If c a b _=>dIf (wT n G c) (wSs n G a) (wSs n G b)
  | .Assign [.Name x _] (.ListComp elt [⟨tg,iter,ifs,0⟩] sc _) _=>match Bs G.N x 0 with
   | some i=>if okSt G x=true /\ G.calm=true /\ Dr G sc=true /\ Il iter=true then
     dSet i (Bp (Ed G sc.names) (wI n G tg iter) (wG n (B3 G sc.names) tg) (match ifs with | []=>dYes | [c]=>wT n (B3 G sc.names) c | _=>tNo) (wE n (B3 G sc.names) elt)) else Bo
   | none=>Bo
  | .Assign [.Name x _] e _=>match Bs G.N x 0 with
   | some i=>if okSt G x=true /\ F9 e=true then dSet i (wE n G e) else Bo
   | none=>Bo
  | .Assign [.Tuple ts kt pt] e _=>if F9 e=true /\ N2 e=true then dAsg (wE n G e) (wG n G (.Tuple ts kt pt)) else Bo
  | .Assign [.Attribute o f _] e _=>dFld G.K f (wE n G o) (wE n G e)
  | .Assign [.Subscript o i _] e _=>if N2 e=true /\ Fk i=true then dAsg (wE n G e) (Cm G.K (wE n G o) (wE n G i)) else Bo
  | .Raise (some e) none _=>if G.calm=true then Be G.K (wE n G e) else Bo
  | .For tg iter body [] _=>if G.calm=true /\ Il iter=true /\ G.top=true then dFor (wI n G tg iter) (wG n G tg) (wSs n G body) else Bo
  | .Try body (h :: hs) [] [] _=>if G.top=true /\ (h :: hs).all (okH G)=true then dTry G.K (wSs n G body) ((h :: hs).map fun h=>(clsH G h,W5 G h,wSs n (hdG G) (ad2 h))) else Bo
  | _=>Bo
def wSs:Nat -> Sg -> List Stmt -> DS
 | 0,_,_=>Bo
 | _ + 1,_,[]=>Ae
 | n + 1,G,s :: r=>dSeq (wS n G s) (wSs n G r)
end
theorem ah7:∀ (n:Nat) (X:Cx) (G:Sg),GOk X G -> (∀ s,QS X s (wS n G s)) /\ (∀ ss,QSs X ss (wSs n G ss)):=by
 intro n
 induction n with
 | zero=>
  intro X G O
  refine ⟨fun s=>?_,fun s=>?_⟩
  ·unfold wS;exact Bd
  ·unfold wSs;exact fun _ _ _ _ _ _ _ _ h=>h.elim
 | succ n ih=>
  intro X G O
  obtain ⟨hS,hSs⟩:=ih X G O
  obtain ⟨hE,hT,hI⟩:=w_ok n X G O
  refine ⟨fun s=>?_,fun s=>?_⟩
  ·unfold wS
   split
   ·exact ab1
   ·exact aq6
   ·exact aq7
   ·exact ar0 (hE _)
   ·exact ab2
   ·split
    ·exact ab0 (hE _) ‹_›
    ·exact Bd
   ·exact a37 (hT _) (hSs _) (hSs _)
   ·split
    ·rename_i i e
     split
     ·rename_i hh
      obtain ⟨h1,h2,h3,h4⟩:=hh
      refine Qd O e h1 (O.calm ▸ h2) h3 h4 (hI _ _) (fun X' O'=>Ox n X' _ O' _) (fun X' O'=>?_) (fun X' O'=>(w_ok n X' _ O').1 _)
      split
      ·exact Oe
      ·exact Og ((w_ok n X' _ O').2.1 _)
      ·exact fun _ _ _ _ _ _ _ _ h=>h.elim
     ·exact Bd
    ·exact Bd
   ·split
    ·rename_i i e
     split
     ·rename_i hh
      exact Xz O e hh.1 (hE _) (Ga hh.2 _ _ _)
     ·exact Bd
    ·exact Bd
   ·split
    ·rename_i hh
     exact aq5 (hE _) (Ox n X G O _) hh.1 hh.2
    ·exact Bd
   ·rw [<- O.K];exact aq8 (hE _) (hE _)
   ·split
    ·rename_i hh
     rw [<- O.K];exact ar1 O.units (hE _) (hE _) (hE _) hh.1 hh.2
    ·exact Bd
   ·split
    ·rename_i hcm
     rw [<- O.K];exact Xy O (O.hd (O.calm ▸ hcm)) (hE _)
    ·exact Bd
   ·split
    ·rename_i hh
     exact aq9 O hh.2.2 (O.calm ▸ hh.1) (hI _ _) (Ox n X G O _) (hSs _) hh.2.1
    ·exact Bd
   ·split
    ·rename_i hh
     rw [<- O.K]
     exact ar2 (O.frm hh.1).1 (O.frm hh.1).2 (fun pn xe ho=>(ih _ _ (av9 O ho)).2 _) (ad7 O (fun a ss=>(ih _ _ (aj4 O a)).2 ss) hh.2)
    ·exact Bd
   ·exact Bd
  ·cases s with
   | nil=>unfold wSs;exact ab3
   | cons a r=>unfold wSs;exact X0 (hS a) (hSs r)
section
variable {P:Program} {w:World} {K:PySem.W.Frag} {mg:Str -> Option Value} {base:Heap}
structure FnIn (P:Program) (w:World) (K:PySem.W.Frag) (mg:Str -> Option Value) (base:Heap) (k:Nat) (x:Str) (i:FI):Prop where
 at_:mg x=some (.ref i.f)
 kp:PySem.W.keepIn K (.ref i.f)=true
 ok:∃ CX,(∀ X':Cx,X'.prog=P -> X'.w=w -> Ka CX X') /\ FnOk P w K mg base CX i.k i.f i.fd i.ps i.sp
 le:i.k <= k
 binds:∀ j,j <= i.dfs.length -> Binds K i.fd i.ps (i.ds.drop j)
 vals:Vals i.dfs i.ds
def ah8 (P:Program) (w:World) (K:PySem.W.Frag) (mg:Str -> Option Value) (base:Heap) (k:Nat) (C:Addr):Option FI -> Prop
 | none=>PySem.W.findIn K (.ref C) "__init__" = some (some (.builtin "ValueError.__init__"))
 | some i=>PySem.W.findIn K (.ref C) "__init__" = some (some (.ref i.f)) /\ PySem.W.isFn K (.ref i.f)=true /\ PySem.W.keepIn K (.ref i.f)=true /\ (∃ CX,(∀ X':Cx,X'.prog=P -> X'.w=w -> Ka CX X') /\ FnOk P w K mg base CX i.k i.f i.fd i.ps i.sp) /\
   i.k + 1 <= k /\ (∀ j,j <= i.dfs.length -> Binds K i.fd i.ps (i.ds.drop j)) /\ Vals i.dfs i.ds
structure ExcIn (P:Program) (w:World) (K:PySem.W.Frag) (mg:Str -> Option Value) (base:Heap) (k:Nat) (x:Str) (C:Addr) (oi:Option FI):Prop where
 at_:mg x=some (.ref C)
 kp:PySem.W.keepIn K (.ref C)=true
 cls:ECls K C
 init:ah8 P w K mg base k C oi
structure FiIn (P:Program) (w:World) (K:PySem.W.Frag) (mg:Str -> Option Value) (base:Heap) (k:Nat) (i:FI):Prop where
 kp:PySem.W.keepIn K (.ref i.f)=true
 ok:∃ CX,(∀ X':Cx,X'.prog=P -> X'.w=w -> Ka CX X') /\ FnOk P w K mg base CX i.k i.f i.fd i.ps i.sp
 le:i.k <= k
 binds:∀ j,j <= i.dfs.length -> Binds K i.fd i.ps (i.ds.drop j)
 vals:Vals i.dfs i.ds
theorem FiIn.mono {k k':Nat} {i:FI} (F:FiIn P w K mg base k i) (h:k <= k'):FiIn P w K mg base k' i:=⟨F.kp,F.ok,Nat.le_trans F.le h,F.binds,F.vals⟩
def MkIn (P:Program) (w:World) (K:PySem.W.Frag) (mg:Str -> Option Value) (base:Heap) (k:Nat) (C:Addr):Option FI -> Prop
 | none=>PySem.W.makesIn K C=true /\ PySem.W.findIn K (.ref C) "__init__" = some (some (.builtin "object.__init__"))
 | some i=>PySem.W.makesIn K C=true /\ PySem.W.findIn K (.ref C) "__init__" = some (some (.ref i.f)) /\ PySem.W.isFn K (.ref i.f)=true /\ FiIn P w K mg base k i /\ i.k + 1 <= k
structure ClsIn (P:Program) (w:World) (K:PySem.W.Frag) (mg:Str -> Option Value) (base:Heap) (k:Nat) (x:Str) (C:Addr) (oi:Option FI):Prop where
 at_:mg x=some (.ref C)
 kp:PySem.W.keepIn K (.ref C)=true
 made:MkIn P w K mg base k C oi
theorem ClsIn.mono {k k':Nat} {x:Str} {C:Addr} {oi:Option FI} (F:ClsIn P w K mg base k x C oi) (h:k <= k'):ClsIn P w K mg base k' x C oi:=by
 refine ⟨F.at_,F.kp,?_⟩
 cases oi with
 | none=>exact F.made
 | some i=>obtain ⟨a,b,c,d,e⟩:=F.made;exact ⟨a,b,c,d.mono h,Nat.le_trans e h⟩
structure MetIn (P:Program) (w:World) (K:PySem.W.Frag) (mg:Str -> Option Value) (base:Heap) (k:Nat) (m:Str) (mi:MI):Prop where
 cls:Cls K mi.C
 at_:Meth K mi.C m mi.i.f
 fi:FiIn P w K mg base k mi.i
theorem MetIn.mono {k k':Nat} {m:Str} {mi:MI} (F:MetIn P w K mg base k m mi) (h:k <= k'):MetIn P w K mg base k' m mi:=⟨F.cls,F.at_,F.fi.mono h⟩
theorem ExcIn.mono {P:Program} {w:World} {K:PySem.W.Frag} {mg:Str -> Option Value} {base:Heap} {k k':Nat} {x:Str} {C:Addr} {oi:Option FI} (F:ExcIn P w K mg base k x C oi) (h:k <= k'):ExcIn P w K mg base k' x C oi:=by
 refine ⟨F.at_,F.kp,F.cls,?_⟩
 cases oi with
 | none=>exact F.init
 | some i=>obtain ⟨a,b,c,d,e,f⟩:=F.init;exact ⟨a,b,c,d,Nat.le_trans e h,f⟩
structure Tab (P:Program) (w:World) (K:PySem.W.Frag) (mg:Str -> Option Value) (base:Heap) (k:Nat) (gb:List (Str × GB)) (bl:List Str):Prop where
 fn:∀ x i,(x,GB.fn i) ∈ gb -> FnIn P w K mg base k x i
 val:∀ x v u,(x,GB.val v u) ∈ gb -> mg x=some u /\ RelV v u
 bl:∀ x ∈ bl,mg x=none
 exc:∀ x C oi,(x,GB.exc C oi) ∈ gb -> ExcIn P w K mg base k x C oi
 cls:∀ x C oi,(x,GB.cls C oi) ∈ gb -> ClsIn P w K mg base k x C oi
 met:∀ x m l,(x,GB.met m l) ∈ gb -> ∀ mi ∈ l,MetIn P w K mg base k m mi
theorem FnIn.mono {k k':Nat} {x:Str} {i:FI} (F:FnIn P w K mg base k x i) (h:k <= k'):FnIn P w K mg base k' x i:=⟨F.at_,F.kp,F.ok,Nat.le_trans F.le h,F.binds,F.vals⟩
theorem Tab.nil {bl:List Str} (h:∀ x ∈ bl,mg x=none):Tab P w K mg base 0 [] bl:=⟨fun _ _ h=>(by cases h),fun _ _ _ h=>(by cases h),h,fun _ _ _ h=>(by cases h),fun _ _ _ h=>(by cases h),fun _ _ _ h=>(by cases h)⟩
theorem Tab.mono {k k':Nat} {gb:List (Str × GB)} {bl:List Str} (T:Tab P w K mg base k gb bl) (h:k <= k'):Tab P w K mg base k' gb bl:=⟨fun x i hx=>(T.fn x i hx).mono h,T.val,T.bl,fun x C oi hx=>(T.exc x C oi hx).mono h,fun x C oi hx=>(T.cls x C oi hx).mono h,fun x m l hx mi hm=>(T.met x m l hx mi hm).mono h⟩
theorem Tab.cons {k:Nat} {gb:List (Str × GB)} {bl:List Str} {x:Str} {i:FI} (T:Tab P w K mg base k gb bl) (F:FnIn P w K mg base k x i):Tab P w K mg base k ((x,.fn i) :: gb) bl:=
 ⟨fun y j hy=>by
  rcases List.mem_cons.mp hy with e | e
  ·cases e;exact F
  ·exact T.fn y j e,fun y v' u' hy=>by
  rcases List.mem_cons.mp hy with e | e
  ·cases e
  ·exact T.val y v' u' e,T.bl,fun y C' oi' hy=>by
  rcases List.mem_cons.mp hy with e | e
  ·cases e
  ·exact T.exc y C' oi' e,fun y C' oi' hy=>by
  rcases List.mem_cons.mp hy with e | e
  ·cases e
  ·exact T.cls y C' oi' e,fun y m' l' hy=>by
  rcases List.mem_cons.mp hy with e | e
  ·cases e
  ·exact T.met y m' l' e⟩
theorem Tab.consX {k:Nat} {gb:List (Str × GB)} {bl:List Str} {x:Str} {C:Addr} {oi:Option FI} (T:Tab P w K mg base k gb bl) (F:ExcIn P w K mg base k x C oi):Tab P w K mg base k ((x,.exc C oi) :: gb) bl:=
 ⟨fun y j hy=>by
  rcases List.mem_cons.mp hy with e | e
  ·cases e
  ·exact T.fn y j e,fun y v' u' hy=>by
  rcases List.mem_cons.mp hy with e | e
  ·cases e
  ·exact T.val y v' u' e,T.bl,fun y C' oi' hy=>by
  rcases List.mem_cons.mp hy with e | e
  ·cases e;exact F
  ·exact T.exc y C' oi' e,fun y C' oi' hy=>by
  rcases List.mem_cons.mp hy with e | e
  ·cases e
  ·exact T.cls y C' oi' e,fun y m' l' hy=>by
  rcases List.mem_cons.mp hy with e | e
  ·cases e
  ·exact T.met y m' l' e⟩
theorem Tab.consV {k:Nat} {gb:List (Str × GB)} {bl:List Str} {x:Str} {v:V} {u:Value} (T:Tab P w K mg base k gb bl) (F:mg x=some u) (r:RelV v u):Tab P w K mg base k ((x,.val v u) :: gb) bl:=
 ⟨fun y j hy=>by
  rcases List.mem_cons.mp hy with e | e
  ·cases e
  ·exact T.fn y j e,fun y v' u' hy=>by
  rcases List.mem_cons.mp hy with e | e
  ·cases e;exact ⟨F,r⟩
  ·exact T.val y v' u' e,T.bl,fun y C' oi' hy=>by
  rcases List.mem_cons.mp hy with e | e
  ·cases e
  ·exact T.exc y C' oi' e,fun y C' oi' hy=>by
  rcases List.mem_cons.mp hy with e | e
  ·cases e
  ·exact T.cls y C' oi' e,fun y m' l' hy=>by
  rcases List.mem_cons.mp hy with e | e
  ·cases e
  ·exact T.met y m' l' e⟩
theorem Tab.consC {k:Nat} {gb:List (Str × GB)} {bl:List Str} {x:Str} {C:Addr} {oi:Option FI} (T:Tab P w K mg base k gb bl) (F:ClsIn P w K mg base k x C oi):Tab P w K mg base k ((x,.cls C oi) :: gb) bl:=
 ⟨fun y j hy=>by
  rcases List.mem_cons.mp hy with e | e
  ·cases e
  ·exact T.fn y j e,fun y v' u' hy=>by
  rcases List.mem_cons.mp hy with e | e
  ·cases e
  ·exact T.val y v' u' e,T.bl,fun y C' oi' hy=>by
  rcases List.mem_cons.mp hy with e | e
  ·cases e
  ·exact T.exc y C' oi' e,fun y C' oi' hy=>by
  rcases List.mem_cons.mp hy with e | e
  ·cases e;exact F
  ·exact T.cls y C' oi' e,fun y m' l' hy=>by
  rcases List.mem_cons.mp hy with e | e
  ·cases e
  ·exact T.met y m' l' e⟩
theorem Tab.consM {k:Nat} {gb:List (Str × GB)} {bl:List Str} {x:Str} {m:Str} {l:List MI} (T:Tab P w K mg base k gb bl) (F:∀ mi ∈ l,MetIn P w K mg base k m mi):Tab P w K mg base k ((x,.met m l) :: gb) bl:=
 ⟨fun y j hy=>by
  rcases List.mem_cons.mp hy with e | e
  ·cases e
  ·exact T.fn y j e,fun y v' u' hy=>by
  rcases List.mem_cons.mp hy with e | e
  ·cases e
  ·exact T.val y v' u' e,T.bl,fun y C' oi' hy=>by
  rcases List.mem_cons.mp hy with e | e
  ·cases e
  ·exact T.exc y C' oi' e,fun y C' oi' hy=>by
  rcases List.mem_cons.mp hy with e | e
  ·cases e
  ·exact T.cls y C' oi' e,fun y m' l' hy=>by
  rcases List.mem_cons.mp hy with e | e
  ·cases e;exact F
  ·exact T.met y m' l' e⟩
theorem Ir (X:Cx):Ka CX0 X:=fun _ _ _ _ _ _ _ _ _ h=>h.elim
def defG (K:PySem.W.Frag) (N:List Str) (sc:Scope) (gb:List (Str × GB)) (bl:List Str):Sg:=⟨K,N,sc.names,gb,bl,true,true⟩
def Am (N:List Str) (sc:Scope):Bool:=N.all fun x=>(sc.names.lookup x == some .local) || (sc.names.lookup x == some .cell)
def ai8 (Q:VK) (E:EK):Outs:=⟨fun _ H'=>Q .non H',Q,fun _ _=>False,fun _ _=>False,fun _=>E⟩
structure FunD (K:PySem.W.Frag) (x qual:Str) (st:Stmt) (f:Addr) (fd:FuncData) (dV:Value):Prop where
 ex:∃ (oc:Value) (od:Option Addr) (kV doc pm:Value) (an:Option Addr) (cdv ct:Value) (osl:Array (Option Value)),
  fd=PySem.W.fnOf x qual (A9 st) (Ag st) (Aa st) dV kV doc pm an cdv ct /\ K.lookup f=some ⟨oc,od,.func fd,osl⟩ /\ PySem.W.codeIn K cdv qual=true
 kp:PySem.W.keepIn K (.ref f)=true
theorem Fun.toD {x qual:Str} {st:Stmt} {f:Addr} {fd:FuncData} (F:Fun K x qual st f fd):FunD K x qual st f fd .none:=⟨F.ex,F.kp⟩
theorem Zf {x qual:Str} {st:Stmt} {f:Addr} {oc:Value} {od an:Option Addr} {osl:Array (Option Value)} {dV kV doc pm cdv ct:Value} (l:K.lookup f=some ⟨oc,od,.func (PySem.W.fnOf x qual (A9 st) (Ag st) (Aa st) dV kV doc pm an cdv ct),osl⟩)
  (c:PySem.W.codeIn K cdv qual=true) (k:PySem.W.keepIn K (.ref f)=true):FunD K x qual st f (PySem.W.fnOf x qual (A9 st) (Ag st) (Aa st) dV kV doc pm an cdv ct) dV:=⟨⟨oc,od,kV,doc,pm,an,cdv,ct,osl,rfl,l,c⟩,k⟩
theorem FunD.ok {x qual:Str} {st:Stmt} {f:Addr} {fd:FuncData} {dV:Value} {N ps:List Str} {k:Nat} {sp:Sp} (F:FunD K x qual st f fd dV) (S:Ai N ps (Aa st)) (len:∀ vs H Q E,sp vs H Q E -> vs.length=ps.length)
  (hbody:∀ (cdv:Value) (A:Around) (outer:List Env) (s:Shared) (H:Hp) (vs:List V) (Q:VK) (E:XK),Room k (A.deeper (envOfC qual (Aa st) s.heap.objs.size f cdv)) -> sp vs H Q E ->
   ∃ t,PSs (cxOf CX0 P w K mg base N qual (Aa st) f cdv A outer s H E).nox (Ag st) t /\ t { nx:=fun _ H'=>Q .non H',rt:=Q } (El N vs) H):FnOk P w K mg base CX0 (k + 1) f fd ps sp:=by
 obtain ⟨oc,od,kV,doc,pm,an,cdv,ct,osl,rfl,lk,hcd⟩:=F.ex
 refine ad6 lk hcd S len fun A outer s H vs Q E hr hsp=>?_
 obtain ⟨t,h,q⟩:=hbody cdv A outer s H vs Q E hr hsp
 exact ⟨t,h.nox,q⟩
theorem O9 {fd:FuncData} {ps:List Str} {T:Addr} {o:Obj} {items:Array Value} {n:Nat} {ds:List Value} (hd:fd.defaults = .ref T) (ho:K.lookup T=some o) (hs:o.data = .seq items n)
  (h:∀ us:List Value,(us ++ ds).length=ps.length -> ∃ k:Option (Array Value) -> Sem (List (Str × Value)),bindArgs fd ⟨us,[]⟩=seqItems? fd.defaults >>= k /\ k (some items)=pure (ps.zip (us ++ ds))):Binds K fd ps ds:=fun s us X hl=>by
 obtain ⟨k,h1,h2⟩:=h us hl
 exact PySem.W.binds_K X hd ho hs h1 h2
theorem FunD.okW0 {x qual:Str} {st:Stmt} {f:Addr} {fd:FuncData} {N ps:List Str} {k n:Nat} {sp:Sp} {gb:List (Str × GB)} {bl:List Str} {t:DS} {dV:Value} (F:FunD K x qual st f fd dV) (S:Ai N ps (Aa st)) (hv:Am N (Aa st)=true)
  (T:Tab P w K mg base k gb bl) (rd:wSs n (defG K N (Aa st) gb bl) (Ag st)=t) (len:∀ vs H Q E,sp vs H Q E -> vs.length=ps.length)
  (hbody:∀ (vs:List V) (H:Hp) (Q:VK) (E:XK),sp vs H Q E -> t (ai8 Q fun _ _=>False) (El N vs) H):FnOk P w K mg base CX0 (k + 1) f fd ps sp:=by
 refine F.ok S len fun cdv A outer s H vs Q E hr h=>?_
 have O:GOk (cxOf CX0 P w K mg base N qual (Aa st) f cdv A outer s H E).nox (defG K N (Aa st) gb bl):=by
  refine ⟨rfl,S.kind,(fun _=>PassesOwn.never),rfl,S.nd,fun x=>rfl,fun x hx=>?_,fun _ _=>rfl,rfl,(fun _=>hr.hd),hr.units,fun x hx=>?_,fun x i e=>?_,fun x v u e=>?_,fun x hx=>?_,fun x C oi e=>?_,fun x C oi e=>?_,fun m l e mi hm=>?_,(fun _=>⟨rfl,rfl⟩),⟨_,_,_,rfl,rfl,rfl⟩⟩
  ·have:=List.all_eq_true.mp hv x hx
   rw [Bool.or_eq_true] at this
   exact this.elim (fun z=>.inl (eq_of_beq z)) fun z=>.inr (.inl (eq_of_beq z))
  ·rcases hx with hx | hx
   ·exact E8 hx
   ·exact absurd rfl (S.nofree _ (PySem.mem_of_lookup hx))
  ·have FI:=T.fn x i (PySem.mem_of_lookup e)
   exact ⟨FI.at_,FI.kp,FI.ok,hr.mono FI.le,FI.binds,FI.vals⟩
  ·exact T.val x v u (PySem.mem_of_lookup e)
  ·exact T.bl x (by have hx':bl.contains x=true:=hx;simpa using hx')
  ·have EI:=T.exc x C oi (PySem.mem_of_lookup e)
   refine ⟨EI.at_,EI.kp,EI.cls,?_⟩
   cases oi with
   | none=>exact EI.init
   | some i=>obtain ⟨a,b,c,d,e,f,g⟩:=EI.init;exact ⟨a,b,⟨c,d,hr.mono (by omega),f,g⟩,hr.mono e⟩
  ·have CI:=T.cls x C oi (PySem.mem_of_lookup e)
   refine ⟨CI.at_,CI.kp,?_⟩
   cases oi with
   | none=>exact CI.made
   | some i=>obtain ⟨a,b,c,d,e⟩:=CI.made;exact ⟨a,b,c,⟨d.kp,d.ok,hr.mono d.le,d.binds,d.vals⟩,hr.mono e⟩
  ·obtain ⟨x,hx⟩:=Bg e
   have MI:=T.met x m l hx mi hm
   exact ⟨MI.cls,MI.at_,⟨MI.fi.kp,MI.fi.ok,hr.mono MI.fi.le,MI.fi.binds,MI.fi.vals⟩⟩
 refine ⟨_,(ah7 n _ _ O).2 (Ag st) (fun _ _ _=>False) (fun _ _ _ _ _ _ _ h=>h.elim),?_⟩
 rw [rd]
 exact hbody vs H Q E h
end
theorem Same.upd {H:Hp} {a:Addr} {o:HO} (h:H a=none):Same H (upd H a o):=fun b u e=>by rw [Ad (Af e h)];exact e
theorem Same.set {H H':Hp} {a:Addr} {o:HO} (s:Same H H') (h:H a=none):Same H (L2.upd H' a o):=fun b u e=>by rw [Ad (Af e h)];exact s b u e
theorem Same.seqT {K:PySem.W.Frag} {H H':Hp} {a:Addr} {xs:List V} (e:Same H H') (h:SqT K H a xs):SqT K H' a xs:=by
 rcases h with (h | ⟨o,h⟩) | h
 ·exact .inl (.inl (e _ _ h))
 ·exact .inl (.inr ⟨o,e _ _ h⟩)
 ·exact .inr h
structure Ca (J:It) (its:List V) (ok:Hp -> Prop):Prop where
 go:∀ i H,ok H -> i < its.length -> J.go i H
 stop:∀ H,ok H -> J.stop its.length H
 yld:∀ i H x H',ok H -> i < its.length -> J.yld i H x H' -> H' = H /\ its[i]? = some x
structure G1 (J:It) (its:List (V × V)) (ok:Hp -> Prop):Prop where
 go:∀ i H,ok H -> i < its.length -> J.go i H
 stop:∀ H,ok H -> J.stop its.length H
 yld:∀ i H v H',ok H -> i < its.length -> J.yld i H v H' -> ∃ T x y,H T=none /\ v = .ref T /\ its[i]? = some (x,y) /\ H' = upd H T (.tup [x,y])
def D5 (z:Str):List V:=z.cps.toList.map fun c=>V.str ⟨#[c]⟩
theorem ay0 (z:Str):Ca (Its z) (D5 z) (fun _=>True):=by
 have e:(D5 z).length=z.cps.size:=by unfold D5;simp
 refine ⟨fun i H _ h=>?_,fun H _=>?_,fun i H x H' _ _ h=>?_⟩
 ·show i < z.cps.size;omega
 ·show (D5 z).length=z.cps.size;exact e
 ·obtain ⟨h1,c,h2,h3⟩:=h
  refine ⟨h1,?_⟩
  unfold D5
  rw [List.getElem?_map,Array.getElem?_toList,h2,h3]
  rfl
theorem Au {K:PySem.W.Frag} {a:Addr} (xs:List V):Ca (Itl K a) xs (fun H=>SqL K H a xs):=by
 refine ⟨fun i H q h=>⟨xs,xs[i],q,by simp [h]⟩,fun H q=>⟨xs,q,Nat.le_refl _⟩,fun i H x H' q _ h=>?_⟩
 obtain ⟨h1,h2⟩:=h
 exact ⟨h1,h2 xs q⟩
theorem Qt {K:PySem.W.Frag} {a:Addr} (xs:List V):Ca (Itt K a) xs (fun H=>SqT K H a xs):=by
 refine ⟨fun i H q h=>⟨xs,xs[i],q,by simp [h]⟩,fun H q=>⟨xs,q,Nat.le_refl _⟩,fun i H x H' q _ h=>?_⟩
 obtain ⟨h1,h2⟩:=h
 exact ⟨h1,h2 xs q⟩
def rngV (lo:Int) (n:Nat):List V:=(List.range n).map fun (i:Nat)=>V.int (lo + (i:Int))
theorem B1 (lo:Int) (n:Nat):(rngV lo n).length=n:=by unfold rngV;simp
theorem Ol {lo:Int} {n i:Nat} (h:i < n):(rngV lo n)[i]? = some (.int (lo + (i:Int))):=by unfold rngV;simp [h]
theorem Ec (lo:Int) (n:Nat):Ca (Itr lo n) (rngV lo n) (fun _=>True):=by
 refine ⟨fun i H _ h=>?_,fun H _=>?_,fun i H x H' _ hi h=>?_⟩
 ·rw [B1] at h;exact h
 ·show n <= (rngV lo n).length;rw [B1];exact Nat.le_refl _
 ·obtain ⟨h1,h2⟩:=h
  rw [B1] at hi
  exact ⟨h1,by rw [Ol hi,h2]⟩
def C6:Nat -> List V -> List (V × V)
 | _,[]=>[]
 | k,x :: r=>(.int k,x) :: C6 (k + 1) r
theorem Ap:∀ (k:Nat) (xs:List V),(C6 k xs).length=xs.length
 | _,[]=>rfl
 | k,_ :: r=>by rw [C6,List.length_cons,List.length_cons,Ap (k + 1) r]
theorem B4:∀ {k i:Nat} {xs:List V} {x:V},xs[i]? = some x -> (C6 k xs)[i]? = some (.int ((k + i:Nat):Int),x)
 | _,_,[],_,h=>by simp at h
 | k,0,y :: r,x,h=>by
  simp only [List.getElem?_cons_zero,Option.some.injEq] at h
  subst h
  rfl
 | k,i + 1,y :: r,x,h=>by
  rw [List.getElem?_cons_succ] at h
  rw [C6,List.getElem?_cons_succ,B4 h]
  congr 4
  omega
theorem Cg {K:PySem.W.Frag} {a:Addr} (xs:List V):G1 (Ite K a) (C6 0 xs) (fun H=>SqL K H a xs):=by
 have e:=Ap 0 xs
 refine ⟨fun i H q h=>⟨xs,xs[i]'(by omega),q,by simp⟩,fun H q=>⟨xs,q,by omega⟩,fun i H v H' q _ h=>?_⟩
 obtain ⟨T,x,hT,h1,h2,h4⟩:=h
 refine ⟨T,.int i,x,hT,h1,?_,h4⟩
 have:=B4 (k:=0) (h2 xs q)
 rw [Nat.zero_add] at this
 exact this
section
variable {J:It} {its:List V} {ok:Hp -> Prop} {g:DG} {tb:DS} {D:Outs} {σ:St} {H:Hp}
theorem Av (Y:Ca J its ok) (Pv:Nat -> St -> Hp -> Prop) (h0:Pv 0 σ H) (hok:∀ i σ H,i <= its.length -> Pv i σ H -> ok H)
  (hs:∀ i x σ H,its[i]? = some x -> Pv i σ H -> g x σ H fun σ2 H2=>tb { D with nx:=Pv (i + 1),ct:=Pv (i + 1),bk:=D.nx } σ2 H2) (hd:∀ σ H,Pv its.length σ H -> D.nx σ H):ForW J g tb D σ H:=by
 refine ⟨fun i m σ H=>m=its.length - i /\ i <= its.length /\ Pv i σ H,⟨its.length,by simp,Nat.zero_le _,h0⟩,?_⟩
 rintro i m σ H ⟨rfl,hi,p⟩
 by_cases hlt:i < its.length
 ·refine .inr ⟨Y.go i H (hok i σ H hi p) hlt,Pv (i + 1),fun σ' H' p'=>⟨its.length - (i + 1),by omega,rfl,hlt,p'⟩,fun x H' y=>?_⟩
  obtain ⟨e,y2⟩:=Y.yld i H x H' (hok i σ H hi p) hlt y
  subst e
  exact hs i x σ _ y2 p
 ·have e:i=its.length:=by omega
  subst e
  exact .inl ⟨Y.stop H (hok _ σ H hi p),hd σ H p⟩
theorem Cr {its:List (V × V)} (Y:G1 J its ok) (Pv:Nat -> St -> Hp -> Prop) (h0:Pv 0 σ H) (hok:∀ i σ H,i <= its.length -> Pv i σ H -> ok H)
  (hs:∀ i x y T σ H,its[i]? = some (x,y) -> H T=none -> Pv i σ H -> g (.ref T) σ (upd H T (.tup [x,y])) fun σ2 H2=>tb { D with nx:=Pv (i + 1),ct:=Pv (i + 1),bk:=D.nx } σ2 H2) (hd:∀ σ H,Pv its.length σ H -> D.nx σ H):ForW J g tb D σ H:=by
 refine ⟨fun i m σ H=>m=its.length - i /\ i <= its.length /\ Pv i σ H,⟨its.length,by simp,Nat.zero_le _,h0⟩,?_⟩
 rintro i m σ H ⟨rfl,hi,p⟩
 by_cases hlt:i < its.length
 ·refine .inr ⟨Y.go i H (hok i σ H hi p) hlt,Pv (i + 1),fun σ' H' p'=>⟨its.length - (i + 1),by omega,rfl,hlt,p'⟩,fun x H' y=>?_⟩
  obtain ⟨T,u,v,hT,e1,e2,e3⟩:=Y.yld i H x H' (hok i σ H hi p) hlt y
  subst e1 e3
  exact hs i u v T σ _ e2 hT p
 ·have e:i=its.length:=by omega
  subst e
  exact .inl ⟨Y.stop H (hok _ σ H hi p),hd σ H p⟩
variable {tc:DT} {te:DE} {L:Addr} {R:Hp -> Prop} {E:EK}
theorem De (Y:Ca J its ok) (Pv:Nat -> St -> Hp -> Prop) (h0:Pv 0 σ H) (hok:∀ i σ H,i <= its.length -> Pv i σ H -> ok H)
  (hs:∀ i x σ H,its[i]? = some x -> Pv i σ H -> g x σ H fun σ3 H3=>tc σ3 H3 (fun b H4=>if b=true then te σ3 H4 (fun v H5=>∃ ys,H5 L=some (.lst ys) /\ ys.length < sizeLine /\ Pv (i + 1) σ3 (upd H5 L (.lst (ys ++ [v])))) E else Pv (i + 1) σ3 H4) E)
  (hd:∀ σ H,Pv its.length σ H -> R H):CmpW J g tc te L R σ H E:=by
 refine ⟨fun i m σ H=>m=its.length - i /\ i <= its.length /\ Pv i σ H,⟨its.length,by simp,Nat.zero_le _,h0⟩,?_⟩
 rintro i m σ H ⟨rfl,hi,p⟩
 by_cases hlt:i < its.length
 ·refine .inr ⟨Y.go i H (hok i σ H hi p) hlt,Pv (i + 1),fun σ' H' p'=>⟨its.length - (i + 1),by omega,rfl,hlt,p'⟩,fun x H' y=>?_⟩
  obtain ⟨e,y2⟩:=Y.yld i H x H' (hok i σ H hi p) hlt y
  subst e
  exact hs i x σ _ y2 p
 ·have e:i=its.length:=by omega
  subst e
  exact .inl ⟨Y.stop H (hok _ σ H hi p),hd σ H p⟩
theorem Q6 {its:List (V × V)} (Y:G1 J its ok) (Pv:Nat -> St -> Hp -> Prop) (h0:Pv 0 σ H) (hok:∀ i σ H,i <= its.length -> Pv i σ H -> ok H)
  (hs:∀ i x y T σ H,its[i]? = some (x,y) -> H T=none -> Pv i σ H -> g (.ref T) σ (upd H T (.tup [x,y])) fun σ3 H3=>tc σ3 H3 (fun b H4=>if b=true then te σ3 H4 (fun v H5=>∃ ys,H5 L=some (.lst ys) /\ ys.length < sizeLine /\ Pv (i + 1) σ3 (upd H5 L (.lst (ys ++ [v])))) E else Pv (i + 1) σ3 H4) E)
  (hd:∀ σ H,Pv its.length σ H -> R H):CmpW J g tc te L R σ H E:=by
 refine ⟨fun i m σ H=>m=its.length - i /\ i <= its.length /\ Pv i σ H,⟨its.length,by simp,Nat.zero_le _,h0⟩,?_⟩
 rintro i m σ H ⟨rfl,hi,p⟩
 by_cases hlt:i < its.length
 ·refine .inr ⟨Y.go i H (hok i σ H hi p) hlt,Pv (i + 1),fun σ' H' p'=>⟨its.length - (i + 1),by omega,rfl,hlt,p'⟩,fun x H' y=>?_⟩
  obtain ⟨T,u,v,hT,e1,e2,e3⟩:=Y.yld i H x H' (hok i σ H hi p) hlt y
  subst e1 e3
  exact hs i u v T σ _ e2 hT p
 ·have e:i=its.length:=by omega
  subst e
  exact .inl ⟨Y.stop H (hok _ σ H hi p),hd σ H p⟩
theorem Do {α β:Type} {its:List α} {i:Nat} {x:α} (h:its[i]? = some x) (p:α -> Bool) (f:α -> β):((its.take (i + 1)).filter p).map f=((its.take i).filter p).map f ++ (if p x=true then [f x] else []):=by
 rw [List.take_add_one,h]
 simp only [Option.toList_some,List.filter_append,List.map_append]
 congr 1
 cases e:p x <;> simp [e]
theorem G5 (Y:Ca J its ok) (Sg:St -> Prop) (p:V -> Bool) (f:V -> V) (h0:H L=none) (hok:∀ H1,Same H H1 -> ok H1) (hn:its.length < sizeLine) (hσ:Sg σ)
  (hs:∀ x σ H1,x ∈ its -> Sg σ -> Same H H1 -> ∀ (Fin:V -> St -> Hp -> Prop) (Skip:St -> Hp -> Prop),(∀ v σ3 H5,Sg σ3 -> Same H1 H5 -> p x=true -> v=f x -> Fin v σ3 H5) -> (∀ σ3 H4,Sg σ3 -> Same H1 H4 -> p x=false -> Skip σ3 H4) ->
   g x σ H1 fun σ3 H3=>tc σ3 H3 (fun b H4=>if b=true then te σ3 H4 (fun v H5=>Fin v σ3 H5) E else Skip σ3 H4) E)
  (hd:∀ H',Same H H' -> H' L=some (.lst ((its.filter p).map f)) -> R H'):CmpW J g tc te L R σ (upd H L (.lst [])) E:=by
 refine De Y (fun i σ' H'=>Sg σ' /\ Same H H' /\ H' L=some (.lst (((its.take i).filter p).map f))) ⟨hσ,Same.upd h0,Ac⟩ (fun i σ' H' _ q=>hok H' q.2.1) ?_ ?_
 ·rintro i x σ' H' hx ⟨q1,q2,q3⟩
  have hi:i < its.length:=(List.getElem?_eq_some_iff.mp hx).1
  refine hs x σ' H' (List.mem_of_getElem? hx) q1 q2 (fun v σ3 H5=>∃ ys,H5 L=some (.lst ys) /\ ys.length < sizeLine /\ Sg σ3 /\ Same H (upd H5 L (.lst (ys ++ [v]))) /\ upd H5 L (.lst (ys ++ [v])) L=some (.lst (((its.take (i + 1)).filter p).map f)))
   (fun σ3 H4=>Sg σ3 /\ Same H H4 /\ H4 L=some (.lst (((its.take (i + 1)).filter p).map f))) (fun v σ3 H5 s1 s2 hp hv=>?_) (fun σ3 H4 s1 s2 hp=>?_)
  ·refine ⟨_,s2 _ _ q3,?_,s1,(q2.trans s2).set h0,?_⟩
   ·rw [List.length_map]
    have h1:=List.length_filter_le p (its.take i)
    have h2:(its.take i).length <= i:=by rw [List.length_take];omega
    omega
   ·rw [Ac,Do hx,if_pos hp,hv]
  ·refine ⟨s1,q2.trans s2,?_⟩
   rw [s2 _ _ q3,Do hx,if_neg (by rw [hp];exact Bool.false_ne_true),List.append_nil]
 ·rintro σ' H' ⟨_,q2,q3⟩
  rw [List.take_length] at q3
  exact hd H' q2 q3
end
section
variable {K:PySem.W.Frag} {H H':Hp}
theorem Same.seqL {a:Addr} {xs:List V} (e:Same H H') (h:SqL K H a xs):SqL K H' a xs:=by
 rcases h with (h | ⟨o,h⟩) | h
 ·exact .inl (.inl (e _ _ h))
 ·exact .inl (.inr ⟨o,e _ _ h⟩)
 ·exact .inr h
mutual
theorem Q0 (S:Same H H'):∀ {d:Dt} {x:V},At K H d x -> At K H' d x
 | .at_ v,x,h=>by unfold At at h ⊢;exact h
 | .lst l,x,h=>by unfold At at h ⊢;obtain ⟨a,xs,e,q,h⟩:=h;exact ⟨a,xs,e,S.seqL q,Lo S h⟩
 | .tup l,x,h=>by unfold At at h ⊢;obtain ⟨a,xs,e,q,h⟩:=h;exact ⟨a,xs,e,S.seqT q,Lo S h⟩
theorem Lo (S:Same H H'):∀ {ds:List Dt} {xs:List V},AtL K H ds xs -> AtL K H' ds xs
 | [],xs,h=>by unfold AtL at h ⊢;exact h
 | d :: ds,xs,h=>by unfold AtL at h ⊢;obtain ⟨y,ys,e,h1,h2⟩:=h;exact ⟨y,ys,e,Q0 S h1,Lo S h2⟩
end
theorem Dd:AtL K H [] []:=by unfold AtL;rfl
theorem Ch {d:Dt} {ds:List Dt} {x:V} {xs:List V} (h:At K H d x) (t:AtL K H ds xs):AtL K H (d :: ds) (x :: xs):=by unfold AtL;exact ⟨x,xs,rfl,h,t⟩
def strD (z:Str):Dt:=.at_ (.str z)
theorem Qz {z:Str}:At K H (strD z) (.str z):=by unfold strD At;exact ⟨rfl,rfl⟩
theorem Hx:∀ {r:List Str},AtL K H (r.map strD) (r.map V.str)
 | []=>Dd
 | _ :: _=>Ch Qz Hx
theorem Lp {a:Addr} {r:List Str} (h:SqT K H a (r.map V.str)):At K H (.tup (r.map strD)) (.ref a):=by unfold At;exact ⟨a,_,rfl,h,Hx⟩
theorem G3 {a:Addr} {r:List Str} (h:SqL K H a (r.map V.str)):At K H (.lst (r.map strD)) (.ref a):=by unfold At;exact ⟨a,_,rfl,h,Hx⟩
theorem ai0 {a:Addr} {ds:List Dt} {xs:List V} (h:SqT K H a xs) (g:AtL K H ds xs):At K H (.tup ds) (.ref a):=by unfold At;exact ⟨a,xs,rfl,h,g⟩
theorem O3 {a:Addr} {ds:List Dt} {xs:List V} (h:SqL K H a xs) (g:AtL K H ds xs):At K H (.lst ds) (.ref a):=by unfold At;exact ⟨a,xs,rfl,h,g⟩
theorem Qy {v:V} (f:A7 v=true):At K H (.at_ v) v:=by unfold At;exact ⟨rfl,f⟩
end
theorem Cj {α:Type} {f:α -> Dt} {n:Nat} (h:∀ a,dep (f a) <= n):∀ (l:List α),deps (l.map f) <= n
 | []=>by unfold List.map deps;exact Nat.zero_le _
 | a :: l=>by
  rw [List.map_cons]
  unfold deps
  exact Nat.max_le.mpr ⟨h a,Cj h l⟩
theorem C4 (z:Str):dep (strD z) <= 0:=by unfold strD dep;exact Nat.le_refl _
section
variable {K:PySem.W.Frag} {H H':Hp}
theorem Vx {J:It} {its:List V} {ok:Hp -> Prop} {te:DE} {σ:St} {D:Addr} {R:Hp -> Prop} {E:EK} (Y:Ca J its ok) (Sg:St -> Prop) (hD:H D=none) (hok:∀ H1,Same H H1 -> ok H1) (hn:its.length < sizeLine) (hσ:Sg σ) (hS:∀ σ x,Sg σ -> Sg (σ.set 0 (some x)))
  (he:∀ x σ H1 Q1,x ∈ its -> Sg σ -> Same H H1 -> (∀ H2,Same H1 H2 -> Q1 (.bl true) H2) -> te (σ.set 0 (some x)) H1 Q1 E) (k:∀ H',Same H H' -> SqL K H' D ((its.map fun _=>true).map V.bl) -> R H') :
  CmpW J (gdN 0) dYes te D R σ (upd H D (.lst [])) E:=by
 refine G5 Y Sg (fun _=>true) (fun _=>.bl true) hD hok hn hσ ?_ ?_
 ·intro x σ H1 hx hs S Fin Skip hF hK
  exact he x σ H1 _ hx hs S fun H2 S2=>hF _ _ _ (hS _ _ hs) S2 rfl rfl
 ·intro H' S hD'
  exact k H' S (SqL.of (hD'.trans (by rw [List.filter_eq_self.mpr (fun _ _=>rfl),List.map_map];rfl)))
theorem Qx (its:List V):((its.map fun _=>true).all fun b=>b)=true:=by rw [List.all_map,List.all_eq_true];exact fun _ _=>rfl
end
end L2
namespace L2
open PySem PySem.Spec PySem.W
structure XC (K:PySem.W.Frag) (C:Addr) (bm:List Value):Prop where
 lk:∃ nm q N bs sn sub ab col dd k0 k1 k2 k3 k5,K.lookup C=some (excClassObj nm q C N bs bm true sn sub ab col dd k0 k1 k2 k3 k5 "ValueError.__new__")
 ty:typeIn K (.ref C)=some (.type "type")
 sa:findIn K (.ref C) "__setattr__" = some (some (.builtin "object.__setattr__"))
 ga:findIn K (.ref C) "__getattribute__" = some (some (.builtin "BaseException.__getattribute__"))
 gt:findIn K (.ref C) "__getattr__" = some none
 ca:findIn K (.ref C) "__class__" = some (some (.builtin "object.__class__"))
 hn:specialIn K (.builtin "object.__class__") "__get__" = some (some (.builtin "getset_descriptor.__get__"))
 htk:takesIn K (.builtin "object.__class__")=some true
theorem xc_mk {K:PySem.W.Frag} {C N:Addr} {bm bs:List Value} {nm q:Str} {sn:List Str} {sub:List Value} {ab:Bool} {col:Option Bool} {dd:Option Addr} {k0 k1 k2 k3 k5:Option Value}
  (lk:K.lookup C=some (excClassObj nm q C N bs bm true sn sub ab col dd k0 k1 k2 k3 k5 "ValueError.__new__")) (ty:typeIn K (.ref C)=some (.type "type")) (sa:findIn K (.ref C) "__setattr__" = some (some (.builtin "object.__setattr__")))
  (ga:findIn K (.ref C) "__getattribute__" = some (some (.builtin "BaseException.__getattribute__"))) (gt:findIn K (.ref C) "__getattr__" = some none) (ca:findIn K (.ref C) "__class__" = some (some (.builtin "object.__class__")))
  (hn:specialIn K (.builtin "object.__class__") "__get__" = some (some (.builtin "getset_descriptor.__get__"))) (htk:takesIn K (.builtin "object.__class__")=some true):XC K C bm:=⟨⟨_,_,_,_,_,_,_,_,_,_,_,_,_,_,lk⟩,ty,sa,ga,gt,ca,hn,htk⟩
theorem XC.ecls {K:PySem.W.Frag} {C:Addr} {bm:List Value} (x:XC K C bm) (h:Aw bm=true):ECls K C:=by
 obtain ⟨nm,q,N,bs,sn,sub,ab,col,dd,k0,k1,k2,k3,k5,lk⟩:=x.lk
 exact ⟨⟨_,_,_,_,bm,true,_,_,_,_,_,_,_,_,_,_,lk,h,rfl⟩,x.sa,x.ga,x.gt,x.ca,x.hn,x.htk⟩
theorem Gi {K:PySem.W.Frag} {fd:FuncData} {ps:List Str} {T:Addr} {o:Obj} {items:Array Value} {n:Nat} {ds:List Value} (m:Nat) (hd:fd.defaults = .ref T) (ho:K.lookup T=some o) (hs:o.data = .seq items n) (hm:m + ds.length=ps.length)
  (h:∀ us:List Value,us.length=m -> ∃ k:Option (Array Value) -> Sem (List (Str × Value)),bindArgs fd ⟨us,[]⟩=seqItems? fd.defaults >>= k /\ k (some items)=pure (ps.zip (us ++ ds))):Binds K fd ps ds:=
 O9 hd ho hs fun us hl=>h us (by rw [List.length_append] at hl;omega)
end L2
namespace L2
open PySem PySem.Spec PyProof.Rows
open Sem (wp)
section
variable {X:Cx} {pins:List (Addr × Obj)} {σ:St} {H:Hp} {s:Shared} {a C:Addr} {dx:Option Addr} {h':Heap}
theorem Xc (X:Cx):Ka (CXE X.prog X.w) X:=by
 intro Ex m pins σ H s e s' I h
 obtain ⟨a,H',rfl,os,bare,u,hok,F,a',e',hE⟩:=h
 cases e'
 have I':=I.call' os u hok bare (fun b z=>absurd z (by simp))
 obtain ⟨C,dx,vs,T,oT,ts,h1,h2,h3,h4,h5,h6,h7,h8,h9,h10⟩:=F
 exact m pins σ H' s' a I' ⟨C,dx,vs,h1,h2,h3,.inr ⟨T,oT,ts,h4,h5,h6,h7,⟨_,h8⟩,I.fpOk h9 h10⟩⟩ hE
end
section
variable {P:Program} {w:World} {K:PySem.W.Frag} {mg:Str -> Option Value} {base:Heap}
theorem Uf {N:List Str} {qual:Str} {scope:Scope} {f:Addr} {cdv:Value} {A:Around} {outer:List Env} {s:Shared} {H:Hp} {E:XK} :
  Bv (cxOf (CXE P w) P w K mg base N qual scope f cdv A outer s H E) (fun _ a H'=>E (.ref a) none H'):=by
 intro pins σ H1 s1 a I F hE
 refine wpAny_bind (Rk (X:=cxOf (CXE P w) P w K mg base N qual scope f cdv A outer s H E) I rfl rfl F fun s' I' F'=>?_)
 obtain ⟨C,dx,vs,T,oT,ts,h1,h2,h3,q1,q2,q3,q4,q5,q6⟩:=F'
 exact ⟨a,H1,rfl,I'.os,I'.bare,I'.base,I'.hok,⟨C,dx,vs,T,oT,ts,h1,h2,h3,q1,q2,q3,q4,q5,q6.2.2.2.1.elim (fun z=>absurd z (by simp [cxOf])) id,q6.1⟩,hE⟩
def ad4 (Q:VK) (E:XK):Outs:=⟨fun _ H'=>Q .non H',Q,fun _ _=>False,fun _ _=>False,fun _ a H'=>E (.ref a) none H'⟩
theorem FunD.okWX {x qual:Str} {st:Stmt} {f:Addr} {fd:FuncData} {N ps:List Str} {k n:Nat} {sp:Sp} {gb:List (Str × GB)} {bl:List Str} {t:DS} {dV:Value} (F:FunD K x qual st f fd dV) (S:Ai N ps (Aa st)) (hv:Am N (Aa st)=true)
  (T:Tab P w K mg base k gb bl) (rd:wSs n (defG K N (Aa st) gb bl) (Ag st)=t) (len:∀ vs H Q E,sp vs H Q E -> vs.length=ps.length)
  (hbody:∀ (vs:List V) (H:Hp) (Q:VK) (E:XK),sp vs H Q E -> t (ad4 Q E) (El N vs) H):FnOk P w K mg base (CXE P w) (k + 1) f fd ps sp:=by
 obtain ⟨oc,od,kV,doc,pm,an,cdv,ct,osl,rfl,lk,hcd⟩:=F.ex
 refine ad6 lk hcd S len fun A outer s H vs Q E hr h=>?_
 have O:GOk (cxOf (CXE P w) P w K mg base N qual (Aa st) f cdv A outer s H E) (defG K N (Aa st) gb bl):=by
  refine ⟨rfl,S.kind,(fun _=>PassesOwn.leaving),rfl,S.nd,fun x=>rfl,fun x hx=>?_,fun _ _=>rfl,rfl,(fun _=>hr.hd),hr.units,fun x hx=>?_,fun x i e=>?_,fun x v u e=>?_,fun x hx=>?_,fun x C oi e=>?_,fun x C oi e=>?_,fun m l e mi hm=>?_,(fun _=>⟨rfl,rfl⟩),⟨_,_,_,rfl,rfl,rfl⟩⟩
  ·have:=List.all_eq_true.mp hv x hx
   rw [Bool.or_eq_true] at this
   exact this.elim (fun z=>.inl (eq_of_beq z)) fun z=>.inr (.inl (eq_of_beq z))
  ·rcases hx with hx | hx
   ·exact E8 hx
   ·exact absurd rfl (S.nofree _ (PySem.mem_of_lookup hx))
  ·have FI:=T.fn x i (PySem.mem_of_lookup e)
   exact ⟨FI.at_,FI.kp,FI.ok,hr.mono FI.le,FI.binds,FI.vals⟩
  ·exact T.val x v u (PySem.mem_of_lookup e)
  ·exact T.bl x (by have hx':bl.contains x=true:=hx;simpa using hx')
  ·have EI:=T.exc x C oi (PySem.mem_of_lookup e)
   refine ⟨EI.at_,EI.kp,EI.cls,?_⟩
   cases oi with
   | none=>exact EI.init
   | some i=>obtain ⟨a,b,c,d,e,f,g⟩:=EI.init;exact ⟨a,b,⟨c,d,hr.mono (by omega),f,g⟩,hr.mono e⟩
  ·have CI:=T.cls x C oi (PySem.mem_of_lookup e)
   refine ⟨CI.at_,CI.kp,?_⟩
   cases oi with
   | none=>exact CI.made
   | some i=>obtain ⟨a,b,c,d,e⟩:=CI.made;exact ⟨a,b,c,⟨d.kp,d.ok,hr.mono d.le,d.binds,d.vals⟩,hr.mono e⟩
  ·obtain ⟨x,hx⟩:=Bg e
   have MI:=T.met x m l hx mi hm
   exact ⟨MI.cls,MI.at_,⟨MI.fi.kp,MI.fi.ok,hr.mono MI.fi.le,MI.fi.binds,MI.fi.vals⟩⟩
 refine ⟨_,(ah7 n _ _ O).2 (Ag st) (fun _ a H'=>E (.ref a) none H') Uf,?_⟩
 rw [rd]
 exact hbody vs H Q E h
end
end L2
namespace Pn
open PySem L2
abbrev Sw:=List (Str × List Str)
def By (c:Nat):Bool:=decide (97 <= c) && decide (c <= 122)
def okW (z:Str):Prop:=1 <= z.length /\ z.length <= 8 /\ z.cps.toList.all By=true
def okL (l:List Str):Prop:=(∀ z ∈ l,okW z) /\ l.Nodup /\ l.length <= 8
def D0 (l:List Str):Prop:=okL l /\ 2 <= l.length /\ l.length <= 4
def Bc (sw:Sw):Nat:=sw.foldl (fun n x=>n * x.2.length) 1
def okSw (sw:Sw):Prop:=1 <= sw.length /\ sw.length <= 5 /\ (sw.map (·.1)).Nodup /\ (∀ x ∈ sw,okW x.1 /\ D0 x.2) /\ Bc sw <= 256
def Da (acc:List (List Str)) (x:Str × List Str):List (List Str):=acc.flatMap fun a=>x.2.map fun z=>a ++ [z]
def Ah (sw:Sw):List (List Str):=sw.foldl Da [[]]
def setM (ns:List Nat):Int:=ns.foldl (fun (c:Int) n=>Builtin.bitOr c (2 ^ n)) 0
def E1 (ms:List Int):Int:=ms.foldl (fun c m=>Builtin.bitOr c m) 0
def havM (p:Nat) (z:Str):Nat -> List (List Str) -> List Nat
 | _,[]=>[]
 | k,r :: rs=>if r[p]? = some z then k :: havM p z (k + 1) rs else havM p z (k + 1) rs
def Ct (rows:List (List Str)) (p:Nat) (z:Str):Int:=setM (havM p z 0 rows)
def C1 (sw:Sw) (w:Str):Nat:=sw.findIdx fun x=>decide (x.1=w)
def Cv (sw:Sw) (e:Str × List Str):Int:=E1 (e.2.map (Ct (Ah sw) (C1 sw e.1)))
def allM (sw:Sw):Int:=2 ^ (Ah sw).length - 1
def boxM (sw:Sw) (rule:Sw):Int:=rule.foldl (fun c e=>Builtin.bitAnd c (Cv sw e)) (allM sw)
def Dq (sw:Sw) (rules:List Sw):List Int:=rules.map (boxM sw)
def Dv (sw:Sw) (rules:List Sw):Int:=Builtin.bitAnd (allM sw) (Builtin.bitNot (E1 (Dq sw rules)))
def Bi (sw:Sw) (e:Str × List Str):Prop:=e.2 ≠ [] /\ okL e.2 /\ ∃ x ∈ sw,x.1=e.1 /\ ∀ z ∈ e.2,z ∈ x.2
def Co (sw:Sw) (rule:Sw):Prop:=rule ≠ [] /\ rule.length <= 100 /\ (rule.map (·.1)).Nodup /\ ∀ e ∈ rule,Bi sw e
theorem Gh (acc:List (List Str)) (x:Str × List Str):(Da acc x).length=acc.length * x.2.length:=by
 unfold Da
 induction acc with
 | nil=>simp
 | cons a acc ih=>rw [List.flatMap_cons,List.length_append,ih,List.length_map,List.length_cons,Nat.add_mul,Nat.one_mul,Nat.add_comm]
theorem Fo:∀ (sw:Sw) (acc:List (List Str)),(sw.foldl Da acc).length=sw.foldl (fun n x=>n * x.2.length) acc.length
 | [],_=>rfl
 | x :: sw,acc=>by rw [List.foldl_cons,List.foldl_cons,Fo sw,Gh]
theorem Fn (sw:Sw):(Ah sw).length=Bc sw:=Fo sw [[]]
def Iq (k:Nat) (rs:List (List Str)):Prop:=rs.Nodup /\ (∀ r ∈ rs,r.length=k) /\ ∀ r ∈ rs,∀ z ∈ r,okW z
theorem Yn {k:Nat} {acc:List (List Str)} {x:Str × List Str} (h:Iq k acc) (hx:D0 x.2):Iq (k + 1) (Da acc x):=by
 obtain ⟨h1,h2,h3⟩:=h
 refine ⟨?_,?_,?_⟩
 ·unfold Da
  clear h3
  induction acc with
  | nil=>exact List.nodup_nil
  | cons a acc ih=>
   rw [List.flatMap_cons,List.nodup_append]
   rw [List.nodup_cons] at h1
   refine ⟨?_,ih h1.2 (fun r hr=>h2 r (List.mem_cons_of_mem _ hr)),?_⟩
   ·refine List.Pairwise.map _ ?_ hx.1.2.1
    intro y z ne e
    exact ne (by simpa using e)
   ·intro r hr q hq e
    subst e
    obtain ⟨y,hy,rfl⟩:=List.mem_map.mp hr
    obtain ⟨b,hb,hq⟩:=List.mem_flatMap.mp hq
    obtain ⟨z,hz,e⟩:=List.mem_map.mp hq
    have:b=a /\ z=y:=by simpa using e
    rw [this.1] at hb
    exact h1.1 hb
 ·intro r hr
  obtain ⟨b,hb,hq⟩:=List.mem_flatMap.mp hr
  obtain ⟨z,hz,rfl⟩:=List.mem_map.mp hq
  rw [List.length_append,h2 b hb]
  rfl
 ·intro r hr y hy
  obtain ⟨b,hb,hq⟩:=List.mem_flatMap.mp hr
  obtain ⟨z,hz,rfl⟩:=List.mem_map.mp hq
  rcases List.mem_append.mp hy with hy | hy
  ·exact h3 b hb y hy
  ·have:y=z:=by simpa using hy
   subst this
   exact hx.1.1 _ hz
theorem Gs:∀ {sw:Sw} {k:Nat} {acc:List (List Str)},Iq k acc -> (∀ x ∈ sw,D0 x.2) -> Iq (k + sw.length) (sw.foldl Da acc)
 | [],_,_,h,_=>h
 | x :: sw,k,acc,h,hs=>by
  have:=Gs (Yn h (hs x (List.mem_cons_self))) (fun y hy=>hs y (List.mem_cons_of_mem _ hy))
  rw [List.foldl_cons,List.length_cons,show k + (sw.length + 1)=k + 1 + sw.length by omega]
  exact this
theorem Ej {sw:Sw} (h:∀ x ∈ sw,D0 x.2):Iq sw.length (Ah sw):=by
 have:=Gs (sw:=sw) (k:=0) (acc:=[[]]) ⟨by simp,by simp,by simp⟩ h
 rwa [Nat.zero_add] at this
theorem Bm:∀ {sw:Sw} {n:Nat},1 <= n -> (∀ x ∈ sw,D0 x.2) -> n <= sw.foldl (fun n x=>n * x.2.length) n
 | [],n,_,_=>Nat.le_refl _
 | x :: sw,n,h,hs=>by
  rw [List.foldl_cons]
  have h2:2 <= x.2.length:=(hs x List.mem_cons_self).2.1
  have:n <= n * x.2.length:=Nat.le_mul_of_pos_right _ (by omega)
  exact Nat.le_trans this (Bm (by omega) (fun y hy=>hs y (List.mem_cons_of_mem _ hy)))
theorem okSw.sets {sw:Sw} (h:okSw sw):∀ x ∈ sw,D0 x.2:=fun x hx=>(h.2.2.2.1 x hx).2
theorem okSw.len {sw:Sw} (h:okSw sw):(Ah sw).length <= 256:=by rw [Fn];exact h.2.2.2.2
theorem okSw.pos {sw:Sw} (h:okSw sw):1 <= (Ah sw).length:=by rw [Fn];exact Bm (Nat.le_refl 1) h.sets
theorem Lc {sw:Sw} (h:okSw sw) (i:Nat):Bc (sw.take i) <= Bc sw:=by
 conv=>rhs;rw [<- List.take_append_drop i sw]
 unfold Bc
 rw [List.foldl_append]
 exact Bm (Bm (Nat.le_refl 1) fun x hx=>h.sets x (List.mem_of_mem_take hx)) fun x hx=>h.sets x (List.mem_of_mem_drop hx)
theorem Cl {α β:Type} {l:List α} {i:Nat} {x:α} (h:l[i]? = some x) (f:β -> α -> β) (b:β):(l.take (i + 1)).foldl f b=f ((l.take i).foldl f b) x:=by
 rw [List.take_add_one,h,Option.toList_some,List.foldl_append]
 rfl
theorem Cf {α β:Type} {l:List α} {i:Nat} {x:α} (h:l[i]? = some x) (f:α -> β):(l.take (i + 1)).map f=(l.take i).map f ++ [f x]:=by
 rw [List.take_add_one,h,Option.toList_some,List.map_append]
 rfl
abbrev Own (ok:Addr -> Prop) (H:Hp) (a:Addr) (o:HO):Prop:=ok a /\ H a=some o
abbrev Kp (ok:Addr -> Prop) (H:Hp) (ok':Addr -> Prop) (H':Hp):Prop:=∀ a o,Own ok H a o -> Own ok' H' a o
abbrev fresh (H:Hp):Addr -> Prop:=fun a=>H a=none
abbrev any:Addr -> Prop:=fun _=>True
theorem Kp.same {ok:Addr -> Prop} {H H':Hp} (S:Same H H'):Kp ok H ok H':=fun a o h=>⟨h.1,S _ _ h.2⟩
theorem Kp.any {ok:Addr -> Prop} {H:Hp}:Kp ok H Pn.any H:=fun a o h=>⟨trivial,h.2⟩
theorem Kp.weak {ok ok':Addr -> Prop} {H:Hp} (h:∀ a,ok a -> ok' a):Kp ok H ok' H:=fun a o q=>⟨h a q.1,q.2⟩
theorem Kp.trans {ok1 ok2 ok3:Addr -> Prop} {H1 H2 H3:Hp} (h:Kp ok1 H1 ok2 H2) (g:Kp ok2 H2 ok3 H3):Kp ok1 H1 ok3 H3:=fun a o q=>g a o (h a o q)
theorem Uz {H H':Hp} (S:Same H H') {a:Addr} (h:H' a=none):H a=none:=by
 cases e:H a with
 | none=>rfl
 | some o=>rw [S _ _ e] at h;cases h
theorem Kp.fresh {H1 H2 H:Hp} (S:Same H1 H2):Kp (fresh H2) H (Pn.fresh H1) H:=Kp.weak fun a h=>Uz S h
theorem Kp.off {ok:Addr -> Prop} {H:Hp} {p:Addr} {o:HO} (h:¬ ok p):Kp ok H ok (upd H p o):=fun a u q=>⟨q.1,by
 have n:a ≠ p:=fun e=>h (by rw [<- e];exact q.1)
 rw [Ad n];exact q.2⟩
abbrev kR (x:(Str × List Str) × Addr):Key × V:=(.inr x.1.1,.ref x.2)
abbrev tupO (r:List Str):HO:=.tup (r.map V.str)
abbrev lstO (r:List Str):HO:=.lst (r.map V.str)
def SwAt (ok:Addr -> Prop) (H:Hp) (d:Addr) (sw:Sw):Prop:=∃ ds:List ((Str × List Str) × Addr),ds.map (·.1)=sw /\ Own ok H d (.dK (ds.map kR)) /\ ∀ x ∈ ds,Own ok H x.2 (tupO x.1.2)
def RuleAt (ok:Addr -> Prop) (H:Hp) (d:Addr) (sw:Sw):Prop:=∃ ds:List ((Str × List Str) × Addr),ds.map (·.1)=sw /\ Own ok H d (.dK (ds.map kR)) /\ ∀ x ∈ ds,Own ok H x.2 (lstO x.1.2)
def TupsAt (ok:Addr -> Prop) (H:Hp) (l:Addr) (rows:List (List Str)):Prop:=∃ ds:List (List Str × Addr),ds.map (·.1)=rows /\ Own ok H l (.lst (ds.map fun x=>.ref x.2)) /\ ∀ x ∈ ds,Own ok H x.2 (tupO x.1)
def RowsAt (ok:Addr -> Prop) (H:Hp) (l:Addr) (rows:List (List Str)):Prop:=∃ ds:List (List Str × Addr),ds.map (·.1)=rows /\ Own ok H l (.lst (ds.map fun x=>.ref x.2)) /\ ∀ x ∈ ds,Own ok H x.2 (lstO x.1)
def SwIn (ok:Addr -> Prop) (H:Hp) (l:Addr) (sw:Sw):Prop:=∃ ds:List (((Str × List Str) × Addr) × Addr),ds.map (·.1.1)=sw /\ Own ok H l (.lst (ds.map fun x=>.ref x.2)) /\ ∀ x ∈ ds,Own ok H x.2 (.tup [.str x.1.1.1,.ref x.1.2]) /\ Own ok H x.1.2 (lstO x.1.1.2)
def numK (k:Nat):List (List Str) -> List (List Key × V)
 | []=>[]
 | r :: rs=>(r.map .inr,.int (k:Int)) :: numK (k + 1) rs
def NumAt (ok:Addr -> Prop) (H:Hp) (n:Addr) (rows:List (List Str)):Prop:=Own ok H n (.dT (numK 0 rows))
def setO (rows:List (List Str)) (i:Nat) (l:List Str):HO:=.dK (l.map fun z=>(.inr z,.int (Ct rows i z)))
def SetsAt (ok:Addr -> Prop) (H:Hp) (d:Addr) (sw:Sw):Prop:=∃ ds:List ((Str × List Str) × Addr),ds.map (·.1)=sw /\ Own ok H d (.dK (ds.map kR)) /\ ∀ i x,ds[i]? = some x -> Own ok H x.2 (setO (Ah sw) i x.1.2)
def RulesAt (ok:Addr -> Prop) (H:Hp) (k:Addr) (rules:List Sw):Prop:=∃ ds:List (Sw × Addr),ds.map (·.1)=rules /\ Own ok H k (.lst (ds.map fun x=>.ref x.2)) /\ ∀ x ∈ ds,RuleAt ok H x.2 x.1
section
variable {ok ok':Addr -> Prop} {H H':Hp} {d:Addr} {sw:Sw} {rows:List (List Str)} {rules:List Sw}
theorem SwAt.mono (h:SwAt ok H d sw) (k:Kp ok H ok' H'):SwAt ok' H' d sw:=by
 obtain ⟨ds,e,o,q⟩:=h;exact ⟨ds,e,k _ _ o,fun x hx=>k _ _ (q x hx)⟩
theorem RuleAt.mono (h:RuleAt ok H d sw) (k:Kp ok H ok' H'):RuleAt ok' H' d sw:=by
 obtain ⟨ds,e,o,q⟩:=h;exact ⟨ds,e,k _ _ o,fun x hx=>k _ _ (q x hx)⟩
theorem TupsAt.mono (h:TupsAt ok H d rows) (k:Kp ok H ok' H'):TupsAt ok' H' d rows:=by
 obtain ⟨ds,e,o,q⟩:=h;exact ⟨ds,e,k _ _ o,fun x hx=>k _ _ (q x hx)⟩
theorem RowsAt.mono (h:RowsAt ok H d rows) (k:Kp ok H ok' H'):RowsAt ok' H' d rows:=by
 obtain ⟨ds,e,o,q⟩:=h;exact ⟨ds,e,k _ _ o,fun x hx=>k _ _ (q x hx)⟩
theorem SwIn.mono (h:SwIn ok H d sw) (k:Kp ok H ok' H'):SwIn ok' H' d sw:=by
 obtain ⟨ds,e,o,q⟩:=h;exact ⟨ds,e,k _ _ o,fun x hx=>⟨k _ _ (q x hx).1,k _ _ (q x hx).2⟩⟩
theorem SetsAt.mono (h:SetsAt ok H d sw) (k:Kp ok H ok' H'):SetsAt ok' H' d sw:=by
 obtain ⟨ds,e,o,q⟩:=h;exact ⟨ds,e,k _ _ o,fun i x hx=>k _ _ (q i x hx)⟩
theorem RulesAt.mono (h:RulesAt ok H d rules) (k:Kp ok H ok' H'):RulesAt ok' H' d rules:=by
 obtain ⟨ds,e,o,q⟩:=h;exact ⟨ds,e,k _ _ o,fun x hx=>(q x hx).mono k⟩
theorem NumAt.mono (h:NumAt ok H d rows) (k:Kp ok H ok' H'):NumAt ok' H' d rows:=k _ _ h
end
def flds (d l n s k b:Addr) (f:Int):List (Str × V):=[("settings", .ref d),("tuples", .ref l),("numbers", .ref n),("sets", .ref s),("kept_rules", .ref k),("bars", .ref b),("free", .int f)]
structure PanAt (C:Addr) (ok:Addr -> Prop) (H:Hp) (p:Addr) (sw:Sw) (rules:List Sw) (dx d l n s k b:Addr):Prop where
 ins:Own ok H p (.ins C dx (flds d l n s k b (Dv sw rules)))
 sws:SwAt ok H d sw
 tps:TupsAt ok H l (Ah sw)
 nms:NumAt ok H n (Ah sw)
 sts:SetsAt ok H s sw
 rls:RulesAt ok H k rules
 brs:Own ok H b (.lst ((Dq sw rules).map V.int))
def PanelAt (C:Addr) (ok:Addr -> Prop) (H:Hp) (p:Addr) (sw:Sw) (rules:List Sw):Prop:=∃ dx d l n s k b,PanAt C ok H p sw rules dx d l n s k b
theorem PanelAt.mono {C p:Addr} {ok ok':Addr -> Prop} {H H':Hp} {sw:Sw} {rules:List Sw} (h:PanelAt C ok H p sw rules) (k:Kp ok H ok' H'):PanelAt C ok' H' p sw rules:=by
 obtain ⟨dx,d,l,n,s,kk,b,h⟩:=h
 exact ⟨dx,d,l,n,s,kk,b,⟨k _ _ h.ins,h.sws.mono k,h.tps.mono k,h.nms.mono k,h.sts.mono k,h.rls.mono k,k _ _ h.brs⟩⟩
def SelfAt (C:Addr) (ok:Addr -> Prop) (H:Hp) (p l s:Addr):Prop:=∃ dx fs,Own ok H p (.ins C dx fs) /\ fs.lookup ("tuples" : Str)=some (.ref l) /\ fs.lookup ("sets" : Str)=some (.ref s) /\ ∀ m ∈ (["all_choices", "box", "many", "term", "read_rule", "read_rules"]:List Str),fs.lookup m=none
theorem SelfAt.mono {C p l s:Addr} {ok ok':Addr -> Prop} {H H':Hp} (h:SelfAt C ok H p l s) (k:Kp ok H ok' H'):SelfAt C ok' H' p l s:=by
 obtain ⟨dx,fs,o,q⟩:=h;exact ⟨dx,fs,k _ _ o,q⟩
structure ah9 (K:PySem.W.Frag) (C X:Addr):Prop where
 cl:Cls K C
 na:∀ f ∈ (["settings", "tuples", "numbers", "sets", "kept_rules", "bars", "free"]:List Str),NoAttr K C f
 en:ECls K X
 mn:PySem.W.mroIn K X (.ref X)=some true
theorem Dm {p:Addr} {o:Obj} (kvs:List (Key × V)):Ca (Itd p o kvs) (kvs.map fun kv=>kV kv.1) (fun H=>H p=some (.frz o (.dK kvs))):=by
 refine ⟨fun i H q h=>⟨q,by simpa using h⟩,fun H q=>⟨q,by simp⟩,fun i H x H' q hi h=>?_⟩
 obtain ⟨h1,k,v,h2,h3⟩:=h
 refine ⟨h1,?_⟩
 rw [List.getElem?_map,h2,h3]
 rfl
theorem Yz {p:Addr} {o:Obj} (kvs:List (Key × V)):G1 (Itde p o kvs) (C6 0 (kvs.map fun kv=>kV kv.1)) (fun H=>H p=some (.frz o (.dK kvs))):=by
 have e:(C6 0 (kvs.map fun kv=>kV kv.1)).length=kvs.length:=by rw [Ap];simp
 refine ⟨fun i H q h=>⟨q,by omega⟩,fun H q=>⟨q,by omega⟩,fun i H x H' q hi h=>?_⟩
 obtain ⟨T,k,v,hT,h1,h2,h3⟩:=h
 refine ⟨T,.int i,kV k,hT,h1,?_,h3⟩
 have:=B4 (k:=0) (xs:=kvs.map fun kv=>kV kv.1) (i:=i) (x:=kV k) (by rw [List.getElem?_map,h2];rfl)
 rw [Nat.zero_add] at this
 exact this
theorem Same.thaw {H H':Hp} {p:Addr} {o:Obj} {kvs:List (Key × V)} (h:H p=some (.dK kvs)) (S:Same (upd H p (.frz o (.dK kvs))) H'):Same H (upd H' p (.dK kvs)):=by
 intro b u e
 by_cases hb:b=p
 ·subst hb;rw [Ac,<- h,e]
 ·rw [Ad hb];exact S _ _ (by rw [Ad hb];exact e)
theorem B5 {H:Hp} {d:Addr} {u:HO} (h:H d=some u):¬ Pn.fresh H d:=fun e=>by
 have e:H d=none:=e
 rw [h] at e
 cases e
theorem Ce {b:Bool} {A B:Prop} (e:b=false) (h:B):if b=true then A else B:=by subst e;exact iteF h
theorem Ff {b:Bool} {A B:Prop} (e:b=true) (h:A):if b=true then A else B:=by subst e;exact iteT h
theorem Ak {α β:Type} {l:List α} {f:α -> β} {i:Nat} {x:β} (h:(l.map f)[i]? = some x):∃ m,l[i]? = some m /\ x=f m:=by
 rw [List.getElem?_map] at h
 cases e:l[i]? with
 | none=>rw [e] at h;cases h
 | some m=>rw [e] at h;exact ⟨m,rfl,by simpa using h.symm⟩
theorem Aj {α:Type} {l:List α} {i:Nat} {x:α} (h:l[i]? = some x):i < l.length:=(List.getElem?_eq_some_iff.mp h).1
theorem Iz {n i:Nat} {x:V} (h:(rngV 0 n)[i]? = some x):i < n /\ x = .int (i:Int):=by
 have hi:=Aj h
 rw [B1] at hi
 rw [Ol hi] at h
 refine ⟨hi,?_⟩
 have:V.int (0 + (i:Int))=x:=by simpa using h
 rw [<- this,Int.zero_add]
theorem Xb (a c:Nat):decide ([c] < [a])=decide (c < a):=by
 rw [Bool.eq_iff_iff,decide_eq_true_iff,decide_eq_true_iff,List.cons_lt_cons_iff]
 simp
theorem leL {s:Str} {a c:Nat} (h:s.cps.toList=[a]):(!decide ((⟨#[c]⟩:Str).cps.toList < s.cps.toList))=decide (a <= c):=by
 rw [h]
 show (!decide ([c] < [a]))=_
 rw [Xb,<- decide_not]
 exact decide_eq_decide.mpr Nat.not_lt
theorem leR {s:Str} {a c:Nat} (h:s.cps.toList=[a]):(!decide (s.cps.toList < (⟨#[c]⟩:Str).cps.toList))=decide (c <= a):=by
 rw [h]
 show (!decide ([a] < [c]))=_
 rw [Xb,<- decide_not]
 exact decide_eq_decide.mpr Nat.not_lt
theorem Th {s1 s2:Str} {a b c:Nat} {Q:VK} {H:Hp} (h1:s1.cps.toList=[a]) (h2:s2.cps.toList=[b]) (k:Q (.bl (decide (a <= c) && decide (c <= b))) H) :
  if (!decide ((⟨#[c]⟩:Str).cps.toList < s1.cps.toList))=true then Q (.bl (!decide (s2.cps.toList < (⟨#[c]⟩:Str).cps.toList))) H else Q (.bl false) H:=by
 rw [leL h1,leR h2]
 cases e:decide (a <= c) with
 | true=>rw [e,Bool.true_and] at k;exact iteT k
 | false=>rw [e,Bool.false_and] at k;exact iteF k
theorem Kj {a b c:Int} {Q:VK} {H:Hp} (k:Q (.bl (decide (a <= c) && decide (c <= b))) H):if decide (a <= c)=true then Q (.bl (decide (c <= b))) H else Q (.bl false) H:=by
 cases e:decide (a <= c) with
 | true=>rw [e,Bool.true_and] at k;exact iteT k
 | false=>rw [e,Bool.false_and] at k;exact iteF k
theorem Y9 {s1 s2:Str} {a b c i:Nat} {Q:VK} {E:EK} {H:Hp} {σ:St} (h1:s1.cps.toList=[a]) (h2:s2.cps.toList=[b]) (hv:σ[i]? = some (some (.str ⟨#[c]⟩))) (k:Q (.bl (decide (a <= c) && decide (c <= b))) H) :
  Cy rLeD rLeD (dC (.str s1)) (dVar i) (dC (.str s2)) σ H Q E:=by
 unfold Cy dC dVar
 rw [hv]
 exact Th h1 h2 k
theorem Sk {K:PySem.W.Frag} {z:Str} {te:DE} {p:Nat -> Bool} {H:Hp} {Q:VK} {E:EK} (hz:z.length <= 1000) (he:∀ (c:Nat) (σ:St) (H1:Hp) (Q1:VK),σ.length=1 -> Q1 (.bl (p c)) H1 -> te (σ.set 0 (some (.str ⟨#[c]⟩))) H1 Q1 E) (k:∀ H',Same H H' -> Q (.bl (z.cps.toList.all p)) H') :
  ∀ D,H D=none -> CmpW (Its z) (gdN 0) dYes te D (fun H'=>rAll K [.ref D] H' Q) (capt [none] [some (.str z)]) (upd H D (.lst [])) E:=by
 intro D hD
 refine G5 (ay0 z) (fun σ=>σ.length=1) (fun _=>true) (fun v=>match v with | .str y=>.bl (p (y.cps.getD 0 0)) | _=>.non) hD (fun _ _=>True.intro) ?_ rfl ?_ ?_
 ·unfold D5
  rw [List.length_map]
  exact Nat.lt_of_le_of_lt (show z.cps.toList.length <= 1000 from by have:z.cps.size <= 1000:=hz;simpa using this) (by decide)
 ·intro x σ H1 hx hσ S Fin Skip hF hS
  obtain ⟨c,hc,rfl⟩:=List.mem_map.mp hx
  refine he c σ H1 _ hσ ?_
  exact hF _ _ _ (by rw [List.length_set];exact hσ) (Same.refl _) rfl rfl
 ·intro H' S hD'
  have e:((D5 z).filter fun _=>true).map (fun v=>match v with | .str y=>V.bl (p (y.cps.getD 0 0)) | _=>.non)=(z.cps.toList.map p).map V.bl:=by
   unfold D5
   rw [List.filter_eq_self.mpr (fun _ _=>rfl),List.map_map,List.map_map]
   rfl
  refine ⟨z.cps.toList.map p,SqL.of (hD'.trans (by rw [e])),?_⟩
  have e2:(z.cps.toList.map p).all (fun b=>b)=z.cps.toList.all p:=by rw [List.all_map];rfl
  rw [e2]
  exact k H' S
theorem Vw {K:PySem.W.Frag} {J:It} {its:List V} {ok:Hp -> Prop} {te:DE} {σ:St} {H:Hp} {R:Hp -> Addr -> Prop} {E:EK} (Y:Ca J its ok) (Sg:St -> Prop) (hok:∀ H1,Same H H1 -> ok H1) (hn:its.length < sizeLine) (hσ:Sg σ) (hS:∀ σ x,Sg σ -> Sg (σ.set 0 (some x)))
  (he:∀ x σ H1 Q1,x ∈ its -> Sg σ -> Same H H1 -> (∀ H2,Same H1 H2 -> Q1 (.bl true) H2) -> te (σ.set 0 (some x)) H1 Q1 E) (k:∀ D H',Same H H' -> SqL K H' D ((its.map fun _=>true).map V.bl) -> R H' D) :
  ∀ D,H D=none -> CmpW J (gdN 0) dYes te D (fun H'=>R H' D) σ (upd H D (.lst [])) E:=fun D hD=>Vx (K:=K) Y Sg hD hok hn hσ hS he (k D)
theorem Ny:∀ (xs acc:List Str),(acc ++ xs).Nodup -> xs.foldl (fun σ k=>if σ.any (fun j=>decide (j=k)) then σ else σ ++ [k]) acc=acc ++ xs
 | [],acc,_=>by rw [List.foldl_nil,List.append_nil]
 | x :: xs,acc,h=>by
  have hx:(acc.any fun j=>decide (j=x))=false:=by
   rw [List.any_eq_false]
   intro j hj e
   have e:j=x:=by simpa using e
   subst e
   exact (List.nodup_append.mp h).2.2 j hj j List.mem_cons_self rfl
  rw [List.foldl_cons,hx]
  have h2:(acc ++ [x] ++ xs).Nodup:=by simpa using h
  show List.foldl _ (acc ++ [x]) xs=_
  rw [Ny xs (acc ++ [x]) h2]
  simp
theorem Zp {xs:List Str} (h:xs.Nodup):metK xs=xs:=Ny xs [] (by simpa using h)
theorem Az {κ:Type} [DecidableEq κ]:∀ {kvs:List (κ × V)} {i:Nat} {k:κ} {v:V},(kvs.map (·.1)).Nodup -> kvs[i]? = some (k,v) -> valV kvs k=some v
 | [],_,_,_,_,e=>by simp at e
 | p :: r,0,k,v,_,e=>by
  rw [List.getElem?_cons_zero] at e
  cases e
  exact Eb rfl
 | p :: r,i + 1,k,v,h,e=>by
  rw [List.getElem?_cons_succ] at e
  rw [List.map_cons,List.nodup_cons] at h
  have ne:¬ p.1=k:=fun z=>h.1 (List.mem_map.mpr ⟨(k,v),List.mem_of_getElem? e,z.symm⟩)
  rw [Db ne]
  exact Az h.2 e
theorem Bu {κ:Type} [DecidableEq κ]:∀ {kvs:List (κ × V)} {k:κ},¬ k ∈ kvs.map (·.1) -> valV kvs k=none
 | [],_,_=>rfl
 | p :: r,k,h=>by
  rw [List.map_cons,List.mem_cons,not_or] at h
  rw [Db (fun e=>h.1 e.symm)]
  exact Bu h.2
theorem K8 {l:List Str} (h:l.Nodup):(l.map (Sum.inr:Str -> Key)).Nodup:=List.Pairwise.map _ (fun a b ne e=>ne (by injection e)) h
theorem Dg (ds:List ((Str × List Str) × Addr)):(ds.map kR).map (·.1)=((ds.map (·.1)).map (·.1)).map (Sum.inr:Str -> Key):=by simp [List.map_map]
theorem Bx {ds:List ((Str × List Str) × Addr)} {sw:Sw} (e:ds.map (·.1)=sw) (h:(sw.map (·.1)).Nodup):((ds.map kR).map (·.1)).Nodup:=by
 rw [Dg,e]
 exact K8 h
theorem C3 (x y:Nat):Builtin.bitOr (x:Int) (y:Int)=((x ||| y:Nat):Int):=by
 unfold Builtin.bitOr
 have hx:¬ (0:Int) <= Builtin.bitNot (x:Int):=by unfold Builtin.bitNot;omega
 have hy:¬ (0:Int) <= Builtin.bitNot (y:Int):=by unfold Builtin.bitNot;omega
 rw [PyProof.Rows.bitAnd_nn hx hy]
 have e:∀ z:Nat,(Builtin.bitNot (Builtin.bitNot (z:Int)))=(z:Int):=fun z=>by unfold Builtin.bitNot;omega
 rw [e,e,e,Int.toNat_natCast,Int.toNat_natCast]
theorem Em (x y:Nat):Builtin.bitAnd (x:Int) (y:Int)=((x &&& y:Nat):Int):=by
 rw [PyProof.Rows.bitAnd_pp (by omega) (by omega),Int.toNat_natCast,Int.toNat_natCast]
theorem D9 (n:Nat):(2:Int) ^ n=((2 ^ n:Nat):Int):=by simp
def setN (ns:List Nat):Nat:=ns.foldl (fun c n=>c ||| 2 ^ n) 0
theorem On:∀ (ns:List Nat) (c:Nat),ns.foldl (fun (c:Int) n=>Builtin.bitOr c (2 ^ n)) (c:Int)=((ns.foldl (fun c n=>c ||| 2 ^ n) c:Nat):Int)
 | [],c=>rfl
 | n :: ns,c=>by rw [List.foldl_cons,List.foldl_cons,D9,C3,On ns]
theorem X8 (ns:List Nat):setM ns=(setN ns:Nat):=On ns 0
theorem Oo:∀ (ns:List Nat) (c k:Nat),(ns.foldl (fun c n=>c ||| 2 ^ n) c).testBit k=(c.testBit k || decide (k ∈ ns))
 | [],c,k=>by simp
 | n :: ns,c,k=>by
  rw [List.foldl_cons,Oo ns,Nat.testBit_or,Nat.testBit_two_pow,Bool.or_assoc]
  congr 1
  rw [Bool.eq_iff_iff,Bool.or_eq_true,decide_eq_true_iff,decide_eq_true_iff,decide_eq_true_iff,List.mem_cons]
  exact or_congr ⟨Eq.symm,Eq.symm⟩ Iff.rfl
theorem X9 (ns:List Nat) (k:Nat):(setN ns).testBit k=decide (k ∈ ns):=by
 unfold setN
 rw [Oo,Nat.zero_testBit,Bool.false_or]
def Ea (ms:List Nat):Nat:=ms.foldl (fun c m=>c ||| m) 0
theorem Jz:∀ (ms:List Nat) (c:Nat),(ms.map fun m:Nat=>(m:Int)).foldl (fun c m=>Builtin.bitOr c m) (c:Int)=((ms.foldl (fun c m=>c ||| m) c:Nat):Int)
 | [],c=>rfl
 | n :: ns,c=>by rw [List.map_cons,List.foldl_cons,List.foldl_cons,C3,Jz ns]
theorem J0 (ms:List Nat):E1 (ms.map fun m:Nat=>(m:Int))=(Ea ms:Nat):=Jz ms 0
theorem J1:∀ (ms:List Nat) (c k:Nat),(ms.foldl (fun c m=>c ||| m) c).testBit k=(c.testBit k || ms.any fun m=>m.testBit k)
 | [],c,k=>by simp
 | n :: ns,c,k=>by rw [List.foldl_cons,J1 ns,Nat.testBit_or,List.any_cons,Bool.or_assoc]
theorem J2 (ms:List Nat) (k:Nat):(Ea ms).testBit k=ms.any fun m=>m.testBit k:=by
 unfold Ea
 rw [J1,Nat.zero_testBit,Bool.false_or]
def hasB (rows:List (List Str)) (p:Nat) (z:Str) (k:Nat):Bool:=decide ((rows[k]?.bind fun r=>r[p]?)=some z)
theorem Re (p:Nat) (z:Str):∀ (rows:List (List Str)) (j n:Nat),n ∈ havM p z j rows ↔ j <= n /\ (rows[n - j]?.bind fun r=>r[p]?)=some z
 | [],j,n=>by simp [havM]
 | r :: rows,j,n=>by
  have ih:=Re p z rows (j + 1) n
  have e:∀ b,(n=j /\ b) \/ (j + 1 <= n /\ (rows[n - (j + 1)]?.bind fun r=>r[p]?)=some z) ↔ j <= n /\ ((n=j /\ b) \/ (n ≠ j /\ (rows[n - (j + 1)]?.bind fun r=>r[p]?)=some z)):=fun b=>by
   constructor
   ·rintro (⟨h1,h2⟩ | ⟨h1,h2⟩)
    ·exact ⟨by omega,.inl ⟨h1,h2⟩⟩
    ·exact ⟨by omega,.inr ⟨by omega,h2⟩⟩
   ·rintro ⟨h0,⟨h1,h2⟩ | ⟨h1,h2⟩⟩
    ·exact .inl ⟨h1,h2⟩
    ·exact .inr ⟨by omega,h2⟩
  have g:j <= n -> (((r :: rows)[n - j]?.bind fun r=>r[p]?)=some z ↔ ((n=j /\ r[p]? = some z) \/ (n ≠ j /\ (rows[n - (j + 1)]?.bind fun r=>r[p]?)=some z))):=fun h=>by
   by_cases hn:n=j
   ·subst hn
    simp
   ·have e2:n - j=(n - (j + 1)) + 1:=by omega
    rw [e2,List.getElem?_cons_succ]
    simp [hn]
  rw [havM]
  by_cases hr:r[p]? = some z
  ·rw [if_pos hr,List.mem_cons,ih]
   have:=e (r[p]? = some z)
   constructor
   ·intro h
    have h2:=this.mp (h.imp (fun x=>⟨x,hr⟩) id)
    exact ⟨h2.1,(g h2.1).mpr h2.2⟩
   ·rintro ⟨h1,h2⟩
    exact (this.mpr ⟨h1,(g h1).mp h2⟩).imp (fun x=>x.1) id
  ·rw [if_neg hr,ih]
   have:=e (r[p]? = some z)
   constructor
   ·intro h
    have h2:=this.mp (.inr h)
    exact ⟨h2.1,(g h2.1).mpr h2.2⟩
   ·rintro ⟨h1,h2⟩
    rcases this.mpr ⟨h1,(g h1).mp h2⟩ with h | h
    ·exact absurd h.2 hr
    ·exact h
def Ri (rows:List (List Str)) (p:Nat) (z:Str):Nat:=setN (havM p z 0 rows)
theorem Ud (rows:List (List Str)) (p:Nat) (z:Str):Ct rows p z=(Ri rows p z:Nat):=X8 _
theorem Ue (rows:List (List Str)) (p:Nat) (z:Str) (k:Nat):(Ri rows p z).testBit k=hasB rows p z k:=by
 unfold Ri hasB
 rw [X9]
 refine decide_eq_decide.mpr ?_
 rw [Re]
 simp
def Jw (sw:Sw) (e:Str × List Str):Nat:=Ea (e.2.map (Ri (Ah sw) (C1 sw e.1)))
theorem U4 (sw:Sw) (e:Str × List Str):Cv sw e=(Jw sw e:Nat):=by
 unfold Cv Jw
 rw [<- J0,List.map_map]
 congr 1
 exact List.map_congr_left fun z _=>Ud _ _ _
theorem U5 (sw:Sw) (e:Str × List Str) (k:Nat):(Jw sw e).testBit k=e.2.any fun z=>hasB (Ah sw) (C1 sw e.1) z k:=by
 unfold Jw
 rw [J2,List.any_map]
 congr 1
 funext z
 exact Ue _ _ _ _
def allN (sw:Sw):Nat:=2 ^ (Ah sw).length - 1
theorem Nf (sw:Sw):allM sw=(allN sw:Nat):=by
 unfold allM allN
 rw [D9]
 have:0 < 2 ^ (Ah sw).length:=Nat.two_pow_pos _
 omega
theorem Ng (sw:Sw) (k:Nat):(allN sw).testBit k=decide (k < (Ah sw).length):=by
 unfold allN
 rw [Nat.testBit_two_pow_sub_one]
def boxN (sw:Sw) (rule:Sw):Nat:=rule.foldl (fun c e=>c &&& Jw sw e) (allN sw)
theorem Ni (sw:Sw):∀ (rule:Sw) (c:Nat),rule.foldl (fun c e=>Builtin.bitAnd c (Cv sw e)) (c:Int)=((rule.foldl (fun c e=>c &&& Jw sw e) c:Nat):Int)
 | [],c=>rfl
 | e :: rule,c=>by rw [List.foldl_cons,List.foldl_cons,U4,Em,Ni sw rule]
theorem Hy (sw rule:Sw):boxM sw rule=(boxN sw rule:Nat):=by
 unfold boxM boxN
 rw [Nf,Ni]
theorem Nj (sw:Sw):∀ (rule:Sw) (c k:Nat),(rule.foldl (fun c e=>c &&& Jw sw e) c).testBit k=(c.testBit k && rule.all fun e=>e.2.any fun z=>hasB (Ah sw) (C1 sw e.1) z k)
 | [],c,k=>by simp
 | e :: rule,c,k=>by rw [List.foldl_cons,Nj sw rule,Nat.testBit_and,U5,List.all_cons,Bool.and_assoc]
theorem E6 (sw rule:Sw) (k:Nat):(boxN sw rule).testBit k=(decide (k < (Ah sw).length) && rule.all fun e=>e.2.any fun z=>hasB (Ah sw) (C1 sw e.1) z k):=by
 unfold boxN
 rw [Nj,Ng]
def Kt (sw:Sw) (rules:List Sw):Nat:=allN sw - (allN sw &&& Ea (rules.map (boxN sw)))
theorem Ks (sw:Sw) (rules:List Sw):Dv sw rules=(Kt sw rules:Nat):=by
 unfold Dv Kt Dq
 have e:rules.map (boxM sw)=(rules.map (boxN sw)).map fun m:Nat=>(m:Int):=by
  rw [List.map_map]
  exact List.map_congr_left fun r _=>Hy sw r
 rw [e,J0,Nf,PyProof.Rows.bitAnd_pn (by omega) (by unfold Builtin.bitNot;omega),show Builtin.bitNot (Builtin.bitNot ((Ea (rules.map (boxN sw)):Nat):Int))=((Ea (rules.map (boxN sw)):Nat):Int) by unfold Builtin.bitNot;omega,Int.toNat_natCast,Int.toNat_natCast]
 have:=Nat.and_le_left (n:=allN sw) (m:=Ea (rules.map (boxN sw)))
 omega
theorem ac6 (a b:Nat):a - (a &&& b)=a ^^^ (a &&& b):=by
 have h:(a ^^^ (a &&& b)) &&& (a &&& b)=0:=by
  refine Nat.eq_of_testBit_eq fun k=>?_
  rw [Nat.testBit_and,Nat.testBit_xor,Nat.testBit_and,Nat.zero_testBit]
  cases a.testBit k <;> cases b.testBit k <;> rfl
 have h2:(a ^^^ (a &&& b)) ||| (a &&& b)=a:=by
  refine Nat.eq_of_testBit_eq fun k=>?_
  rw [Nat.testBit_or,Nat.testBit_xor,Nat.testBit_and]
  cases a.testBit k <;> cases b.testBit k <;> rfl
 have h3:(a ^^^ (a &&& b)) + (a &&& b)=(a ^^^ (a &&& b)) ||| (a &&& b):=by
  have e:=PyProof.Rows.bitOr_and ((a ^^^ (a &&& b):Nat):Int) ((a &&& b:Nat):Int)
  rw [C3,Em,h] at e
  omega
 omega
theorem Ku (sw:Sw) (rules:List Sw) (k:Nat):(Kt sw rules).testBit k=(decide (k < (Ah sw).length) && !rules.any fun r=>(boxN sw r).testBit k):=by
 unfold Kt
 rw [ac6,Nat.testBit_xor,Nat.testBit_and,Ng,J2,List.any_map]
 show (_ ^^ (_ && rules.any fun r=>(boxN sw r).testBit k))=_
 cases decide (k < (Ah sw).length) <;> cases rules.any (fun r=>(boxN sw r).testBit k) <;> rfl
def Bw (c:Nat):List (List Nat) -> List Nat
 | []=>[]
 | [a]=>a
 | a :: r=>a ++ c :: Bw c r
theorem Dx (c:Nat):∀ ps:List Str,(Str.join ⟨#[c]⟩ ps).cps.toList=Bw c (ps.map fun p=>p.cps.toList)
 | []=>rfl
 | [a]=>rfl
 | a :: b :: r=>by
  show (a ++ (⟨#[c]⟩:Str) ++ Str.join ⟨#[c]⟩ (b :: r)).cps.toList=_
  have ih:=Dx c (b :: r)
  rw [Str.cps_append,Str.cps_append,Array.toList_append,Array.toList_append,ih]
  show a.cps.toList ++ [c] ++ Bw c ((b :: r).map fun p=>p.cps.toList)=a.cps.toList ++ c :: Bw c ((b :: r).map fun p=>p.cps.toList)
  rw [List.append_assoc]
  rfl
theorem Q8 {c:Nat}:∀ {a b X Y:List Nat},c ∉ a -> c ∉ b -> a ++ c :: X=b ++ c :: Y -> a=b /\ X=Y
 | [],[],_,_,_,_,h=>by simpa using h
 | [],y :: b,_,_,_,hb,h=>by
  have:c=y:=by simpa using (List.cons.inj h).1
  exact absurd (this ▸ List.mem_cons_self) hb
 | x :: a,[],_,_,ha,_,h=>by
  have:x=c:=by simpa using (List.cons.inj h).1
  exact absurd (this ▸ List.mem_cons_self) ha
 | x :: a,y :: b,X,Y,ha,hb,h=>by
  have h1:x=y:=(List.cons.inj h).1
  have h2:a ++ c :: X=b ++ c :: Y:=(List.cons.inj h).2
  obtain ⟨e1,e2⟩:=Q8 (fun z=>ha (List.mem_cons_of_mem _ z)) (fun z=>hb (List.mem_cons_of_mem _ z)) h2
  exact ⟨by rw [h1,e1],e2⟩
theorem Ky {c:Nat}:∀ {as bs:List (List Nat)},as ≠ [] -> bs ≠ [] -> (∀ a ∈ as,c ∉ a) -> (∀ b ∈ bs,c ∉ b) -> Bw c as=Bw c bs -> as=bs
 | [],_,h,_,_,_,_=>absurd rfl h
 | _,[],_,h,_,_,_=>absurd rfl h
 | [a],[b],_,_,_,_,h=>by rw [show a=b from h]
 | [a],b :: b' :: r,_,_,ha,_,h=>by
  have h:a=b ++ c :: Bw c (b' :: r):=h
  exact absurd (by rw [h];simp) (ha a List.mem_cons_self)
 | a :: a' :: r,[b],_,_,_,hb,h=>by
  have h:a ++ c :: Bw c (a' :: r)=b:=h
  exact absurd (by rw [<- h];simp) (hb b List.mem_cons_self)
 | a :: a' :: r,b :: b' :: q,_,_,ha,hb,h=>by
  have h:a ++ c :: Bw c (a' :: r)=b ++ c :: Bw c (b' :: q):=h
  obtain ⟨e1,e2⟩:=Q8 (ha a List.mem_cons_self) (hb b List.mem_cons_self) h
  rw [e1,Ky (by simp) (by simp) (fun x hx=>ha x (List.mem_cons_of_mem _ hx)) (fun x hx=>hb x (List.mem_cons_of_mem _ hx)) e2]
theorem ac5 {a b:Str} (h:a.cps.toList=b.cps.toList):a=b:=by
 cases a;cases b
 congr 1
 exact Array.toList_inj.mp h
theorem Fq (sep:Str) (ps:List Str):Txt.join sep ps=Str.join sep ps:=by
 show Builtin.Str.glued sep ps=_
 rw [StrLaws.glued_eq_join]
theorem av7 {c:Nat} {ps:List Str} (hn:ps ≠ []) (h:∀ p ∈ ps,c ∉ p.cps.toList):Txt.split (Txt.join ⟨#[c]⟩ ps) ⟨#[c]⟩=ps:=by
 have e:=StrLaws.join_split (Txt.join ⟨#[c]⟩ ps) ⟨#[c]⟩
 rw [Fq] at e ⊢
 have e2:=congrArg (fun z:Str=>z.cps.toList) e
 rw [Dx,Dx] at e2
 have f:=StrLaws.split_free (Str.join ⟨#[c]⟩ ps) c
 have l1:=PyProof.Rows.split_pos (Str.join ⟨#[c]⟩ ps) ⟨#[c]⟩
 generalize Txt.split (Str.join ⟨#[c]⟩ ps) ⟨#[c]⟩=qs at e2 f l1 ⊢
 have e3:=Ky (as:=qs.map fun p=>p.cps.toList) (bs:=ps.map fun p=>p.cps.toList) (by intro z;rw [List.map_eq_nil_iff] at z;rw [z] at l1;simp at l1) (by simpa using hn) (fun a ha=>by obtain ⟨p,hp,rfl⟩:=List.mem_map.mp ha;exact f p hp) (fun a ha=>by obtain ⟨p,hp,rfl⟩:=List.mem_map.mp ha;exact h p hp) e2
 exact (List.map_inj_right (fun a b=>ac5)).mp e3
theorem K5 {c x:Nat}:∀ {as:List (List Nat)},x ∈ Bw c as -> x=c \/ ∃ a ∈ as,x ∈ a
 | [],h=>by cases h
 | [a],h=>.inr ⟨a,List.mem_cons_self,h⟩
 | a :: b :: r,h=>by
  have h:x ∈ a ++ c :: Bw c (b :: r):=h
  rcases List.mem_append.mp h with h | h
  ·exact .inr ⟨a,List.mem_cons_self,h⟩
  ·rcases List.mem_cons.mp h with h | h
   ·exact .inl h
   ·rcases K5 h with h | ⟨y,hy,h⟩
    ·exact .inl h
    ·exact .inr ⟨y,List.mem_cons_of_mem _ hy,h⟩
theorem az2 {c x:Nat} {ps:List Str} (h:x ∈ (Txt.join ⟨#[c]⟩ ps).cps.toList):x=c \/ ∃ p ∈ ps,x ∈ p.cps.toList:=by
 rw [Fq,Dx] at h
 rcases K5 h with h | ⟨a,ha,h⟩
 ·exact .inl h
 ·obtain ⟨p,hp,rfl⟩:=List.mem_map.mp ha
  exact .inr ⟨p,hp,h⟩
theorem Kx {c x:Nat}:∀ {as:List (List Nat)} {a:List Nat},a ∈ as -> x ∈ a -> x ∈ Bw c as
 | [],_,h,_=>by cases h
 | [b],a,h,hx=>by
  have:a=b:=by simpa using h
  subst this
  exact hx
 | b :: b' :: r,a,h,hx=>by
  show x ∈ b ++ c :: Bw c (b' :: r)
  rcases List.mem_cons.mp h with rfl | h
  ·exact List.mem_append_left _ hx
  ·exact List.mem_append_right _ (List.mem_cons_of_mem _ (Kx h hx))
theorem az1 {c x:Nat} {ps:List Str} {p:Str} (hp:p ∈ ps) (h:x ∈ p.cps.toList):x ∈ (Txt.join ⟨#[c]⟩ ps).cps.toList:=by
 rw [Fq,Dx]
 exact Kx (List.mem_map_of_mem hp) h
theorem be5 {sep:Str} {ps:List Str} {n m:Nat} (h:∀ p ∈ ps,p.length <= n) (hm:ps.length <= m):(Txt.join sep ps).length <= m * (n + sep.length):=by
  rw [Fq]
  refine Nat.le_trans (StrLaws.join_length_le sep ps) ?_
  have h1:(ps.map (·.length)).sum <= ps.length * n:=by
    clear hm
    induction ps with
    | nil=>simp
    | cons p ps ih=>
      rw [List.map_cons,List.sum_cons,List.length_cons,Nat.add_mul,Nat.one_mul,Nat.add_comm]
      exact Nat.add_le_add (ih fun q hq=>h q (List.mem_cons_of_mem _ hq)) (h p List.mem_cons_self)
  calc _ <= ps.length * n + ps.length * sep.length:=Nat.add_le_add_right h1 _
    _=ps.length * (n + sep.length):=by rw [Nat.mul_add]
    _ <= _:=Nat.mul_le_mul_right _ hm
end Pn
namespace L2
open PySem PySem.Spec PyProof.Rows
section
variable {P:Program} {w:World} {K:PySem.W.Frag} {mg:Str -> Option Value} {base:Heap} {x q:Str} {st:Stmt} {f:Addr} {d:FuncData} {ps:List Str}
def DfIn (K:PySem.W.Frag) (x q:Str) (st:Stmt) (f:Addr):Prop:=∃ d,Fun K x q st f d
structure TopD (K:PySem.W.Frag) (q:Str) (st:Stmt) (f:Addr):Prop where
 at_:PySem.W.nsIn K mainGlobals q=some (some (.ref f))
 d:DfIn K q q st f
structure MetD (K:PySem.W.Frag) (x q:Str) (st:Stmt) (f:Addr):Prop where
 fn:PySem.W.isFn K (.ref f)=true
 d:DfIn K x q st f
theorem top_mk {oc:Value} {od an:Option Addr} {osl:Array (Option Value)} {kV doc pm cdv ct:Value} (a:PySem.W.nsIn K mainGlobals q=some (some (.ref f))) (l:K.lookup f=some ⟨oc,od,.func (PySem.W.fnOf q q (A9 st) (Ag st) (Aa st) .none kV doc pm an cdv ct),osl⟩)
  (c:PySem.W.codeIn K cdv q=true) (k:PySem.W.keepIn K (.ref f)=true):TopD K q st f:=⟨a,_,Pj l c k⟩
theorem met_mk {oc:Value} {od an:Option Addr} {osl:Array (Option Value)} {kV doc pm cdv ct:Value} (l:K.lookup f=some ⟨oc,od,.func (PySem.W.fnOf x q (A9 st) (Ag st) (Aa st) .none kV doc pm an cdv ct),osl⟩)
  (c:PySem.W.codeIn K cdv q=true) (k:PySem.W.keepIn K (.ref f)=true) (i:PySem.W.isFn K (.ref f)=true):MetD K x q st f:=⟨i,_,Pj l c k⟩
structure DOk (K:PySem.W.Frag) (mg:Str -> Option Value) (q:Str) (st:Stmt) (f:Addr) (d:FuncData) (ps:List Str):Prop where
 F:FunD K q q st f d .none
 b:Binds K d ps []
 m:mg q=some (.ref f)
structure MOk (K:PySem.W.Frag) (x q:Str) (st:Stmt) (f:Addr) (d:FuncData) (ps:List Str):Prop where
 F:FunD K x q st f d .none
 b:Binds K d ps []
 i:PySem.W.isFn K (.ref f)=true
theorem TopD.ok {h:Heap} (D:TopD K q st f) (X:K.In h) (G:h.Ns mainGlobals mg) (hb:∀ (kV doc pm:Value) (an:Option Addr) (cdv ct:Value) (us:List Value),us.length=ps.length -> bindArgs (PySem.W.fnOf q q (A9 st) (Ag st) (Aa st) .none kV doc pm an cdv ct) ⟨us,[]⟩=pure (ps.zip us)):∃ d,DOk K mg q st f d ps:=by
 obtain ⟨a,d,F⟩:=D
 exact ⟨d,F.toD,F.binds hb,PySem.W.mg_of X G a⟩
theorem MetD.ok (D:MetD K x q st f) (hb:∀ (kV doc pm:Value) (an:Option Addr) (cdv ct:Value) (us:List Value),us.length=ps.length -> bindArgs (PySem.W.fnOf x q (A9 st) (Ag st) (Aa st) .none kV doc pm an cdv ct) ⟨us,[]⟩=pure (ps.zip us)):∃ d,MOk K x q st f d ps:=by
 obtain ⟨a,d,F⟩:=D
 exact ⟨d,F.toD,F.binds hb,a⟩
theorem nodf {i:FI} (h2:i.ds=[]) (b:Binds K i.fd i.ps []):∀ j,j <= i.dfs.length -> Binds K i.fd i.ps (i.ds.drop j):=fun j _=>by
 rw [h2,List.drop_nil];exact b
theorem Tab.con {k:Nat} {gb:List (Str × GB)} {bl:List Str} (T:Tab P w K mg base k gb bl) (i:FI) (g:DOk K mg q st i.f i.fd i.ps) (ok:FnOk P w K mg base CX0 i.k i.f i.fd i.ps i.sp) (hk:i.k <= k:=by exact Nat.le_refl _) (h1:i.dfs=[]:=by rfl) (h2:i.ds=[]:=by rfl):Tab P w K mg base k ((q,.fn i) :: gb) bl:=
 T.cons ⟨g.m,g.F.kp,⟨CX0,fun X' _ _=>Ir X',ok⟩,hk,nodf h2 g.b,by rw [h1,h2];exact .nil⟩
theorem MOk.fi {k:Nat} (i:FI) (g:MOk K x q st i.f i.fd i.ps) (ok:FnOk P w K mg base CX0 i.k i.f i.fd i.ps i.sp) (hk:i.k <= k:=by exact Nat.le_of_ble_eq_true rfl) (h1:i.dfs=[]:=by rfl) (h2:i.ds=[]:=by rfl):FiIn P w K mg base k i:=
 ⟨g.F.kp,⟨CX0,fun X' _ _=>Ir X',ok⟩,hk,nodf h2 g.b,by rw [h1,h2];exact .nil⟩
theorem MOk.fiE {k:Nat} (i:FI) (g:MOk K x q st i.f i.fd i.ps) (ok:FnOk P w K mg base (CXE P w) i.k i.f i.fd i.ps i.sp) (hk:i.k <= k:=by exact Nat.le_of_ble_eq_true rfl) (h1:i.dfs=[]:=by rfl) (h2:i.ds=[]:=by rfl):FiIn P w K mg base k i:=
 ⟨g.F.kp,⟨CXE P w,fun X' e1 e2=>e1 ▸ e2 ▸ Xc X',ok⟩,hk,nodf h2 g.b,by rw [h1,h2];exact .nil⟩
theorem one {C:Addr} {i:FI} {m:Str} {k:Nat} (h:MetIn P w K mg base k m ⟨C,i⟩):∀ mi ∈ [(⟨C,i⟩:MI)],MetIn P w K mg base k m mi:=fun mi hm=>by
 rw [List.mem_singleton] at hm
 exact hm ▸ h
end
end L2
section
open PySem PySem.W PyProof.Rows
set_option maxHeartbeats 0
def PySem.W.Fast.tw10611514934538581486:Unit:=()
def PySem.W.Fast.tw10829061011419532124:Unit:=()
def PySem.W.Fast.tw11448784443601674176:Unit:=()
def PySem.W.Fast.tw11510977899896745604:Unit:=()
def PySem.W.Fast.tw11679201740776424593:Unit:=()
def PySem.W.Fast.tw12797339067197051994:Unit:=()
def PySem.W.Fast.tw13083307050705208515:Unit:=()
def PySem.W.Fast.tw14443235335106275003:Unit:=()
def PySem.W.Fast.tw14629787110636403698:Unit:=()
def PySem.W.Fast.tw15170720857537696643:Unit:=()
def PySem.W.Fast.tw15772461827949174917:Unit:=()
def PySem.W.Fast.tw16705364927075377556:Unit:=()
def PySem.W.Fast.tw17148426164864908827:Unit:=()
def PySem.W.Fast.tw17976356213613096487:Unit:=()
def PySem.W.Fast.tw18136769648082898155:Unit:=()
def PySem.W.Fast.tw2511661061678319158:Unit:=()
def PySem.W.Fast.tw2937572455752359783:Unit:=()
def PySem.W.Fast.tw3645458446987667747:Unit:=()
def PySem.W.Fast.tw6658748703562362960:Unit:=()
def PySem.W.Fast.tw8953168133124052225:Unit:=()
def PySem.W.Fast.tw8965782040142279743:Unit:=()
open_top head_k05 for PySem.Challenge.rw_manyleaf_k05_boxes_and_rules
end
namespace K05
open PySem L2
structure Adr where
 f_zaj:Addr
 d_zaj:FuncData
 f_zs:Addr
 d_zs:FuncData
 f_zc:Addr
 d_zc:FuncData
 f_zv:Addr
 d_zv:FuncData
 f_zy:Addr
 d_zy:FuncData
 f_zak:Addr
 d_zak:FuncData
 f_zf:Addr
 d_zf:FuncData
 f_zt:Addr
 d_zt:FuncData
 f_zx:Addr
 d_zx:FuncData
 f_zp:Addr
 d_zp:FuncData
 f_zi:Addr
 d_zi:FuncData
 f_ze:Addr
 d_ze:FuncData
 f_zz:Addr
 d_zz:FuncData
 f_zl:Addr
 d_zl:FuncData
 f_zb:Addr
 d_zb:FuncData
 f_za:Addr
 d_za:FuncData
 f_zap:Addr
 d_zap:FuncData
 f_zg:Addr
 d_zg:FuncData
 f_zr:Addr
 d_zr:FuncData
 f_zq:Addr
 d_zq:FuncData
 f_zam:Addr
 d_zam:FuncData
 f_zad:Addr
 d_zad:FuncData
 f_zn:Addr
 d_zn:FuncData
 f_zah:Addr
 d_zah:FuncData
 f_zag:Addr
 d_zag:FuncData
 f_zac:Addr
 d_zac:FuncData
 f_zab:Addr
 d_zab:FuncData
 f_zai:Addr
 d_zai:FuncData
 f_zal:Addr
 d_zal:FuncData
 f_zaa:Addr
 d_zaa:FuncData
 f_zan:Addr
 d_zan:FuncData
 f_zw:Addr
 d_zw:FuncData
 f_zo:Addr
 d_zo:FuncData
 f_zj:Addr
 d_zj:FuncData
 f_zh:Addr
 d_zh:FuncData
 f_zae:Addr
 d_zae:FuncData
 f_zd:Addr
 d_zd:FuncData
 f_zu:Addr
 d_zu:FuncData
 f_zk:Addr
 d_zk:FuncData
 f_zao:Addr
 d_zao:FuncData
 f_zm:Addr
 d_zm:FuncData
 f_zaf:Addr
 d_zaf:FuncData
 f_zaq:Addr
 d_zaq:FuncData
 dv_zr:Value
 du_zr:List Value
 c_zaw:Addr
 c_zax:Addr
 c_zay:Addr
 c_zaz:Addr
 c_zba:Addr
 u_zat:Value
 u_zar:Value
 u_zas:Value
 u_zau:Value
 u_zav:Value
end K05
namespace K05
open PySem L2 Pn
structure Al (K:PySem.W.Frag) (t:Adr):Prop where
 pf:ah9 K t.c_zba t.c_zay
 ec:ECls K t.c_zaz
 mc:PySem.W.mroIn K t.c_zaz (.ref t.c_zaz)=some true
def Gx (z:Str):Bool:=decide (1 <= z.length) && decide (z.length <= 8) && z.cps.toList.all By
def ax9:V -> Bool
 | .int _=>true
 | _=>false
def Ki (ns:List Int) (k:Nat):Int:=ns.getD k 0
def mixF (c k:Int):Int:=
 if c % 2=0 /\ c / 2 ^ (27 * k + 1).toNat ≠ 0 /\ c / 2 ^ (27 * k + 1).toNat ≠ -1 then Builtin.bitAnd (c / 2 ^ (27 * k + 1).toNat) 134217727
 else
  let n:=(c % 1000000007 + 7919 * k) * 48271 % 2147483647
  let m:=n * n % 2147483629
  m * (m + 3) % 2147483587
def D4 (n:Int) (ss:List Str):List Str:=(List.range ss.length).filterMap fun k=>if Builtin.bitAnd (n / 3 / 2 ^ k) 1=1 then ss[k]? else none
def entF (c:Int) (j:Nat) (x:Str × List Str):Option (Str × List Str):=if mixF c (10 + (j:Int)) % 3=0 /\ D4 (mixF c (10 + (j:Int))) x.2 ≠ [] then some (x.1,D4 (mixF c (10 + (j:Int))) x.2) else none
def Dl (c:Int) (sw:Sw) (j:Nat):Sw:=(List.range j).filterMap fun i=>(sw[i]?).bind (entF c i)
def D8 (c:Int) (sw:Sw):Sw:=Dl c sw sw.length
def Gv (c:Int) (sw:Sw):Sw:=if 3 < c % 8 then (D8 (c / 4) sw).map fun e=>(e.1,e.2.reverse) else D8 (c / 4) sw
def hitB (sw:Sw) (n:Nat) (e:Str × List Str):Bool:=e.2.any fun z=>hasB (Ah sw) (C1 sw e.1) z n
def inB (sw:Sw) (rule:Sw) (n:Nat):Bool:=rule.all (hitB sw n)
def La (sw rule:Sw):Prop:=rule.length <= 5 /\ (rule.map (·.1)).Nodup /\ ∀ e ∈ rule,Bi sw e
def fewS (ss:List Str):Prop:=ss.length <= 29 /\ ∀ z ∈ ss,z.length <= 1000
def W6 (H:Hp) (v:V):Prop:=v = .non \/ (∃ z,v = .str z) \/ ∃ a xs,v = .ref a /\ H a=some (.tup xs)
def P0 (H:Hp) (v:V):Prop:=v = .non \/ (∃ i,v = .int i) \/ (∃ z,v = .str z) \/ ∃ a xs,v = .ref a /\ H a=some (.lst xs)
def EntV (H:Hp) (k:Key) (v:V):Option (Str × List Str) -> Prop
 | some e=>k = .inr e.1 /\ fewS e.2 /\ ∃ a,v = .ref a /\ H a=some (lstO e.2)
 | none=>(∃ i:Nat,k = .inl (i:Int)) \/ ∃ w,k = .inr w /\ W6 H v
structure BoxV (H:Hp) (r:Addr) (kvs:List (Key × V)) (os:List (Option (Str × List Str))):Prop where
 at_:H r=some (.dK kvs)
 len:kvs.length=os.length
 few:kvs.length <= 1000
 nd:(kvs.map (·.1)).Nodup
 ent:∀ (i:Nat) k v o,kvs[i]? = some (k,v) -> os[i]? = some o -> EntV H k v o
abbrev BadC (t:Adr) (H:Hp) (E:XK):Prop:=∀ H' e,Same H H' -> H' e=some (flO e t.c_zaz none) -> E (.ref e) none H'
inductive Bt where
 | at_ (v:V)
 | lst (l:List Str)
 | tup (l:List Str)
def BtAt (H:Hp):Bt -> V -> Prop
 | .at_ v,x=>x=v /\ A7 v=true
 | .lst l,x=>∃ a,x = .ref a /\ H a=some (lstO l)
 | .tup l,x=>∃ a,x = .ref a /\ H a=some (tupO l)
def badD (i:Nat) (w:Str) (ss:List Str):Sum (List (Key × Bt)) Dt:=match i with
 | 0=>.inl [(.inr w,.lst [])]
 | 1=>.inl [(.inr w,.at_ (.str (ss.getD 0 Str.empty)))]
 | 2=>.inl [(.inr w,.tup ss)]
 | 3=>.inl [(.inr w,.lst (ss ++ ss.drop (ss.length - 1)))]
 | 4=>.inl [(.inr w,.lst ["No"])]
 | 5=>.inl [(.inr "no.", .lst ss)]
 | 6=>.inl [(.inr w,.lst ss),(.inl 1,.lst ["a"])]
 | 7=>.inl [(.inr w,.at_ .non)]
 | 8=>.inr (.at_ .non)
 | 9=>.inr (.lst [.tup [strD w,.lst (ss.map strD)]])
 | 10=>.inr (strD w)
 | _=>.inr (.at_ (.int 0))
def ThingN (K:PySem.W.Frag) (H0 H:Hp) (v:V):Sum (List (Key × Bt)) Dt -> Prop
 | .inl kbs=>∃ r kvs,v = .ref r /\ H0 r=none /\ H r=some (.dK kvs) /\ kvs.length=kbs.length /\ ∀ (i:Nat) k x,kvs[i]? = some (k,x) -> ∃ b,kbs[i]? = some (k,b) /\ BtAt H b x
 | .inr d=>At K H d v /\ ∀ r,v = .ref r -> H0 r=none /\ ∃ xs,H r=some (.lst xs)
def badF (c:Int) (sw:Sw):Sum (List (Key × Bt)) Dt:=let x:=sw.getD (c % (sw.length:Int)).toNat (Str.empty,[]);badD (c / 5 % 12).toNat x.1 x.2
def RuleNd (ok:Addr -> Prop) (H:Hp) (d:Addr) (rule:Sw):Prop:=∃ ds:List ((Str × List Str) × Addr),ds.map (·.1)=rule /\ Own ok H d (.dK (ds.map kR)) /\ (∀ x ∈ ds,Own ok H x.2 (lstO x.1.2)) /\ (ds.map (·.2)).Nodup
section
def Qm (K:PySem.W.Frag) (t:Adr):Sp:=fun vs H Q _=>∃ (a:Addr) (ns:List Nat),vs=[.ref a] /\ SqL K H a (ns.map fun n:Nat=>V.int (n:Int)) /\ (∀ n ∈ ns,n <= 1000) /\ Q (.int (setM ns)) H
def Mq (K:PySem.W.Frag) (t:Adr):Sp:=fun vs H Q _=>∃ (a:Addr) (ms:List Int),vs=[.ref a] /\ SqL K H a (ms.map V.int) /\ Q (.int (E1 ms)) H
def Ql (K:PySem.W.Frag) (t:Adr):Sp:=fun vs H Q _=>∃ c n:Int,vs=[.int c,.int n] /\ 0 <= n /\ Q (.bl (decide (Builtin.bitAnd (c / 2 ^ n.toNat) 1=1))) H
def Qi (K:PySem.W.Frag) (t:Adr):Sp:=fun vs H Q _=>∃ v,vs=[v] /\ A7 v=true /\ Q (.bl (ax9 v)) H
def Yj (K:PySem.W.Frag) (t:Adr):Sp:=fun vs H Q _=>∃ (z:Str) (lo hi:Int),vs=[.str z,.int lo,.int hi] /\ z.length <= 1000 /\ Q (.bl (decide (lo <= (z.length:Int)) && decide ((z.length:Int) <= hi))) H
def Yl (K:PySem.W.Frag) (t:Adr):Sp:=fun vs H Q _=>∃ c,vs=[.str ⟨#[c]⟩] /\ Q (.bl (By c)) H
def Mr (K:PySem.W.Frag) (t:Adr):Sp:=fun vs H Q _=>∃ z,vs=[.str z] /\ z.length <= 1000 /\ ∀ H',Same H H' -> Q (.bl (Gx z)) H'
def R0 (K:PySem.W.Frag) (t:Adr):Sp:=fun vs H Q _=>∃ v,vs=[v] /\ ((W6 H v /\ Q (.bl false) H) \/ ∃ (a:Addr) (l:List Str),v = .ref a /\ SqL K H a (l.map V.str) /\ fewS l /\ ∀ H',Same H H' -> Q (.bl (l.all Gx && decide l.Nodup)) H')
def Ym (K:PySem.W.Frag) (t:Adr):Sp:=fun vs H Q _=>∃ (a b:Addr) (w:Str) (l:List Str),vs=[.ref a] /\ H a=some (.tup [.str w,.ref b]) /\ H b=some (lstO l) /\ okW w /\ D0 l /\ ∀ H',Same H H' -> Q (.bl true) H'
def Yf (K:PySem.W.Frag) (t:Adr):Sp:=fun vs H Q _=>∃ (a:Addr) (sw:Sw),vs=[.ref a] /\ SwIn any H a sw /\ okSw sw /\ ∀ H' d,Same H H' -> SwAt (fresh H) H' d sw -> Q (.ref d) H'
def Yc (K:PySem.W.Frag) (t:Adr):Sp:=fun vs H Q _=>∃ (d:Addr) (sw:Sw),vs=[.ref d] /\ SwAt any H d sw /\ okSw sw /\ ∀ H' l,Same H H' -> TupsAt (fresh H) H' l (Ah sw) -> Q (.ref l) H'
def Yb (K:PySem.W.Frag) (t:Adr):Sp:=fun vs H Q _=>∃ (l:Addr) (rows:List (List Str)),vs=[.ref l] /\ TupsAt any H l rows /\ rows.Nodup /\ rows.length <= 256 /\ ∀ H' n,Same H H' -> NumAt (fresh H) H' n rows -> Q (.ref n) H'
def Yd (K:PySem.W.Frag) (t:Adr):Sp:=fun vs H Q _=>∃ (d l:Addr) (sw:Sw),vs=[.ref d,.ref l] /\ SwAt any H d sw /\ TupsAt any H l (Ah sw) /\ okSw sw /\ ∀ H' s,Same H H' -> SetsAt (fresh H) H' s sw -> Q (.ref s) H'
def R5 (K:PySem.W.Frag) (t:Adr):Sp:=fun vs H Q _=>∃ (r:Addr) (rule:Sw),vs=[.ref r] /\ RuleAt any H r rule /\ (rule.map (·.1)).Nodup /\ rule.length <= 100 /\ ∀ H' c,Same H H' -> RuleAt (fresh H) H' c rule -> Q (.ref c) H'
def ah3 (K:PySem.W.Frag) (t:Adr):Sp:=fun vs H Q _=>∃ (p l s:Addr) (sw:Sw),vs=[.ref p] /\ SelfAt t.c_zba any H p l s /\ TupsAt any H l (Ah sw) /\ Q (.int (Ah sw).length) H
def ag5 (K:PySem.W.Frag) (t:Adr):Sp:=fun vs H Q _=>∃ (p l s:Addr) (sw:Sw),vs=[.ref p] /\ SelfAt t.c_zba any H p l s /\ TupsAt any H l (Ah sw) /\ (Ah sw).length <= 256 /\ Q (.int (allM sw)) H
def Yi (K:PySem.W.Frag) (t:Adr):Sp:=fun vs H Q E=>∃ (p l s:Addr) (k:Key) (v:V) (o:Option (Str × List Str)) (sw:Sw),vs=[.ref p,kV k,v] /\ SelfAt t.c_zba any H p l s /\ SetsAt any H s sw /\ okSw sw /\ EntV H k v o /\
 ((∃ e,o=some e /\ Bi sw e /\ ∀ H',Same H H' -> Q (.int (Cv sw e)) H') \/ ((∀ e,o=some e -> ¬ Bi sw e) /\ BadC t H E))
def ah5 (K:PySem.W.Frag) (t:Adr):Sp:=fun vs H Q E=>∃ (p l s:Addr) (v:V) (sw:Sw),vs=[.ref p,v] /\ okSw sw /\ ((P0 H v /\ BadC t H E) \/
 ∃ (r:Addr) (kvs:List (Key × V)) (os:List (Option (Str × List Str))),v = .ref r /\ SelfAt t.c_zba (· ≠ r) H p l s /\ TupsAt (· ≠ r) H l (Ah sw) /\ SetsAt (· ≠ r) H s sw /\ BoxV H r kvs os /\
  ((∃ rule:Sw,os=rule.map some /\ (∀ e ∈ rule,Bi sw e) /\ ∀ H',Same H H' -> Q (.int (boxM sw rule)) H') \/ ((∃ o ∈ os,∀ e,o=some e -> ¬ Bi sw e) /\ ∀ H' e,(∀ b o,b ≠ r -> H b=some o -> H' b=some o) -> Rd H' r (.dK kvs) -> H' e=some (flO e t.c_zaz none) -> E (.ref e) none H')))
def ag9 (K:PySem.W.Frag) (t:Adr):Sp:=fun vs H Q _=>∃ (p r l s:Addr) (sw rule:Sw),vs=[.ref p,.ref r] /\ SelfAt t.c_zba (· ≠ r) H p l s /\ TupsAt (· ≠ r) H l (Ah sw) /\ SetsAt (· ≠ r) H s sw /\ okSw sw /\ RuleAt any H r rule /\ Co sw rule /\ ∀ H' c,Same H H' -> RuleAt (fresh H) H' c rule -> Q (.ref c) H'
def E4 (ok:Addr -> Prop) (H:Hp) (v:V) (rules:List Sw):Prop:=(v = .non /\ rules=[]) \/ ∃ k,v = .ref k /\ RulesAt ok H k rules
def ag7 (K:PySem.W.Frag) (t:Adr):Sp:=fun vs H Q _=>∃ (p l s:Addr) (ok:Addr -> Prop) (v:V) (sw:Sw) (rules:List Sw),vs=[.ref p,v] /\ SelfAt t.c_zba ok H p l s /\ TupsAt ok H l (Ah sw) /\ SetsAt ok H s sw /\ okSw sw /\
 E4 (fun a=>¬ ok a) H v rules /\ (∀ r ∈ rules,Co sw r) /\ rules.length <= 8 /\ ∀ H' k,Same H H' -> RulesAt (fresh H) H' k rules -> Q (.ref k) H'
def Yh (K:PySem.W.Frag) (t:Adr):Sp:=fun vs H Q _=>∃ (p a dx:Addr) (v:V) (sw:Sw) (rules:List Sw),vs=[.ref p,.ref a,v] /\ H p=some (.ins t.c_zba dx []) /\ SwIn (· ≠ p) H a sw /\ okSw sw /\ E4 (· ≠ p) H v rules /\ (∀ r ∈ rules,Co sw r) /\ rules.length <= 8 /\ Dv sw rules ≠ 0 /\
 ∀ H',(∀ b o,b ≠ p -> H b=some o -> H' b=some o) -> PanelAt t.c_zba (fun b=>b=p \/ H b=none) H' p sw rules -> Q .non H'
def ah0 (K:PySem.W.Frag) (t:Adr):Sp:=fun vs H Q _=>∃ (p:Addr) (sw:Sw) (rules:List Sw),vs=[.ref p] /\ PanelAt t.c_zba any H p sw rules /\ Q (.int (Dv sw rules)) H
def ah2 (K:PySem.W.Frag) (t:Adr):Sp:=fun vs H Q _=>∃ (p:Addr) (sw:Sw) (rules:List Sw),vs=[.ref p] /\ PanelAt t.c_zba any H p sw rules /\ (∀ r ∈ rules,Co sw r) /\ rules.length <= 8 /\ ∀ H' k,Same H H' -> RulesAt (fresh H) H' k rules -> Q (.ref k) H'
def ag6 (K:PySem.W.Frag) (t:Adr):Sp:=fun vs H Q _=>∃ (p:Addr) (i:Nat) (sw:Sw) (rules:List Sw),vs=[.ref p,.int i] /\ PanelAt t.c_zba any H p sw rules /\ i < (Ah sw).length /\ Q .non H
def ah4 (K:PySem.W.Frag) (t:Adr):Sp:=fun vs H Q _=>∃ (p:Addr) (i:Nat) (r:List Str) (sw:Sw) (rules:List Sw),vs=[.ref p,.int i] /\ PanelAt t.c_zba any H p sw rules /\ (Ah sw)[i]? = some r /\ ∀ a,H a=some (tupO r) -> Q (.ref a) H
def barF (sw:Sw) (rules:List Sw) (i:Nat):V:=match rules.findIdx? fun r=>inB sw r i with
 | some k=>.int (k:Int)
 | none=>.non
def ah1 (K:PySem.W.Frag) (t:Adr):Sp:=fun vs H Q _=>∃ (p:Addr) (i:Nat) (sw:Sw) (rules:List Sw),vs=[.ref p,.int i] /\ PanelAt t.c_zba any H p sw rules /\ rules.length <= 8 /\ i < (Ah sw).length /\ ∀ H',Same H H' -> Q (barF sw rules i) H'
def ag8 (K:PySem.W.Frag) (t:Adr):Sp:=fun vs H Q _=>∃ (p a:Addr) (i:Nat) (r:List Str) (sw:Sw) (rules:List Sw),vs=[.ref p,.ref a] /\ PanelAt t.c_zba any H p sw rules /\ okSw sw /\ (H a=some (lstO r) \/ H a=some (tupO r)) /\ r.length <= 1000 /\ (Ah sw)[i]? = some r /\ ∀ H',Same H H' -> Q (.int (i:Int)) H'
def Ot (K:PySem.W.Frag) (t:Adr):Sp:=fun vs H Q _=>∃ (a:Addr) (ns:List Int) (k:Nat),vs=[.ref a,.int k] /\ SqL K H a (ns.map V.int) /\ Q (.int (Ki ns k)) H
def Dk (K:PySem.W.Frag) (t:Adr):Sp:=fun vs H Q _=>∃ c k:Int,vs=[.int c,.int k] /\ 0 <= k /\ k <= 1000 /\ ∀ H',Same H H' -> Q (.int (mixF c k)) H'
def Jt (K:PySem.W.Frag) (t:Adr):Sp:=fun vs H Q _=>∃ (c:Int) (n:Nat),vs=[.int c,.int n] /\ n <= 5 /\ ∀ H' l (ws:List Str),Same H H' -> H l=none -> H' l=some (lstO ws) -> ws.length=n -> ws.Nodup -> (∀ z ∈ ws,okW z) -> Q (.ref l) H'
def Yg (K:PySem.W.Frag) (t:Adr):Sp:=fun vs H Q _=>∃ (c m:Int),vs=[.int c,.int m] /\ 4 <= m /\ m <= 256 /\ ∀ H' l sw,Same H H' -> SwIn any H' l sw -> okSw sw -> Q (.ref l) H'
def Mo (K:PySem.W.Frag) (t:Adr):Sp:=fun vs H Q _=>∃ (l:Addr) (sw:Sw),vs=[.ref l] /\ SwIn any H l sw /\ okSw sw /\ ∀ H' r,Same H H' -> RowsAt any H' r (Ah sw) -> Q (.ref r) H'
def Ju (K:PySem.W.Frag) (t:Adr):Sp:=fun vs H Q _=>∃ (d l a:Addr) (n:Nat) (r:List Str) (sw rule:Sw),vs=[.ref d,.ref l,.ref a] /\ RuleAt any H d rule /\ SwIn any H l sw /\ okSw sw /\ La sw rule /\ H a=some (lstO r) /\ (Ah sw)[n]? = some r /\ ∀ H',Same H H' -> Q (.bl (inB sw rule n)) H'
def Mn (K:PySem.W.Frag) (t:Adr):Sp:=fun vs H Q _=>∃ (c:Int) (l:Addr) (sw:Sw),vs=[.int c,.ref l] /\ SwIn any H l sw /\ okSw sw /\ ∀ H' d,Same H H' -> RuleNd (fresh H) H' d (D8 c sw) -> Q (.ref d) H'
def Qh (K:PySem.W.Frag) (t:Adr):Sp:=fun vs H Q _=>∃ (c:Int) (l:Addr) (sw:Sw),vs=[.int c,.ref l] /\ SwIn any H l sw /\ okSw sw /\ ∀ H' k rules,Same H H' -> RulesAt (fresh H) H' k rules -> (∀ r ∈ rules,Co sw r) -> rules.length <= 3 -> Dv sw rules ≠ 0 -> Q (.ref k) H'
def Mp (K:PySem.W.Frag) (t:Adr):Sp:=fun vs H Q _=>∃ (c:Int) (l:Addr) (sw:Sw),vs=[.int c,.ref l] /\ SwIn any H l sw /\ okSw sw /\ ∀ H' d,Same H H' -> RuleAt (fresh H) H' d (Gv c sw) -> Q (.ref d) H'
def Ms (K:PySem.W.Frag) (t:Adr):Sp:=fun vs H Q _=>∃ (c:Int) (l:Addr) (sw:Sw),vs=[.ref l,.int c] /\ SwIn any H l sw /\ okSw sw /\ ∀ H' v,Same H H' -> ThingN K H H' v (badF c sw) -> Q v H'
def Qg (K:PySem.W.Frag) (t:Adr):Sp:=fun vs H Q _=>∃ (p:Addr) (v:V) (sw:Sw) (rules:List Sw),vs=[.ref p,v] /\ okSw sw /\ ((P0 H v /\ PanelAt t.c_zba any H p sw rules /\ ∀ H',Same H H' -> Q (.str "none") H') \/
 ∃ (r:Addr) (kvs:List (Key × V)) (os:List (Option (Str × List Str))),v = .ref r /\ PanelAt t.c_zba (· ≠ r) H p sw rules /\ BoxV H r kvs os /\
  ((∃ rule:Sw,os=rule.map some /\ (∀ e ∈ rule,Bi sw e) /\ ∀ H',Same H H' -> Q (.int (boxM sw rule)) H') \/ ((∃ o ∈ os,∀ e,o=some e -> ¬ Bi sw e) /\ ∀ H',(∀ b o,b ≠ r -> H b=some o -> H' b=some o) -> Rd H' r (.dK kvs) -> Q (.str "none") H')))
def Qk (K:PySem.W.Frag) (t:Adr):Sp:=fun vs H Q _=>∃ (l r d:Addr) (sw rule:Sw),vs=[.ref l,.ref r,.ref d] /\ SwIn any H l sw /\ okSw sw /\ RowsAt any H r (Ah sw) /\ RuleAt any H d rule /\ La sw rule /\ ∀ H',Same H H' -> Q (.int (boxM sw rule)) H'
def Yk (K:PySem.W.Frag) (t:Adr):Sp:=fun vs H Q _=>∃ (k:Addr) (rules:List Sw),vs=[.ref k] /\ RulesAt any H k rules /\ (∀ r ∈ rules,(r.map (·.1)).Nodup /\ r.length <= 100) /\ rules.length <= 8 /\ ∀ H' c,Same H H' -> RulesAt (fresh H) H' c rules -> Q (.ref c) H'
def Ye (K:PySem.W.Frag) (t:Adr):Sp:=fun vs H Q _=>∃ (p k:Addr) (sw:Sw) (rules:List Sw),vs=[.ref p,.ref k] /\ PanelAt t.c_zba any H p sw rules /\ RulesAt any H k rules /\ okSw sw /\ (∀ r ∈ rules,Co sw r) /\ rules.length <= 8 /\ ∀ H',Same H H' -> Q (.bl true) H'
def Qj (K:PySem.W.Frag) (t:Adr):Sp:=fun vs H Q _=>∃ (p l r k:Addr) (sw:Sw) (rules:List Sw),vs=[.ref p,.ref l,.ref r,.ref k] /\ PanelAt t.c_zba any H p sw rules /\ SwIn any H l sw /\ okSw sw /\ RowsAt any H r (Ah sw) /\ RulesAt any H k rules /\ (∀ r ∈ rules,Co sw r /\ La sw r) /\ rules.length <= 8 /\ ∀ H',Q (.bl true) H'
def Mt (K:PySem.W.Frag) (t:Adr):Sp:=fun vs H Q _=>∃ (a:Addr) (ns:List Int),vs=[.ref a] /\ SqL K H a (ns.map V.int) /\ ∀ H',Q (.bl true) H'
end
end K05
namespace K05
open PySem L2
def top (i:Nat):Stmt:=PySem.Challenge.pw_manyleaf_k05_boxes_and_rules.main.body.getD i (.Pass ⟨0,0,0,0⟩)
def bl:List Str:=["all", "bool", "dict", "enumerate", "int", "isinstance", "len", "list", "range", "set", "str", "tuple"]
section
variable (K:PySem.W.Frag) (t:Adr)
abbrev Jk:Stmt:=top 9
abbrev Vo:List Str:=["sets", "choices", "one"]
abbrev M6:List Str:=["sets"]
def ae7:FI:=⟨t.f_zaj,t.d_zaj,M6,1,Mq K t,[],[]⟩
abbrev s_zs:Stmt:=Bj (top 21) 3
abbrev N_zs:List Str:=["self"]
abbrev P_zs:List Str:=["self"]
def i_zs:FI:=⟨t.f_zs,t.d_zs,P_zs,1,ah3 K t,[],[]⟩
abbrev s_zc:Stmt:=Bj (top 21) 9
abbrev N_zc:List Str:=["self"]
abbrev P_zc:List Str:=["self"]
def i_zc:FI:=⟨t.f_zc,t.d_zc,P_zc,2,ag5 K t,[],[]⟩
abbrev s_zv:Stmt:=top 13
abbrev N_zv:List Str:=["thing", "least", "greatest"]
abbrev P_zv:List Str:=["thing", "least", "greatest"]
def i_zv:FI:=⟨t.f_zv,t.d_zv,P_zv,1,Yj K t,[],[]⟩
abbrev s_zy:Stmt:=top 14
abbrev N_zy:List Str:=["sign"]
abbrev P_zy:List Str:=["sign"]
def i_zy:FI:=⟨t.f_zy,t.d_zy,P_zy,1,Yl K t,[],[]⟩
abbrev Jl:Stmt:=top 12
abbrev Vp:List Str:=["thing"]
abbrev M7:List Str:=["thing"]
def ae8:FI:=⟨t.f_zak,t.d_zak,M7,2,Mr K t,[],[]⟩
abbrev s_zf:Stmt:=top 22
abbrev N_zf:List Str:=["things"]
abbrev P_zf:List Str:=["things"]
def i_zf:FI:=⟨t.f_zf,t.d_zf,P_zf,3,R0 K t,[],[]⟩
abbrev s_zt:Stmt:=Bj (top 21) 12
abbrev N_zt:List Str:=["self", "word", "settings"]
abbrev P_zt:List Str:=["self", "word", "settings"]
def i_zt:FI:=⟨t.f_zt,t.d_zt,P_zt,4,Yi K t,[],[]⟩
abbrev s_zx:Stmt:=Bj (top 21) 11
abbrev N_zx:List Str:=["self", "terms", "choices", "word"]
abbrev P_zx:List Str:=["self", "terms"]
def i_zx:FI:=⟨t.f_zx,t.d_zx,P_zx,5,ah5 K t,[],[]⟩
abbrev s_zp:Stmt:=top 28
abbrev N_zp:List Str:=["rule", "copied", "word"]
abbrev P_zp:List Str:=["rule"]
def i_zp:FI:=⟨t.f_zp,t.d_zp,P_zp,1,R5 K t,[],[]⟩
abbrev s_zi:Stmt:=Bj (top 21) 2
abbrev N_zi:List Str:=["self", "rule"]
abbrev P_zi:List Str:=["self", "rule"]
def i_zi:FI:=⟨t.f_zi,t.d_zi,P_zi,6,ag9 K t,[],[]⟩
abbrev s_ze:Stmt:=Bj (top 21) 1
abbrev N_ze:List Str:=["self", "rules"]
abbrev P_ze:List Str:=["self", "rules"]
def i_ze:FI:=⟨t.f_ze,t.d_ze,P_ze,7,ag7 K t,[],[]⟩
abbrev s_zz:Stmt:=top 24
abbrev N_zz:List Str:=["switch"]
abbrev P_zz:List Str:=["switch"]
def i_zz:FI:=⟨t.f_zz,t.d_zz,P_zz,4,Ym K t,[],[]⟩
abbrev s_zl:Stmt:=top 23
abbrev N_zl:List Str:=["switches", "settings", "many", "switch"]
abbrev P_zl:List Str:=["switches"]
def i_zl:FI:=⟨t.f_zl,t.d_zl,P_zl,5,Yf K t,[],[]⟩
abbrev s_zb:Stmt:=top 25
abbrev N_zb:List Str:=["settings", "tuples", "word", "longer", "ahead"]
abbrev P_zb:List Str:=["settings"]
def i_zb:FI:=⟨t.f_zb,t.d_zb,P_zb,1,Yc K t,[],[]⟩
abbrev s_za:Stmt:=top 26
abbrev N_za:List Str:=["tuples", "numbers", "number", "told"]
abbrev P_za:List Str:=["tuples"]
def i_za:FI:=⟨t.f_za,t.d_za,P_za,1,Yb K t,[],[]⟩
abbrev Jq:Stmt:=top 8
abbrev Vu:List Str:=["numbers", "choices", "number"]
abbrev Nc:List Str:=["numbers"]
def af3:FI:=⟨t.f_zap,t.d_zap,Nc,1,Qm K t,[],[]⟩
abbrev s_zg:Stmt:=top 27
abbrev N_zg:List Str:=["settings", "tuples", "sets", "place", "word", "setting", "having"]
abbrev P_zg:List Str:=["settings", "tuples"]
def i_zg:FI:=⟨t.f_zg,t.d_zg,P_zg,2,Yd K t,[],[]⟩
abbrev s_zr:Stmt:=Bj (top 21) 0
abbrev N_zr:List Str:=["self", "switches", "rules"]
abbrev P_zr:List Str:=["self", "switches", "rules"]
def i_zr:FI:=⟨t.f_zr,t.d_zr,P_zr,8,Yh K t,[.non],t.du_zr⟩
abbrev s_zq:Stmt:=top 30
abbrev N_zq:List Str:=["_law_script", "_law_k"]
abbrev P_zq:List Str:=["_law_script", "_law_k"]
def i_zq:FI:=⟨t.f_zq,t.d_zq,P_zq,1,Ot K t,[],[]⟩
abbrev Jn:Stmt:=top 31
abbrev Vr:List Str:=["_law_cell", "_law_k", "_law_left", "_law_number"]
abbrev M9:List Str:=["_law_cell", "_law_k"]
def af0:FI:=⟨t.f_zam,t.d_zam,M9,1,Dk K t,[],[]⟩
abbrev Je:Stmt:=top 32
abbrev Vi:List Str:=["_law_cell", "_law_many", "_law_letters", "_law_number", "_law_base", "_law_k", "_law_long", "_law_at", "_law_words_here", "_law_signs"]
abbrev M0:List Str:=["_law_cell", "_law_many"]
def ae1:FI:=⟨t.f_zad,t.d_zad,M0,2,Jt K t,[],[]⟩
abbrev s_zn:Stmt:=top 33
abbrev N_zn:List Str:=["_law_cell", "_law_most", "_law_words_here", "_law_switches_here", "_law_product", "_law_k", "_law_size"]
abbrev P_zn:List Str:=["_law_cell", "_law_most"]
def i_zn:FI:=⟨t.f_zn,t.d_zn,P_zn,3,Yg K t,[],[]⟩
abbrev Ji:Stmt:=top 34
abbrev Vm:List Str:=["_law_switches_here", "_law_rows_here", "_law_word", "_law_settings", "_law_longer", "_law_row", "_law_setting"]
abbrev M4:List Str:=["_law_switches_here"]
def ae5:FI:=⟨t.f_zah,t.d_zah,M4,1,Mo K t,[],[]⟩
abbrev Jh:Stmt:=top 35
abbrev Vl:List Str:=["_law_terms_here", "_law_switches_here", "_law_row", "_law_j", "_law_switch"]
abbrev M3:List Str:=["_law_terms_here", "_law_switches_here", "_law_row"]
def ae4:FI:=⟨t.f_zag,t.d_zag,M3,1,Ju K t,[],[]⟩
abbrev Jd:Stmt:=top 36
abbrev Vh:List Str:=["_law_cell", "_law_switches_here", "_law_terms_here", "_law_j", "_law_switch", "_law_number", "_law_some_here"]
abbrev Mz:List Str:=["_law_cell", "_law_switches_here"]
def ae0:FI:=⟨t.f_zac,t.d_zac,Mz,2,Mn K t,[],[]⟩
abbrev Jc:Stmt:=top 37
abbrev Vg:List Str:=["_law_cell", "_law_switches_here", "_law_rules_here", "_law_left", "_law_k", "_law_rule", "_law_kept"]
abbrev Mx:List Str:=["_law_cell", "_law_switches_here"]
def ad9:FI:=⟨t.f_zab,t.d_zab,Mx,3,Qh K t,[],[]⟩
abbrev Jj:Stmt:=top 38
abbrev Vn:List Str:=["_law_cell", "_law_switches_here", "_law_terms_here", "_law_word"]
abbrev M5:List Str:=["_law_cell", "_law_switches_here"]
def ae6:FI:=⟨t.f_zai,t.d_zai,M5,3,Mp K t,[],[]⟩
abbrev Jm:Stmt:=top 39
abbrev Vq:List Str:=["_law_switches_here", "_law_cell", "_law_word", "_law_settings", "_law_some_here"]
abbrev M8:List Str:=["_law_switches_here", "_law_cell"]
def ae9:FI:=⟨t.f_zal,t.d_zal,M8,1,Ms K t,[],[]⟩
abbrev Jb:Stmt:=top 40
abbrev Vf:List Str:=["_law_panel", "_law_terms_here", "_law_found"]
abbrev Mw:List Str:=["_law_panel", "_law_terms_here"]
def ad8:FI:=⟨t.f_zaa,t.d_zaa,Mw,6,Qg K t,[],[]⟩
abbrev Jo:Stmt:=top 41
abbrev Vs:List Str:=["_law_switches_here", "_law_rows_here", "_law_terms_here", "_law_choices", "_law_number", "_law_row"]
abbrev Na:List Str:=["_law_switches_here", "_law_rows_here", "_law_terms_here"]
def af1:FI:=⟨t.f_zan,t.d_zan,Na,2,Qk K t,[],[]⟩
abbrev s_zw:Stmt:=top 42
abbrev N_zw:List Str:=["_law_rules_here", "_law_found", "_law_rule", "_law_word"]
abbrev P_zw:List Str:=["_law_rules_here"]
def i_zw:FI:=⟨t.f_zw,t.d_zw,P_zw,1,Yk K t,[],[]⟩
abbrev s_zo:Stmt:=Bj (top 21) 5
abbrev N_zo:List Str:=["self"]
abbrev P_zo:List Str:=["self"]
def i_zo:FI:=⟨t.f_zo,t.d_zo,P_zo,2,ah2 K t,[],[]⟩
abbrev s_zj:Stmt:=top 43
abbrev N_zj:List Str:=["_law_panel", "_law_rules_here", "_law_found", "_law_rule", "_law_word"]
abbrev P_zj:List Str:=["_law_panel", "_law_rules_here"]
def i_zj:FI:=⟨t.f_zj,t.d_zj,P_zj,3,Ye K t,[],[]⟩
abbrev s_zh:Stmt:=Bj (top 21) 6
abbrev N_zh:List Str:=["self", "settings", "number"]
abbrev P_zh:List Str:=["self", "settings"]
def i_zh:FI:=⟨t.f_zh,t.d_zh,P_zh,1,ag8 K t,[],[]⟩
abbrev Jf:Stmt:=top 11
abbrev Vj:List Str:=["thing"]
abbrev M1:List Str:=["thing"]
def ae2:FI:=⟨t.f_zae,t.d_zae,M1,1,Qi K t,[],[]⟩
abbrev s_zd:Stmt:=Bj (top 21) 8
abbrev N_zd:List Str:=["self", "number"]
abbrev P_zd:List Str:=["self", "number"]
def i_zd:FI:=⟨t.f_zd,t.d_zd,P_zd,2,ag6 K t,[],[]⟩
abbrev s_zu:Stmt:=Bj (top 21) 7
abbrev N_zu:List Str:=["self", "number"]
abbrev P_zu:List Str:=["self", "number"]
def i_zu:FI:=⟨t.f_zu,t.d_zu,P_zu,3,ah4 K t,[],[]⟩
abbrev s_zk:Stmt:=Bj (top 21) 10
abbrev N_zk:List Str:=["self"]
abbrev P_zk:List Str:=["self"]
def i_zk:FI:=⟨t.f_zk,t.d_zk,P_zk,1,ah0 K t,[],[]⟩
abbrev Jp:Stmt:=top 7
abbrev Vt:List Str:=["choices", "number"]
abbrev Nb:List Str:=["choices", "number"]
def af2:FI:=⟨t.f_zao,t.d_zao,Nb,1,Ql K t,[],[]⟩
abbrev s_zm:Stmt:=Bj (top 21) 14
abbrev N_zm:List Str:=["self", "number", "place", "bar"]
abbrev P_zm:List Str:=["self", "number"]
def i_zm:FI:=⟨t.f_zm,t.d_zm,P_zm,3,ah1 K t,[],[]⟩
abbrev Jg:Stmt:=top 44
abbrev Vk:List Str:=["_law_panel", "_law_switches_here", "_law_rows_here", "_law_rules_here", "_law_free", "_law_number", "_law_row", "_law_due", "_law_at", "_law_rule", "_law_found"]
abbrev M2:List Str:=["_law_panel", "_law_switches_here", "_law_rows_here", "_law_rules_here"]
def ae3:FI:=⟨t.f_zaf,t.d_zaf,M2,4,Qj K t,[],[]⟩
abbrev C8:Stmt:=top 45
abbrev Vv:List Str:=["_law_script", "_law_switches_here", "_law_rows_here", "_law_rules_here", "_law_handed", "_law_word", "_law_panel", "_law_rule", "_law_cell", "_law_terms_here", "_law_due", "_law_again", "_law_found"]
abbrev Nd:List Str:=["_law_script"]
def Bh:List MI:=[⟨t.c_zba,i_zc K t⟩]
def Ev:List MI:=[⟨t.c_zba,i_zk K t⟩]
def F0:List MI:=[⟨t.c_zba,i_zm K t⟩]
def F7:List MI:=[⟨t.c_zba,i_zx K t⟩]
def Hk:List MI:=[⟨t.c_zba,i_zs K t⟩]
def Bz:List MI:=[⟨t.c_zba,i_zd K t⟩]
def Bk:List MI:=[⟨t.c_zba,i_zh K t⟩]
def Di:List MI:=[⟨t.c_zba,i_zi K t⟩]
def Cz:List MI:=[⟨t.c_zba,i_ze K t⟩]
def Fj:List MI:=[⟨t.c_zba,i_zo K t⟩]
def Hl:List MI:=[⟨t.c_zba,i_zt K t⟩]
def Hm:List MI:=[⟨t.c_zba,i_zu K t⟩]
def gb_0 (K:PySem.W.Frag) (t:Adr):List (Str × GB):=[("LeafError", .exc t.c_zaw none),("BadPanel", .exc t.c_zax none),("NoChoice", .exc t.c_zay none),("BadCond", .exc t.c_zaz none),("Panel", .val (.ref t.c_zba) (.ref t.c_zba)),("MOST_SWITCHES", .val (.int 5) t.u_zat),("LEAST_SETTINGS", .val (.int 2) t.u_zar),("MOST_SETTINGS", .val (.int 4) t.u_zas),("MOST_CHOICES", .val (.int 256) t.u_zau),("MOST_RULES", .val (.int 8) t.u_zav)]
def gb_1:List (Str × GB):=("", .met "allowed" (Ev K t)) :: ("", .met "many" (Hk K t)) :: ("", .met "number_of" (Bk K t)) :: ("union_of", .fn (ae7 K t)) :: ("has_length", .fn (i_zv K t)) :: ("is_letter", .fn (i_zy K t)) :: ("copied_rule", .fn (i_zp K t)) :: ("settings_of_choices", .fn (i_zb K t)) :: ("numbers_by_settings", .fn (i_za K t)) :: ("set_of", .fn (af3 K t)) :: ("_law_cell_at", .fn (i_zq K t)) :: ("_law_mix", .fn (af0 K t)) :: ("_law_rows", .fn (ae5 K t)) :: ("_law_hits", .fn (ae4 K t)) :: ("_law_bad", .fn (ae9 K t)) :: ("_law_copied", .fn (i_zw K t)) :: ("is_whole", .fn (ae2 K t)) :: ("in_set", .fn (af2 K t)) :: gb_0 K t
def gb_2:List (Str × GB):=("", .met "all_choices" (Bh K t)) :: ("", .met "need_number" (Bz K t)) :: ("", .met "rules" (Fj K t)) :: ("is_word", .fn (ae8 K t)) :: ("sets_of_settings", .fn (i_zg K t)) :: ("_law_words", .fn (ae1 K t)) :: ("_law_terms", .fn (ae0 K t)) :: ("_law_set", .fn (af1 K t)) :: gb_1 K t
def gb_3:List (Str × GB):=("", .met "barred" (F0 K t)) :: ("", .met "told" (Hm K t)) :: ("are_unlike_words", .fn (i_zf K t)) :: ("_law_switches", .fn (i_zn K t)) :: ("_law_rules", .fn (ad9 K t)) :: ("_law_some", .fn (ae6 K t)) :: ("_law_rules_stand", .fn (i_zj K t)) :: gb_2 K t
def gb_4:List (Str × GB):=("", .met "term" (Hl K t)) :: ("is_switch", .fn (i_zz K t)) :: ("_law_bars", .fn (ae3 K t)) :: gb_3 K t
def gb_5:List (Str × GB):=("", .met "box" (F7 K t)) :: ("read_switches", .fn (i_zl K t)) :: gb_4 K t
def gb_6:List (Str × GB):=("", .met "read_rule" (Di K t)) :: ("_law_boxed", .fn (ad8 K t)) :: gb_5 K t
def gb_7:List (Str × GB):=("", .met "read_rules" (Cz K t)) :: gb_6 K t
def gb_8:List (Str × GB):=gb_7 K t
def gb_9:List (Str × GB):=("Panel", .cls t.c_zba (some (i_zr K t))) :: gb_8 K t
end
def bb0 (K:PySem.W.Frag) (t:Adr):DS:=
 (dSeq (dSet 1 (dC (.int 0)))
 (dSeq (dFor (iVal K (dVar 0)) (gdN 2) (dSeq (dSet 1 (dBin rOrD (dVar 1) (dVar 2)))
  Ae))
 (dSeq (dRet (dVar 1))
 Ae)))
theorem as7 (K:PySem.W.Frag) (t:Adr):wSs 40 (defG K Vo (Aa Jk) (gb_0 K t) bl) (Ag Jk)=bb0 K t:=by kernel_rfl
theorem au8:Ai Vo M6 (Aa Jk):=⟨rfl,rfl,rfl,by decide +kernel,rfl,by decide +kernel,by decide +kernel⟩
theorem ax1:Am Vo (Aa Jk)=true:=by decide +kernel
def t_zs (K:PySem.W.Frag) (t:Adr):DS:=
 (dSeq (dRet (dFn (fun vs H Q _=>(rLen K) vs H Q) (Ab (dUn (B0 K "tuples") (dVar 0)) dNil)))
 Ae)
theorem a60 (K:PySem.W.Frag) (t:Adr):wSs 40 (defG K N_zs (Aa s_zs) (gb_0 K t) bl) (Ag s_zs)=t_zs K t:=by kernel_rfl
theorem a86:Ai N_zs P_zs (Aa s_zs):=⟨rfl,rfl,rfl,by decide +kernel,rfl,by decide +kernel,by decide +kernel⟩
theorem bd6:Am N_zs (Aa s_zs)=true:=by decide +kernel
def t_zc (K:PySem.W.Frag) (t:Adr):DS:=
 (dSeq (dRet (dBin ag3 (dBin Oi (dC (.int 1)) (dOwn "many" 0 (Hk K t) (dVar 0) dNil)) (dC (.int 1))))
 Ae)
theorem a44 (K:PySem.W.Frag) (t:Adr):wSs 40 (defG K N_zc (Aa s_zc) (gb_1 K t) bl) (Ag s_zc)=t_zc K t:=by kernel_rfl
theorem a70:Ai N_zc P_zc (Aa s_zc):=⟨rfl,rfl,rfl,by decide +kernel,rfl,by decide +kernel,by decide +kernel⟩
theorem bc0:Am N_zc (Aa s_zc)=true:=by decide +kernel
def t_zv (K:PySem.W.Frag) (t:Adr):DS:=
 (dSeq (dRet (Kn K (dFn (fun vs H Q _=>(rIsi K) vs H Q) (Ab (dVar 0) (Ab (dC (.ty "str")) dNil))) (Cy rLeD rLeD (dVar 1) (dFn (fun vs H Q _=>(rLen K) vs H Q) (Ab (dVar 0) dNil)) (dVar 2))))
 Ae)
theorem a63 (K:PySem.W.Frag) (t:Adr):wSs 40 (defG K N_zv (Aa s_zv) (gb_0 K t) bl) (Ag s_zv)=t_zv K t:=by kernel_rfl
theorem a89:Ai N_zv P_zv (Aa s_zv):=⟨rfl,rfl,rfl,by decide +kernel,rfl,by decide +kernel,by decide +kernel⟩
theorem bd9:Am N_zv (Aa s_zv)=true:=by decide +kernel
def t_zy (K:PySem.W.Frag) (t:Adr):DS:=
 (dSeq (dRet (Cy rLeD rLeD (dC (.str "a")) (dVar 0) (dC (.str "z"))))
 Ae)
theorem a66 (K:PySem.W.Frag) (t:Adr):wSs 40 (defG K N_zy (Aa s_zy) (gb_0 K t) bl) (Ag s_zy)=t_zy K t:=by kernel_rfl
theorem a92:Ai N_zy P_zy (Aa s_zy):=⟨rfl,rfl,rfl,by decide +kernel,rfl,by decide +kernel,by decide +kernel⟩
theorem be2:Am N_zy (Aa s_zy)=true:=by decide +kernel
def bb1 (K:PySem.W.Frag) (t:Adr):DS:=
 (dSeq (dRet (Kn K (dFn (spE (Yj K t) []) (Ab (dVar 0) (Ab (dC (.int 1)) (Ab (dC (.int 8)) dNil)))) (dFn (fun vs H Q _=>(rAll K) vs H Q) (Ab (Bp [none] (iVal K (dVar 0)) (gdN 0) dYes (dFn (spE (Yl K t) []) (Ab (dVar 0) dNil))) dNil))))
 Ae)
theorem as8 (K:PySem.W.Frag) (t:Adr):wSs 40 (defG K Vp (Aa Jl) (gb_1 K t) bl) (Ag Jl)=bb1 K t:=by kernel_rfl
theorem au9:Ai Vp M7 (Aa Jl):=⟨rfl,rfl,rfl,by decide +kernel,rfl,by decide +kernel,by decide +kernel⟩
theorem ax2:Am Vp (Aa Jl)=true:=by decide +kernel
def t_zf (K:PySem.W.Frag) (t:Adr):DS:=
 (dSeq (dIf (dOr (dNot (dTru K (dFn (fun vs H Q _=>(rIsi K) vs H Q) (Ab (dVar 0) (Ab (dC (.ty "list")) dNil))))) (dNot (dTru K (dFn (fun vs H Q _=>(rAll K) vs H Q) (Ab (Bp [none] (iVal K (dVar 0)) (gdN 0) dYes (dFn (spE (Mr K t) []) (Ab (dVar 0) dNil))) dNil))))) (dSeq (dRet (dC (.bl false)))
  Ae) Ae)
 (dSeq (dRet (dBin (rEqD K false) (dUn (Ht K) (dVar 0)) (dFn (fun vs H Q _=>(rLen K) vs H Q) (Ab (dVar 0) dNil))))
 Ae))
theorem a47 (K:PySem.W.Frag) (t:Adr):wSs 40 (defG K N_zf (Aa s_zf) (gb_2 K t) bl) (Ag s_zf)=t_zf K t:=by kernel_rfl
theorem a73:Ai N_zf P_zf (Aa s_zf):=⟨rfl,rfl,rfl,by decide +kernel,rfl,by decide +kernel,by decide +kernel⟩
theorem bc3:Am N_zf (Aa s_zf)=true:=by decide +kernel
def t_zt (K:PySem.W.Frag) (t:Adr):DS:=
 (dSeq (dIf (dOr (dNot (dTru K (dFn (fun vs H Q _=>(rIsi K) vs H Q) (Ab (dVar 1) (Ab (dC (.ty "str")) dNil))))) (dTst (dBin (rInD K true) (dVar 1) (dUn (B0 K "sets") (dVar 0))))) (dSeq (Be K (dFn (fun vs H Q E=>vs.length <= 1000 /\ mkX t.c_zaz none 0 vs H Q E) (Ab (dC (.str "there is no such switch")) dNil)))
  Ae) Ae)
 (dSeq (dIf (dOr (dNot (dTru K (dFn (spE (R0 K t) []) (Ab (dVar 2) dNil)))) (dTst (dBin (rEqD K false) (dVar 2) (dLst dNil)))) (dSeq (Be K (dFn (fun vs H Q E=>vs.length <= 1000 /\ mkX t.c_zaz none 0 vs H Q E) (Ab (dC (.str "this is no list of settings")) dNil)))
  Ae) Ae)
 (dSeq (dIf (dNot (dTru K (dFn (fun vs H Q _=>(rAll K) vs H Q) (Ab (Bp [none,some 0,some 1] (iVal K (dVar 2)) (gdN 0) dYes (dBin (rInD K false) (dVar 0) (dBin (rIxD K) (dUn (B0 K "sets") (dVar 1)) (dVar 2)))) dNil)))) (dSeq (Be K (dFn (fun vs H Q E=>vs.length <= 1000 /\ mkX t.c_zaz none 0 vs H Q E) (Ab (dC (.str "the switch has no such setting")) dNil)))
  Ae) Ae)
 (dSeq (dRet (dFn (spE (Mq K t) []) (Ab (Bp [none,some 0,some 1] (iVal K (dVar 2)) (gdN 0) dYes (dBin (rIxD K) (dBin (rIxD K) (dUn (B0 K "sets") (dVar 1)) (dVar 2)) (dVar 0))) dNil)))
 Ae))))
theorem a61 (K:PySem.W.Frag) (t:Adr):wSs 40 (defG K N_zt (Aa s_zt) (gb_3 K t) bl) (Ag s_zt)=t_zt K t:=by kernel_rfl
theorem a87:Ai N_zt P_zt (Aa s_zt):=⟨rfl,rfl,rfl,by decide +kernel,rfl,by decide +kernel,by decide +kernel⟩
theorem bd7:Am N_zt (Aa s_zt)=true:=by decide +kernel
def t_zx (K:PySem.W.Frag) (t:Adr):DS:=
 (dSeq (dIf (dNot (dTru K (dFn (fun vs H Q _=>(rIsi K) vs H Q) (Ab (dVar 1) (Ab (dC (.ty "dict")) dNil))))) (dSeq (Be K (dFn (fun vs H Q E=>vs.length <= 1000 /\ mkX t.c_zaz none 0 vs H Q E) (Ab (dC (.str "this is no box")) dNil)))
  Ae) Ae)
 (dSeq (dSet 2 (dOwn "all_choices" 0 (Bh K t) (dVar 0) dNil))
 (dSeq (dFor (iVal K (dVar 1)) (gdN 3) (dSeq (dSet 2 (dBin Gr (dVar 2) (dOwn "term" 2 (Hl K t) (dVar 0) (Ab (dVar 3) (Ab (dBin (rIxD K) (dVar 1) (dVar 3)) dNil)))))
  Ae))
 (dSeq (dRet (dVar 2))
 Ae))))
theorem a65 (K:PySem.W.Frag) (t:Adr):wSs 40 (defG K N_zx (Aa s_zx) (gb_4 K t) bl) (Ag s_zx)=t_zx K t:=by kernel_rfl
theorem a91:Ai N_zx P_zx (Aa s_zx):=⟨rfl,rfl,rfl,by decide +kernel,rfl,by decide +kernel,by decide +kernel⟩
theorem be1:Am N_zx (Aa s_zx)=true:=by decide +kernel
def t_zp (K:PySem.W.Frag) (t:Adr):DS:=
 (dSeq (dSet 1 Ds)
 (dSeq (dFor (iVal K (dVar 0)) (gdN 2) (dSeq (dAsg (dFn (fun vs H Q _=>(A5 K) vs H Q) (Ab (dBin (rIxD K) (dVar 0) (dVar 2)) dNil)) (Cm K (dVar 1) (dVar 2)))
  Ae))
 (dSeq (dRet (dVar 1))
 Ae)))
theorem a57 (K:PySem.W.Frag) (t:Adr):wSs 40 (defG K N_zp (Aa s_zp) (gb_0 K t) bl) (Ag s_zp)=t_zp K t:=by kernel_rfl
theorem a83:Ai N_zp P_zp (Aa s_zp):=⟨rfl,rfl,rfl,by decide +kernel,rfl,by decide +kernel,by decide +kernel⟩
theorem bd3:Am N_zp (Aa s_zp)=true:=by decide +kernel
def t_zi (K:PySem.W.Frag) (t:Adr):DS:=
 (dSeq (dIf (dOr (dNot (dTru K (dFn (fun vs H Q _=>(rIsi K) vs H Q) (Ab (dVar 1) (Ab (dC (.ty "dict")) dNil))))) (dTst (dBin (rEqD K false) (dFn (fun vs H Q _=>(rLen K) vs H Q) (Ab (dVar 1) dNil)) (dC (.int 0))))) (dSeq (Be K (dFn (fun vs H Q E=>vs.length <= 1000 /\ mkX t.c_zax none 0 vs H Q E) (Ab (dC (.str "a rule is no dict, or has no entry")) dNil)))
  Ae) Ae)
 (dSeq (dTry K (dSeq (B9 (dOwn "box" 1 (F7 K t) (dVar 0) (Ab (dVar 1) dNil)))
  Ae) [(t.c_zaz,none,(dSeq Bo
  Ae))])
 (dSeq (dRet (dFn (spE (R5 K t) []) (Ab (dVar 1) dNil)))
 Ae)))
theorem a50 (K:PySem.W.Frag) (t:Adr):wSs 40 (defG K N_zi (Aa s_zi) (gb_5 K t) bl) (Ag s_zi)=t_zi K t:=by kernel_rfl
theorem a76:Ai N_zi P_zi (Aa s_zi):=⟨rfl,rfl,rfl,by decide +kernel,rfl,by decide +kernel,by decide +kernel⟩
theorem bc6:Am N_zi (Aa s_zi)=true:=by decide +kernel
def t_ze (K:PySem.W.Frag) (t:Adr):DS:=
 (dSeq (dIf (dTst (dBin (rIsD false) (dVar 1) (dC .non))) (dSeq (dRet (dLst dNil))
  Ae) Ae)
 (dSeq (dIf (dOr (dNot (dTru K (dFn (fun vs H Q _=>(rIsi K) vs H Q) (Ab (dVar 1) (Ab (dC (.ty "list")) dNil))))) (dTst (dBin rGtD (dFn (fun vs H Q _=>(rLen K) vs H Q) (Ab (dVar 1) dNil)) (dC (.int 8))))) (dSeq (Be K (dFn (fun vs H Q E=>vs.length <= 1000 /\ mkX t.c_zax none 0 vs H Q E) (Ab (dC (.str "the rules are no list of at most eight")) dNil)))
  Ae) Ae)
 (dSeq (dRet (Bp [none,some 0] (iVal K (dVar 1)) (gdN 0) dYes (dOwn "read_rule" 1 (Di K t) (dVar 1) (Ab (dVar 0) dNil))))
 Ae)))
theorem a46 (K:PySem.W.Frag) (t:Adr):wSs 40 (defG K N_ze (Aa s_ze) (gb_6 K t) bl) (Ag s_ze)=t_ze K t:=by kernel_rfl
theorem a72:Ai N_ze P_ze (Aa s_ze):=⟨rfl,rfl,rfl,by decide +kernel,rfl,by decide +kernel,by decide +kernel⟩
theorem bc2:Am N_ze (Aa s_ze)=true:=by decide +kernel
def t_zz (K:PySem.W.Frag) (t:Adr):DS:=
 (dSeq (dIf (dOr (dNot (dTru K (dFn (fun vs H Q _=>(rIsi K) vs H Q) (Ab (dVar 0) (Ab (dC (.ty "tuple")) dNil))))) (dOr (dTst (dBin (rEqD K true) (dFn (fun vs H Q _=>(rLen K) vs H Q) (Ab (dVar 0) dNil)) (dC (.int 2)))) (dNot (dTru K (dFn (spE (Mr K t) []) (Ab (dBin (rIxD K) (dVar 0) (dC (.int 0))) dNil)))))) (dSeq (dRet (dC (.bl false)))
  Ae) Ae)
 (dSeq (dRet (Kn K (dFn (spE (R0 K t) []) (Ab (dBin (rIxD K) (dVar 0) (dC (.int 1))) dNil)) (Cy rLeD rLeD (dC (.int 2)) (dFn (fun vs H Q _=>(rLen K) vs H Q) (Ab (dBin (rIxD K) (dVar 0) (dC (.int 1))) dNil)) (dC (.int 4)))))
 Ae))
theorem a67 (K:PySem.W.Frag) (t:Adr):wSs 40 (defG K N_zz (Aa s_zz) (gb_3 K t) bl) (Ag s_zz)=t_zz K t:=by kernel_rfl
theorem a93:Ai N_zz P_zz (Aa s_zz):=⟨rfl,rfl,rfl,by decide +kernel,rfl,by decide +kernel,by decide +kernel⟩
theorem be3:Am N_zz (Aa s_zz)=true:=by decide +kernel
def t_zl (K:PySem.W.Frag) (t:Adr):DS:=
 (dSeq (dIf (dOr (dNot (dTru K (dFn (fun vs H Q _=>(rIsi K) vs H Q) (Ab (dVar 0) (Ab (dC (.ty "list")) dNil))))) (dNot (dTst (Cy rLeD rLeD (dC (.int 1)) (dFn (fun vs H Q _=>(rLen K) vs H Q) (Ab (dVar 0) dNil)) (dC (.int 5)))))) (dSeq (Be K (dFn (fun vs H Q E=>vs.length <= 1000 /\ mkX t.c_zax none 0 vs H Q E) (Ab (dC (.str "the switches are no list of one to five")) dNil)))
  Ae) Ae)
 (dSeq (dSet 1 Ds)
 (dSeq (dSet 2 (dC (.int 1)))
 (dSeq (dFor (iVal K (dVar 0)) (gdN 3) (dSeq (dIf (dOr (dNot (dTru K (dFn (spE (Ym K t) []) (Ab (dVar 3) dNil)))) (dTst (dBin (rInD K false) (dBin (rIxD K) (dVar 3) (dC (.int 0))) (dVar 1)))) (dSeq (Be K (dFn (fun vs H Q E=>vs.length <= 1000 /\ mkX t.c_zax none 0 vs H Q E) (Ab (dC (.str "this is no switch, or it stands there twice")) dNil)))
   Ae) Ae)
  (dSeq (dAsg (dFn (fun vs H Q _=>(Cb K) vs H Q) (Ab (dBin (rIxD K) (dVar 3) (dC (.int 1))) dNil)) (Cm K (dVar 1) (dBin (rIxD K) (dVar 3) (dC (.int 0)))))
  (dSeq (dSet 2 (dBin Br (dVar 2) (dFn (fun vs H Q _=>(rLen K) vs H Q) (Ab (dBin (rIxD K) (dVar 3) (dC (.int 1))) dNil))))
  Ae))))
 (dSeq (dIf (dTst (dBin rGtD (dVar 2) (dC (.int 256)))) (dSeq (Be K (dFn (fun vs H Q E=>vs.length <= 1000 /\ mkX t.c_zax none 0 vs H Q E) (Ab (dC (.str "there are too many choices")) dNil)))
  Ae) Ae)
 (dSeq (dRet (dVar 1))
 Ae))))))
theorem a53 (K:PySem.W.Frag) (t:Adr):wSs 40 (defG K N_zl (Aa s_zl) (gb_4 K t) bl) (Ag s_zl)=t_zl K t:=by kernel_rfl
theorem a79:Ai N_zl P_zl (Aa s_zl):=⟨rfl,rfl,rfl,by decide +kernel,rfl,by decide +kernel,by decide +kernel⟩
theorem bc9:Am N_zl (Aa s_zl)=true:=by decide +kernel
def t_zb (K:PySem.W.Frag) (t:Adr):DS:=
 (dSeq (dSet 1 (dLst (Ab (dTup dNil) dNil)))
 (dSeq (dFor (iVal K (dVar 0)) (gdN 2) (dSeq (dSet 3 (dLst dNil))
  (dSeq (dFor (iVal K (dVar 1)) (gdN 4) (dSeq (B9 (dMt (rMt K [⟨"list", "list.extend", Ho⟩]) (dVar 3) (Ab (Bp [none,some 4] (iVal K (dBin (rIxD K) (dVar 0) (dVar 2))) (gdN 0) dYes (dBin (Aq K) (dVar 1) (dTup (Ab (dVar 0) dNil)))) dNil)))
   Ae))
  (dSeq (dSet 1 (dVar 3))
  Ae))))
 (dSeq (dRet (dVar 1))
 Ae)))
theorem a43 (K:PySem.W.Frag) (t:Adr):wSs 40 (defG K N_zb (Aa s_zb) (gb_0 K t) bl) (Ag s_zb)=t_zb K t:=by kernel_rfl
theorem a69:Ai N_zb P_zb (Aa s_zb):=⟨rfl,rfl,rfl,by decide +kernel,rfl,by decide +kernel,by decide +kernel⟩
theorem bb9:Am N_zb (Aa s_zb)=true:=by decide +kernel
def t_za (K:PySem.W.Frag) (t:Adr):DS:=
 (dSeq (dSet 1 Ds)
 (dSeq (dFor (iEn K (Ab (dVar 0) dNil)) (gdT K 2 [(gdN 2),(gdN 3)]) (dSeq (dAsg (dVar 2) (Cm K (dVar 1) (dVar 3)))
  Ae))
 (dSeq (dRet (dVar 1))
 Ae)))
theorem a42 (K:PySem.W.Frag) (t:Adr):wSs 40 (defG K N_za (Aa s_za) (gb_0 K t) bl) (Ag s_za)=t_za K t:=by kernel_rfl
theorem a68:Ai N_za P_za (Aa s_za):=⟨rfl,rfl,rfl,by decide +kernel,rfl,by decide +kernel,by decide +kernel⟩
theorem bb8:Am N_za (Aa s_za)=true:=by decide +kernel
def bb6 (K:PySem.W.Frag) (t:Adr):DS:=
 (dSeq (dSet 1 (dC (.int 0)))
 (dSeq (dFor (iVal K (dVar 0)) (gdN 2) (dSeq (dSet 1 (dBin rOrD (dVar 1) (dBin Oi (dC (.int 1)) (dVar 2))))
  Ae))
 (dSeq (dRet (dVar 1))
 Ae)))
theorem at5 (K:PySem.W.Frag) (t:Adr):wSs 40 (defG K Vu (Aa Jq) (gb_0 K t) bl) (Ag Jq)=bb6 K t:=by kernel_rfl
theorem av4:Ai Vu Nc (Aa Jq):=⟨rfl,rfl,rfl,by decide +kernel,rfl,by decide +kernel,by decide +kernel⟩
theorem ax7:Am Vu (Aa Jq)=true:=by decide +kernel
def t_zg (K:PySem.W.Frag) (t:Adr):DS:=
 (dSeq (dSet 2 Ds)
 (dSeq (dFor (iEn K (Ab (dVar 0) dNil)) (gdT K 2 [(gdN 3),(gdN 4)]) (dSeq (dAsg Ds (Cm K (dVar 2) (dVar 4)))
  (dSeq (dFor (iVal K (dBin (rIxD K) (dVar 0) (dVar 4))) (gdN 5) (dSeq (dSet 6 (Bp [none,none,some 3,some 5] (iEn K (Ab (dVar 1) dNil)) (gdT K 2 [(gdN 0),(gdN 1)]) (dTst (dBin (rEqD K false) (dBin (rIxD K) (dVar 1) (dVar 2)) (dVar 3))) (dVar 0)))
   (dSeq (dAsg (dFn (spE (Qm K t) []) (Ab (dVar 6) dNil)) (Cm K (dBin (rIxD K) (dVar 2) (dVar 4)) (dVar 5)))
   Ae)))
  Ae)))
 (dSeq (dRet (dVar 2))
 Ae)))
theorem a48 (K:PySem.W.Frag) (t:Adr):wSs 40 (defG K N_zg (Aa s_zg) (gb_1 K t) bl) (Ag s_zg)=t_zg K t:=by kernel_rfl
theorem a74:Ai N_zg P_zg (Aa s_zg):=⟨rfl,rfl,rfl,by decide +kernel,rfl,by decide +kernel,by decide +kernel⟩
theorem bc4:Am N_zg (Aa s_zg)=true:=by decide +kernel
def t_zr (K:PySem.W.Frag) (t:Adr):DS:=
 (dSeq (dFld K "settings" (dVar 0) (dFn (spE (Yf K t) []) (Ab (dVar 1) dNil)))
 (dSeq (dFld K "tuples" (dVar 0) (dFn (spE (Yc K t) []) (Ab (dUn (B0 K "settings") (dVar 0)) dNil)))
 (dSeq (dFld K "numbers" (dVar 0) (dFn (spE (Yb K t) []) (Ab (dUn (B0 K "tuples") (dVar 0)) dNil)))
 (dSeq (dFld K "sets" (dVar 0) (dFn (spE (Yd K t) []) (Ab (dUn (B0 K "settings") (dVar 0)) (Ab (dUn (B0 K "tuples") (dVar 0)) dNil))))
 (dSeq (dFld K "kept_rules" (dVar 0) (dOwn "read_rules" 1 (Cz K t) (dVar 0) (Ab (dVar 2) dNil)))
 (dSeq (dFld K "bars" (dVar 0) (Bp [none,some 0] (iVal K (dUn (B0 K "kept_rules") (dVar 0))) (gdN 0) dYes (dOwn "box" 1 (F7 K t) (dVar 1) (Ab (dVar 0) dNil))))
 (dSeq (dFld K "free" (dVar 0) (dBin Gr (dOwn "all_choices" 0 (Bh K t) (dVar 0) dNil) (dUn Rs (dFn (spE (Mq K t) []) (Ab (dUn (B0 K "bars") (dVar 0)) dNil)))))
 (dSeq (dIf (dTst (dBin (rEqD K false) (dUn (B0 K "free") (dVar 0)) (dC (.int 0)))) (dSeq (Be K (dFn (fun vs H Q E=>vs.length <= 1000 /\ mkX t.c_zay none 0 vs H Q E) (Ab (dC (.str "the rules bar every choice")) dNil)))
  Ae) Ae)
 Ae))))))))
theorem a59 (K:PySem.W.Frag) (t:Adr):wSs 40 (defG K N_zr (Aa s_zr) (gb_7 K t) bl) (Ag s_zr)=t_zr K t:=by kernel_rfl
theorem a85:Ai N_zr P_zr (Aa s_zr):=⟨rfl,rfl,rfl,by decide +kernel,rfl,by decide +kernel,by decide +kernel⟩
theorem bd5:Am N_zr (Aa s_zr)=true:=by decide +kernel
def t_zq (K:PySem.W.Frag) (t:Adr):DS:=
 (dSeq (dIf (dTst (dBin rLtD (dVar 1) (dFn (fun vs H Q _=>(rLen K) vs H Q) (Ab (dVar 0) dNil)))) (dSeq (dRet (dBin (rIxD K) (dVar 0) (dVar 1)))
  Ae) Ae)
 (dSeq (dRet (dC (.int 0)))
 Ae))
theorem a58 (K:PySem.W.Frag) (t:Adr):wSs 40 (defG K N_zq (Aa s_zq) (gb_0 K t) bl) (Ag s_zq)=t_zq K t:=by kernel_rfl
theorem a84:Ai N_zq P_zq (Aa s_zq):=⟨rfl,rfl,rfl,by decide +kernel,rfl,by decide +kernel,by decide +kernel⟩
theorem bd4:Am N_zq (Aa s_zq)=true:=by decide +kernel
def bb3 (K:PySem.W.Frag) (t:Adr):DS:=
 (dSeq (dSet 2 (dBin Ru (dVar 0) (dBin (Aq K) (dBin Br (dC (.int 27)) (dVar 1)) (dC (.int 1)))))
 (dSeq (dIf (dAnd (dTst (dBin (rEqD K false) (dBin A8 (dVar 0) (dC (.int 2))) (dC (.int 0)))) (dTst (dBin (rInD K true) (dVar 2) (dTup (Ab (dC (.int 0)) (Ab (dUn Fl (dC (.int 1))) dNil)))))) (dSeq (dRet (dBin Gr (dVar 2) (dC (.int 134217727))))
  Ae) Ae)
 (dSeq (dSet 3 (dBin A8 (dBin Br (dBin (Aq K) (dBin A8 (dVar 0) (dC (.int 1000000007))) (dBin Br (dC (.int 7919)) (dVar 1))) (dC (.int 48271))) (dC (.int 2147483647))))
 (dSeq (dSet 3 (dBin A8 (dBin Br (dVar 3) (dVar 3)) (dC (.int 2147483629))))
 (dSeq (dRet (dBin A8 (dBin Br (dVar 3) (dBin (Aq K) (dVar 3) (dC (.int 3)))) (dC (.int 2147483587))))
 Ae)))))
theorem at0 (K:PySem.W.Frag) (t:Adr):wSs 40 (defG K Vr (Aa Jn) (gb_0 K t) bl) (Ag Jn)=bb3 K t:=by kernel_rfl
theorem av1:Ai Vr M9 (Aa Jn):=⟨rfl,rfl,rfl,by decide +kernel,rfl,by decide +kernel,by decide +kernel⟩
theorem ax4:Am Vr (Aa Jn)=true:=by decide +kernel
def ba4 (K:PySem.W.Frag) (t:Adr):DS:=
 (dSeq (dSet 2 (dC (.str "abcdefghijklmnopqrstuvwxyz")))
 (dSeq (dSet 3 (dFn (spE (Dk K t) []) (Ab (dVar 0) (Ab (dC (.int 1)) dNil))))
 (dSeq (dIf (dTst (dBin (rEqD K false) (dBin A8 (dBin C2 (dVar 3) (dC (.int 64))) (dC (.int 3))) (dC (.int 0)))) (dSeq (dSet 4 (dMt (rMt K [⟨"str", "str.join", Rt K⟩]) (dC (.str "")) (Ab (Bp [none,some 0,some 2] (iRng (Ab (dC (.int 8)) dNil)) (gdN 0) dYes (dBin (rIxD K) (dVar 2) (dBin A8 (dFn (spE (Dk K t) []) (Ab (dVar 1) (Ab (dBin (Aq K) (dC (.int 2)) (dVar 0)) dNil))) (dC (.int 26))))) dNil)))
  (dSeq (dRet (Bp [none,some 4,some 3] (iRng (Ab (dVar 1) dNil)) (gdN 0) dYes (dSl K (dVar 1) En (Fb (dBin (Aq K) (dC (.int 1)) (dBin A8 (dBin (Aq K) (dBin C2 (dVar 2) (dC (.int 192))) (dBin Br (dC (.int 3)) (dVar 0))) (dC (.int 8))))))))
  Ae)) Ae)
 (dSeq (dSet 6 (dBin (Aq K) (dC (.int 1)) (dBin A8 (dVar 3) (dC (.int 8)))))
 (dSeq (dSet 7 (dBin A8 (dBin C2 (dVar 3) (dC (.int 8))) (dVar 6)))
 (dSeq (dSet 8 (dLst dNil))
 (dSeq (dFor (iRng (Ab (dVar 1) dNil)) (gdN 5) (dSeq (dSet 9 (Bp [none,some 7,some 0,some 5,some 2] (iRng (Ab (dVar 6) dNil)) (gdN 0) dYes (dBin (rIxD K) (dVar 4) (dBin A8 (dBin (Aq K) (dFn (spE (Dk K t) []) (Ab (dVar 2) (Ab (dBin (Aq K) (dC (.int 2)) (dVar 0)) dNil))) (dBin Br (dBin Br (dC (.int 5)) (dVar 3)) (dFn (fun vs H Q _=>rInt vs H Q) (Ab (dBin (rEqD K false) (dVar 0) (dVar 1)) dNil)))) (dC (.int 26))))))
  (dSeq (B9 (dMt (rMt K [⟨"list", "list.append", B8⟩]) (dVar 8) (Ab (dMt (rMt K [⟨"str", "str.join", Rt K⟩]) (dC (.str "")) (Ab (dVar 9) dNil)) dNil)))
  Ae)))
 (dSeq (dRet (dVar 8))
 Ae))))))))
theorem as1 (K:PySem.W.Frag) (t:Adr):wSs 40 (defG K Vi (Aa Je) (gb_1 K t) bl) (Ag Je)=ba4 K t:=by kernel_rfl
theorem au2:Ai Vi M0 (Aa Je):=⟨rfl,rfl,rfl,by decide +kernel,rfl,by decide +kernel,by decide +kernel⟩
theorem aw5:Am Vi (Aa Je)=true:=by decide +kernel
def t_zn (K:PySem.W.Frag) (t:Adr):DS:=
 (dSeq (dSet 2 (dFn (spE (Jt K t) []) (Ab (dVar 0) (Ab (dC (.int 5)) dNil))))
 (dSeq (dSet 3 (dLst dNil))
 (dSeq (dSet 4 (dC (.int 1)))
 (dSeq (dFor (iRng (Ab (dBin (Aq K) (dC (.int 1)) (dBin A8 (dFn (spE (Dk K t) []) (Ab (dVar 0) (Ab (dC (.int 20)) dNil))) (dC (.int 5)))) dNil)) (gdN 5) (dSeq (dSet 6 (dBin (Aq K) (dC (.int 2)) (dBin A8 (dFn (spE (Dk K t) []) (Ab (dVar 0) (Ab (dBin (Aq K) (dC (.int 21)) (dVar 5)) dNil))) (dC (.int 3)))))
  (dSeq (dIf (dTst (dBin rGtD (dBin Br (dVar 4) (dVar 6)) (dVar 1))) (dSeq (dSet 6 (dC (.int 2)))
   Ae) Ae)
  (dSeq (dIf (dTst (dBin rLeD (dBin Br (dVar 4) (dVar 6)) (dVar 1))) (dSeq (dSet 4 (dBin Br (dVar 4) (dVar 6)))
   (dSeq (B9 (dMt (rMt K [⟨"list", "list.append", B8⟩]) (dVar 3) (Ab (dTup (Ab (dBin (rIxD K) (dVar 2) (dVar 5)) (Ab (dFn (spE (Jt K t) []) (Ab (dBin (Aq K) (dBin (Aq K) (dVar 0) (dVar 5)) (dC (.int 1))) (Ab (dVar 6) dNil))) dNil))) dNil)))
   Ae)) Ae)
  Ae))))
 (dSeq (dRet (dVar 3))
 Ae)))))
theorem a55 (K:PySem.W.Frag) (t:Adr):wSs 40 (defG K N_zn (Aa s_zn) (gb_2 K t) bl) (Ag s_zn)=t_zn K t:=by kernel_rfl
theorem a81:Ai N_zn P_zn (Aa s_zn):=⟨rfl,rfl,rfl,by decide +kernel,rfl,by decide +kernel,by decide +kernel⟩
theorem bd1:Am N_zn (Aa s_zn)=true:=by decide +kernel
def ba8 (K:PySem.W.Frag) (t:Adr):DS:=
 (dSeq (dSet 1 (dLst (Ab (dLst dNil) dNil)))
 (dSeq (dFor (iVal K (dVar 0)) (gdT K 2 [(gdN 2),(gdN 3)]) (dSeq (dSet 4 (dLst dNil))
  (dSeq (dFor (iVal K (dVar 1)) (gdN 5) (dSeq (dFor (iVal K (dVar 3)) (gdN 6) (dSeq (B9 (dMt (rMt K [⟨"list", "list.append", B8⟩]) (dVar 4) (Ab (dBin (Aq K) (dVar 5) (dLst (Ab (dVar 6) dNil))) dNil)))
    Ae))
   Ae))
  (dSeq (dSet 1 (dVar 4))
  Ae))))
 (dSeq (dRet (dVar 1))
 Ae)))
theorem as5 (K:PySem.W.Frag) (t:Adr):wSs 40 (defG K Vm (Aa Ji) (gb_0 K t) bl) (Ag Ji)=ba8 K t:=by kernel_rfl
theorem au6:Ai Vm M4 (Aa Ji):=⟨rfl,rfl,rfl,by decide +kernel,rfl,by decide +kernel,by decide +kernel⟩
theorem aw9:Am Vm (Aa Ji)=true:=by decide +kernel
def ba7 (K:PySem.W.Frag) (t:Adr):DS:=
 (dSeq (dFor (iEn K (Ab (dVar 1) dNil)) (gdT K 2 [(gdN 3),(gdN 4)]) (dSeq (dIf (dAnd (dTst (dBin (rInD K false) (dBin (rIxD K) (dVar 4) (dC (.int 0))) (dVar 0))) (dTst (dBin (rInD K true) (dBin (rIxD K) (dVar 2) (dVar 3)) (dBin (rIxD K) (dVar 0) (dBin (rIxD K) (dVar 4) (dC (.int 0))))))) (dSeq (dRet (dC (.bl false)))
   Ae) Ae)
  Ae))
 (dSeq (dRet (dC (.bl true)))
 Ae))
theorem as4 (K:PySem.W.Frag) (t:Adr):wSs 40 (defG K Vl (Aa Jh) (gb_0 K t) bl) (Ag Jh)=ba7 K t:=by kernel_rfl
theorem au5:Ai Vl M3 (Aa Jh):=⟨rfl,rfl,rfl,by decide +kernel,rfl,by decide +kernel,by decide +kernel⟩
theorem aw8:Am Vl (Aa Jh)=true:=by decide +kernel
def ba3 (K:PySem.W.Frag) (t:Adr):DS:=
 (dSeq (dSet 2 Ds)
 (dSeq (dFor (iEn K (Ab (dVar 1) dNil)) (gdT K 2 [(gdN 3),(gdN 4)]) (dSeq (dSet 5 (dFn (spE (Dk K t) []) (Ab (dVar 0) (Ab (dBin (Aq K) (dC (.int 10)) (dVar 3)) dNil))))
  (dSeq (dSet 6 (Bp [none,none,some 5] (iEn K (Ab (dBin (rIxD K) (dVar 4) (dC (.int 1))) dNil)) (gdT K 2 [(gdN 0),(gdN 1)]) (dTst (dBin (rEqD K false) (dBin Gr (dBin Ru (dBin C2 (dVar 2) (dC (.int 3))) (dVar 0)) (dC (.int 1))) (dC (.int 1)))) (dVar 1)))
  (dSeq (dIf (dAnd (dTst (dBin (rEqD K false) (dBin A8 (dVar 5) (dC (.int 3))) (dC (.int 0)))) (dTst (dBin (rEqD K true) (dVar 6) (dLst dNil)))) (dSeq (dAsg (dVar 6) (Cm K (dVar 2) (dBin (rIxD K) (dVar 4) (dC (.int 0)))))
   Ae) Ae)
  Ae))))
 (dSeq (dRet (dVar 2))
 Ae)))
theorem as0 (K:PySem.W.Frag) (t:Adr):wSs 40 (defG K Vh (Aa Jd) (gb_1 K t) bl) (Ag Jd)=ba3 K t:=by kernel_rfl
theorem au1:Ai Vh Mz (Aa Jd):=⟨rfl,rfl,rfl,by decide +kernel,rfl,by decide +kernel,by decide +kernel⟩
theorem aw4:Am Vh (Aa Jd)=true:=by decide +kernel
def ba2 (K:PySem.W.Frag) (t:Adr):DS:=
 (dSeq (dSet 2 (dLst dNil))
 (dSeq (dSet 3 (dFn (spE (Mo K t) []) (Ab (dVar 1) dNil)))
 (dSeq (dFor (iRng (Ab (dBin A8 (dFn (spE (Dk K t) []) (Ab (dVar 0) (Ab (dC (.int 1)) dNil))) (dC (.int 4))) dNil)) (gdN 4) (dSeq (dSet 5 (dFn (spE (Mn K t) []) (Ab (dBin (Aq K) (dVar 0) (dBin Br (dC (.int 101)) (dVar 4))) (Ab (dVar 1) dNil))))
  (dSeq (dSet 6 (Bp [none,some 5,some 1] (iVal K (dVar 3)) (gdN 0) (dNot (dTru K (dFn (spE (Ju K t) []) (Ab (dVar 1) (Ab (dVar 2) (Ab (dVar 0) dNil)))))) (dVar 0)))
  (dSeq (dIf (dAnd (dTst (dBin (rEqD K true) (dVar 5) Ds)) (dTst (dBin (rEqD K true) (dVar 6) (dLst dNil)))) (dSeq (B9 (dMt (rMt K [⟨"list", "list.append", B8⟩]) (dVar 2) (Ab (dVar 5) dNil)))
   (dSeq (dSet 3 (dVar 6))
   Ae)) Ae)
  Ae))))
 (dSeq (dRet (dVar 2))
 Ae))))
theorem ar9 (K:PySem.W.Frag) (t:Adr):wSs 40 (defG K Vg (Aa Jc) (gb_2 K t) bl) (Ag Jc)=ba2 K t:=by kernel_rfl
theorem au0:Ai Vg Mx (Aa Jc):=⟨rfl,rfl,rfl,by decide +kernel,rfl,by decide +kernel,by decide +kernel⟩
theorem aw3:Am Vg (Aa Jc)=true:=by decide +kernel
def ba9 (K:PySem.W.Frag) (t:Adr):DS:=
 (dSeq (dSet 2 (dFn (spE (Mn K t) []) (Ab (dBin C2 (dVar 0) (dC (.int 4))) (Ab (dVar 1) dNil))))
 (dSeq (dIf (dTst (dBin rGtD (dBin A8 (dVar 0) (dC (.int 8))) (dC (.int 3)))) (dSeq (dFor (iVal K (dVar 2)) (gdN 3) (dSeq (B9 (dMt (rMt K [⟨"list", "list.reverse", Fm⟩]) (dBin (rIxD K) (dVar 2) (dVar 3)) dNil))
   Ae))
  Ae) Ae)
 (dSeq (dRet (dVar 2))
 Ae)))
theorem as6 (K:PySem.W.Frag) (t:Adr):wSs 40 (defG K Vn (Aa Jj) (gb_2 K t) bl) (Ag Jj)=ba9 K t:=by kernel_rfl
theorem au7:Ai Vn M5 (Aa Jj):=⟨rfl,rfl,rfl,by decide +kernel,rfl,by decide +kernel,by decide +kernel⟩
theorem ax0:Am Vn (Aa Jj)=true:=by decide +kernel
def bb2 (K:PySem.W.Frag) (t:Adr):DS:=
 (dSeq (dAsg (dBin (rIxD K) (dVar 0) (dBin A8 (dVar 1) (dFn (fun vs H Q _=>(rLen K) vs H Q) (Ab (dVar 0) dNil)))) (gdT K 2 [(gdN 2),(gdN 3)]))
 (dSeq (dSet 4 (dLst (Ab (Bq [((dVar 2),(dLst dNil))]) (Ab (Bq [((dVar 2),(dBin (rIxD K) (dVar 3) (dC (.int 0))))]) (Ab (Bq [((dVar 2),(dFn (fun vs H Q _=>(Cb K) vs H Q) (Ab (dVar 3) dNil)))]) (Ab (Bq [((dVar 2),(dBin (Aq K) (dVar 3) (dSl K (dVar 3) (Fb (dUn Fl (dC (.int 1)))) En)))]) dNil))))))
 (dSeq (dSet 4 (dBin (Aq K) (dVar 4) (dLst (Ab (Bq [((dVar 2),(dLst (Ab (dC (.str "No")) dNil)))]) (Ab (Bq [((dC (.str "no.")),(dFn (fun vs H Q _=>(A5 K) vs H Q) (Ab (dVar 3) dNil)))]) (Ab (Bq [((dVar 2),(dFn (fun vs H Q _=>(A5 K) vs H Q) (Ab (dVar 3) dNil))),((dC (.int 1)),(dLst (Ab (dC (.str "a")) dNil)))]) (Ab (Bq [((dVar 2),(dC .non))]) dNil)))))))
 (dSeq (dRet (dBin (rIxD K) (dBin (Aq K) (dVar 4) (dLst (Ab (dC .non) (Ab (dLst (Ab (dTup (Ab (dVar 2) (Ab (dFn (fun vs H Q _=>(A5 K) vs H Q) (Ab (dVar 3) dNil)) dNil))) dNil)) (Ab (dVar 2) (Ab (dC (.int 0)) dNil)))))) (dBin A8 (dBin C2 (dVar 1) (dC (.int 5))) (dC (.int 12)))))
 Ae))))
theorem as9 (K:PySem.W.Frag) (t:Adr):wSs 40 (defG K Vq (Aa Jm) (gb_0 K t) bl) (Ag Jm)=bb2 K t:=by kernel_rfl
theorem av0:Ai Vq M8 (Aa Jm):=⟨rfl,rfl,rfl,by decide +kernel,rfl,by decide +kernel,by decide +kernel⟩
theorem ax3:Am Vq (Aa Jm)=true:=by decide +kernel
def ba1 (K:PySem.W.Frag) (t:Adr):DS:=
 (dSeq (dSet 2 (dC .non))
 (dSeq (dTry K (dSeq (dSet 2 (dOwn "box" 1 (F7 K t) (dVar 0) (Ab (dVar 1) dNil)))
  Ae) [(t.c_zaz,none,(dSeq (dSet 2 (dC (.str "none")))
  Ae))])
 (dSeq (dRet (dVar 2))
 Ae)))
theorem ar8 (K:PySem.W.Frag) (t:Adr):wSs 40 (defG K Vf (Aa Jb) (gb_5 K t) bl) (Ag Jb)=ba1 K t:=by kernel_rfl
theorem at9:Ai Vf Mw (Aa Jb):=⟨rfl,rfl,rfl,by decide +kernel,rfl,by decide +kernel,by decide +kernel⟩
theorem aw2:Am Vf (Aa Jb)=true:=by decide +kernel
def bb4 (K:PySem.W.Frag) (t:Adr):DS:=
 (dSeq (dSet 3 (dC (.int 0)))
 (dSeq (dFor (iEn K (Ab (dVar 1) dNil)) (gdT K 2 [(gdN 4),(gdN 5)]) (dSeq (dIf (dTru K (dFn (spE (Ju K t) []) (Ab (dVar 2) (Ab (dVar 0) (Ab (dVar 5) dNil))))) (dSeq (dSet 3 (dBin rOrD (dVar 3) (dBin Oi (dC (.int 1)) (dVar 4))))
   Ae) Ae)
  Ae))
 (dSeq (dRet (dVar 3))
 Ae)))
theorem at3 (K:PySem.W.Frag) (t:Adr):wSs 40 (defG K Vs (Aa Jo) (gb_1 K t) bl) (Ag Jo)=bb4 K t:=by kernel_rfl
theorem av2:Ai Vs Na (Aa Jo):=⟨rfl,rfl,rfl,by decide +kernel,rfl,by decide +kernel,by decide +kernel⟩
theorem ax5:Am Vs (Aa Jo)=true:=by decide +kernel
def t_zw (K:PySem.W.Frag) (t:Adr):DS:=
 (dSeq (dSet 1 (dLst dNil))
 (dSeq (dFor (iVal K (dVar 0)) (gdN 2) (dSeq (B9 (dMt (rMt K [⟨"list", "list.append", B8⟩]) (dVar 1) (Ab Ds dNil)))
  (dSeq (dFor (iVal K (dVar 2)) (gdN 3) (dSeq (dAsg (dFn (fun vs H Q _=>(A5 K) vs H Q) (Ab (dBin (rIxD K) (dVar 2) (dVar 3)) dNil)) (Cm K (dBin (rIxD K) (dVar 1) (dUn Fl (dC (.int 1)))) (dVar 3)))
   Ae))
  Ae)))
 (dSeq (dRet (dVar 1))
 Ae)))
theorem a64 (K:PySem.W.Frag) (t:Adr):wSs 40 (defG K N_zw (Aa s_zw) (gb_0 K t) bl) (Ag s_zw)=t_zw K t:=by kernel_rfl
theorem a90:Ai N_zw P_zw (Aa s_zw):=⟨rfl,rfl,rfl,by decide +kernel,rfl,by decide +kernel,by decide +kernel⟩
theorem be0:Am N_zw (Aa s_zw)=true:=by decide +kernel
def t_zo (K:PySem.W.Frag) (t:Adr):DS:=
 (dSeq (dRet (Bp [none] (iVal K (dUn (B0 K "kept_rules") (dVar 0))) (gdN 0) dYes (dFn (spE (R5 K t) []) (Ab (dVar 0) dNil))))
 Ae)
theorem a56 (K:PySem.W.Frag) (t:Adr):wSs 40 (defG K N_zo (Aa s_zo) (gb_1 K t) bl) (Ag s_zo)=t_zo K t:=by kernel_rfl
theorem a82:Ai N_zo P_zo (Aa s_zo):=⟨rfl,rfl,rfl,by decide +kernel,rfl,by decide +kernel,by decide +kernel⟩
theorem bd2:Am N_zo (Aa s_zo)=true:=by decide +kernel
def t_zj (K:PySem.W.Frag) (t:Adr):DS:=
 (dSeq (dSet 2 (dOwn "rules" 0 (Fj K t) (dVar 0) dNil))
 (dSeq (dIf (dOr (dNot (dTru K (dFn (fun vs H Q _=>(rIsi K) vs H Q) (Ab (dVar 2) (Ab (dC (.ty "list")) dNil))))) (dTst (dBin (rEqD K true) (dVar 2) (dVar 1)))) (dSeq (dRet (dC (.bl false)))
  Ae) Ae)
 (dSeq (dFor (iVal K (dVar 2)) (gdN 3) (dSeq (dFor (iVal K (dVar 3)) (gdN 4) (dSeq (B9 (dMt (rMt K [⟨"list", "list.append", B8⟩]) (dBin (rIxD K) (dVar 3) (dVar 4)) (Ab (dC (.str "x")) dNil)))
   Ae))
  (dSeq (B9 (dMt (rMt K [⟨"list", "list.clear", Iy⟩,⟨"dict", "dict.clear", Ei⟩]) (dVar 3) dNil))
  Ae)))
 (dSeq (dRet (dBin (rEqD K false) (dOwn "rules" 0 (Fj K t) (dVar 0) dNil) (dVar 1)))
 Ae))))
theorem a51 (K:PySem.W.Frag) (t:Adr):wSs 40 (defG K N_zj (Aa s_zj) (gb_2 K t) bl) (Ag s_zj)=t_zj K t:=by kernel_rfl
theorem a77:Ai N_zj P_zj (Aa s_zj):=⟨rfl,rfl,rfl,by decide +kernel,rfl,by decide +kernel,by decide +kernel⟩
theorem bc7:Am N_zj (Aa s_zj)=true:=by decide +kernel
def t_zh (K:PySem.W.Frag) (t:Adr):DS:=
 (dSeq (dIf (dOr (dNot (dTru K (dFn (fun vs H Q _=>(rIsi K) vs H Q) (Ab (dVar 1) (Ab (dTup (Ab (dC (.ty "list")) (Ab (dC (.ty "tuple")) dNil))) dNil))))) (dNot (dTru K (dFn (fun vs H Q _=>(rAll K) vs H Q) (Ab (Bp [none] (iVal K (dVar 1)) (gdN 0) dYes (dFn (fun vs H Q _=>(rIsi K) vs H Q) (Ab (dVar 0) (Ab (dC (.ty "str")) dNil)))) dNil))))) (dSeq (Be K (dFn (fun vs H Q E=>vs.length <= 1000 /\ mkX t.c_zay none 0 vs H Q E) (Ab (dC (.str "these are no settings of a choice")) dNil)))
  Ae) Ae)
 (dSeq (dSet 2 (dMt (rMt K [⟨"dict", "dict.get", Oh⟩]) (dUn (B0 K "numbers") (dVar 0)) (Ab (dFn (fun vs H Q _=>(Cb K) vs H Q) (Ab (dVar 1) dNil)) dNil)))
 (dSeq (dIf (dTst (dBin (rIsD false) (dVar 2) (dC .non))) (dSeq (Be K (dFn (fun vs H Q E=>vs.length <= 1000 /\ mkX t.c_zay none 0 vs H Q E) (Ab (dC (.str "these are no settings of a choice")) dNil)))
  Ae) Ae)
 (dSeq (dRet (dVar 2))
 Ae))))
theorem a49 (K:PySem.W.Frag) (t:Adr):wSs 40 (defG K N_zh (Aa s_zh) (gb_0 K t) bl) (Ag s_zh)=t_zh K t:=by kernel_rfl
theorem a75:Ai N_zh P_zh (Aa s_zh):=⟨rfl,rfl,rfl,by decide +kernel,rfl,by decide +kernel,by decide +kernel⟩
theorem bc5:Am N_zh (Aa s_zh)=true:=by decide +kernel
def ba5 (K:PySem.W.Frag) (t:Adr):DS:=
 (dSeq (dRet (Kn K (dFn (fun vs H Q _=>(rIsi K) vs H Q) (Ab (dVar 0) (Ab (dC (.ty "int")) dNil))) (V7 K (dFn (fun vs H Q _=>(rIsi K) vs H Q) (Ab (dVar 0) (Ab (dC (.ty "bool")) dNil))))))
 Ae)
theorem as2 (K:PySem.W.Frag) (t:Adr):wSs 40 (defG K Vj (Aa Jf) (gb_0 K t) bl) (Ag Jf)=ba5 K t:=by kernel_rfl
theorem au3:Ai Vj M1 (Aa Jf):=⟨rfl,rfl,rfl,by decide +kernel,rfl,by decide +kernel,by decide +kernel⟩
theorem aw6:Am Vj (Aa Jf)=true:=by decide +kernel
def t_zd (K:PySem.W.Frag) (t:Adr):DS:=
 (dSeq (dIf (dOr (dNot (dTru K (dFn (spE (Qi K t) []) (Ab (dVar 1) dNil)))) (dNot (dTst (Cy rLeD rLtD (dC (.int 0)) (dVar 1) (dOwn "many" 0 (Hk K t) (dVar 0) dNil))))) (dSeq (Be K (dFn (fun vs H Q E=>vs.length <= 1000 /\ mkX t.c_zay none 0 vs H Q E) (Ab (dC (.str "this is no number of a choice")) dNil)))
  Ae) Ae)
 Ae)
theorem a45 (K:PySem.W.Frag) (t:Adr):wSs 40 (defG K N_zd (Aa s_zd) (gb_1 K t) bl) (Ag s_zd)=t_zd K t:=by kernel_rfl
theorem a71:Ai N_zd P_zd (Aa s_zd):=⟨rfl,rfl,rfl,by decide +kernel,rfl,by decide +kernel,by decide +kernel⟩
theorem bc1:Am N_zd (Aa s_zd)=true:=by decide +kernel
def t_zu (K:PySem.W.Frag) (t:Adr):DS:=
 (dSeq (B9 (dOwn "need_number" 1 (Bz K t) (dVar 0) (Ab (dVar 1) dNil)))
 (dSeq (dRet (dBin (rIxD K) (dUn (B0 K "tuples") (dVar 0)) (dVar 1)))
 Ae))
theorem a62 (K:PySem.W.Frag) (t:Adr):wSs 40 (defG K N_zu (Aa s_zu) (gb_2 K t) bl) (Ag s_zu)=t_zu K t:=by kernel_rfl
theorem a88:Ai N_zu P_zu (Aa s_zu):=⟨rfl,rfl,rfl,by decide +kernel,rfl,by decide +kernel,by decide +kernel⟩
theorem bd8:Am N_zu (Aa s_zu)=true:=by decide +kernel
def t_zk (K:PySem.W.Frag) (t:Adr):DS:=
 (dSeq (dRet (dUn (B0 K "free") (dVar 0)))
 Ae)
theorem a52 (K:PySem.W.Frag) (t:Adr):wSs 40 (defG K N_zk (Aa s_zk) (gb_0 K t) bl) (Ag s_zk)=t_zk K t:=by kernel_rfl
theorem a78:Ai N_zk P_zk (Aa s_zk):=⟨rfl,rfl,rfl,by decide +kernel,rfl,by decide +kernel,by decide +kernel⟩
theorem bc8:Am N_zk (Aa s_zk)=true:=by decide +kernel
def bb5 (K:PySem.W.Frag) (t:Adr):DS:=
 (dSeq (dRet (dBin (rEqD K false) (dBin Gr (dBin Ru (dVar 0) (dVar 1)) (dC (.int 1))) (dC (.int 1))))
 Ae)
theorem at4 (K:PySem.W.Frag) (t:Adr):wSs 40 (defG K Vt (Aa Jp) (gb_0 K t) bl) (Ag Jp)=bb5 K t:=by kernel_rfl
theorem av3:Ai Vt Nb (Aa Jp):=⟨rfl,rfl,rfl,by decide +kernel,rfl,by decide +kernel,by decide +kernel⟩
theorem ax6:Am Vt (Aa Jp)=true:=by decide +kernel
def t_zm (K:PySem.W.Frag) (t:Adr):DS:=
 (dSeq (B9 (dOwn "need_number" 1 (Bz K t) (dVar 0) (Ab (dVar 1) dNil)))
 (dSeq (dFor (iEn K (Ab (dUn (B0 K "bars") (dVar 0)) dNil)) (gdT K 2 [(gdN 2),(gdN 3)]) (dSeq (dIf (dTru K (dFn (spE (Ql K t) []) (Ab (dVar 3) (Ab (dVar 1) dNil)))) (dSeq (dRet (dVar 2))
   Ae) Ae)
  Ae))
 (dSeq (dRet (dC .non))
 Ae)))
theorem a54 (K:PySem.W.Frag) (t:Adr):wSs 40 (defG K N_zm (Aa s_zm) (gb_2 K t) bl) (Ag s_zm)=t_zm K t:=by kernel_rfl
theorem a80:Ai N_zm P_zm (Aa s_zm):=⟨rfl,rfl,rfl,by decide +kernel,rfl,by decide +kernel,by decide +kernel⟩
theorem bd0:Am N_zm (Aa s_zm)=true:=by decide +kernel
def ba6 (K:PySem.W.Frag) (t:Adr):DS:=
 (dSeq (dSet 4 (dC (.int 0)))
 (dSeq (dFor (iEn K (Ab (dVar 2) dNil)) (gdT K 2 [(gdN 5),(gdN 6)]) (dSeq (dSet 7 (dC .non))
  (dSeq (dFor (iEn K (Ab (dVar 3) dNil)) (gdT K 2 [(gdN 8),(gdN 9)]) (dSeq (dIf (dAnd (dTst (dBin (rIsD false) (dVar 7) (dC .non))) (dTru K (dFn (spE (Ju K t) []) (Ab (dVar 9) (Ab (dVar 1) (Ab (dVar 6) dNil)))))) (dSeq (dSet 7 (dVar 8))
    Ae) Ae)
   Ae))
  (dSeq (dSet 10 (dOwn "barred" 1 (F0 K t) (dVar 0) (Ab (dVar 5) dNil)))
  (dSeq (dIf (dOr (dTst (dBin (rEqD K true) (dVar 10) (dVar 7))) (dOr (dTru K (dFn (fun vs H Q _=>(rIsi K) vs H Q) (Ab (dVar 10) (Ab (dC (.ty "bool")) dNil)))) (dTst (dBin (rEqD K true) (dOwn "told" 1 (Hm K t) (dVar 0) (Ab (dVar 5) dNil)) (dFn (fun vs H Q _=>(Cb K) vs H Q) (Ab (dVar 6) dNil)))))) (dSeq (dRet (dC (.bl false)))
   Ae) Ae)
  (dSeq (dIf (dOr (dTst (dBin (rEqD K true) (dOwn "number_of" 1 (Bk K t) (dVar 0) (Ab (dFn (fun vs H Q _=>(Cb K) vs H Q) (Ab (dVar 6) dNil)) dNil)) (dVar 5))) (dTst (dBin (rEqD K true) (dOwn "number_of" 1 (Bk K t) (dVar 0) (Ab (dFn (fun vs H Q _=>(A5 K) vs H Q) (Ab (dVar 6) dNil)) dNil)) (dVar 5)))) (dSeq (dRet (dC (.bl false)))
   Ae) Ae)
  (dSeq (dIf (dTst (dBin (rIsD false) (dVar 7) (dC .non))) (dSeq (dSet 4 (dBin rOrD (dVar 4) (dBin Oi (dC (.int 1)) (dVar 5))))
   Ae) Ae)
  Ae)))))))
 (dSeq (dRet (dBin (rEqD K false) (dOwn "allowed" 0 (Ev K t) (dVar 0) dNil) (dVar 4)))
 Ae)))
theorem as3 (K:PySem.W.Frag) (t:Adr):wSs 40 (defG K Vk (Aa Jg) (gb_3 K t) bl) (Ag Jg)=ba6 K t:=by kernel_rfl
theorem au4:Ai Vk M2 (Aa Jg):=⟨rfl,rfl,rfl,by decide +kernel,rfl,by decide +kernel,by decide +kernel⟩
theorem aw7:Am Vk (Aa Jg)=true:=by decide +kernel
def bb7 (K:PySem.W.Frag) (t:Adr):DS:=
 (dSeq (dSet 1 (dFn (spE (Yg K t) []) (Ab (dFn (spE (Ot K t) []) (Ab (dVar 0) (Ab (dC (.int 0)) dNil))) (Ab (dBin (rIxD K) (dLst (Ab (dC (.int 24)) (Ab (dC (.int 256)) dNil))) (dFn (fun vs H Q _=>rInt vs H Q) (Ab (dBin (rEqD K false) (dBin A8 (dFn (spE (Ot K t) []) (Ab (dVar 0) (Ab (dC (.int 1)) dNil))) (dC (.int 8))) (dC (.int 1))) dNil))) dNil))))
 (dSeq (dSet 2 (dFn (spE (Mo K t) []) (Ab (dVar 1) dNil)))
 (dSeq (dSet 3 (dFn (spE (Qh K t) []) (Ab (dBin C2 (dFn (spE (Ot K t) []) (Ab (dVar 0) (Ab (dC (.int 1)) dNil))) (dC (.int 8))) (Ab (dVar 1) dNil))))
 (dSeq (dSet 4 (dFn (spE (Yk K t) []) (Ab (dVar 3) dNil)))
 (dSeq (dSet 6 (dFn (mkC t.c_zba (some (i_zr K t)) 1) (Ab (Bp [none,none] (iVal K (dVar 1)) (gdT K 2 [(gdN 0),(gdN 1)]) dYes (dTup (Ab (dVar 0) (Ab (dFn (fun vs H Q _=>(A5 K) vs H Q) (Ab (dVar 1) dNil)) dNil)))) (Ab (dVar 4) dNil))))
 (dSeq (dIf (dTst (dBin (rEqD K true) (dVar 4) (dVar 3))) (dSeq (dRet (dC (.bl false)))
  Ae) Ae)
 (dSeq (dFor (iVal K (dVar 4)) (gdN 7) (dSeq (dFor (iVal K (dVar 7)) (gdN 5) (dSeq (B9 (dMt (rMt K [⟨"list", "list.clear", Iy⟩,⟨"dict", "dict.clear", Ei⟩]) (dBin (rIxD K) (dVar 7) (dVar 5)) dNil))
   Ae))
  Ae))
 (dSeq (B9 (dMt (rMt K [⟨"list", "list.clear", Iy⟩,⟨"dict", "dict.clear", Ei⟩]) (dVar 4) dNil))
 (dSeq (dFor (iVal K (dSl K (dVar 0) (Fb (dC (.int 2))) (Fb (dC (.int 22))))) (gdN 8) (dSeq (dSet 9 (dFn (spE (Mp K t) []) (Ab (dVar 8) (Ab (dVar 1) dNil))))
  (dSeq (dIf (dTst (dBin (rEqD K false) (dBin A8 (dVar 8) (dC (.int 4))) (dC (.int 1)))) (dSeq (dSet 9 (dFn (spE (Ms K t) []) (Ab (dVar 1) (Ab (dBin C2 (dVar 8) (dC (.int 4))) dNil))))
   Ae) Ae)
  (dSeq (dSet 10 (dC (.str "none")))
  (dSeq (dSet 11 (dFn (spE (Ms K t) []) (Ab (dVar 1) (Ab (dBin C2 (dVar 8) (dC (.int 4))) dNil))))
  (dSeq (dIf (dTst (dBin (rEqD K true) (dBin A8 (dVar 8) (dC (.int 4))) (dC (.int 1)))) (dSeq (dSet 10 (dFn (spE (Qk K t) []) (Ab (dVar 1) (Ab (dVar 2) (Ab (dVar 9) dNil)))))
   (dSeq (dSet 11 (dFn (spE (Mp K t) []) (Ab (dVar 8) (Ab (dVar 1) dNil))))
   Ae)) Ae)
  (dSeq (dSet 12 (dFn (spE (Qg K t) []) (Ab (dVar 6) (Ab (dVar 9) dNil))))
  (dSeq (dIf (dOr (dTst (dBin (rEqD K true) (dVar 12) (dVar 10))) (dTst (dBin (rEqD K true) (dVar 9) (dVar 11)))) (dSeq (dRet (dC (.bl false)))
   Ae) Ae)
  Ae))))))))
 (dSeq (dIf (dOr (dTst (dBin (rEqD K true) (dOwn "box" 1 (F7 K t) (dVar 6) (Ab Ds dNil)) (dOwn "all_choices" 0 (Bh K t) (dVar 6) dNil))) (dNot (dTru K (dFn (spE (Ye K t) []) (Ab (dVar 6) (Ab (dVar 3) dNil)))))) (dSeq (dRet (dC (.bl false)))
  Ae) Ae)
 (dSeq (dRet (dFn (spE (Qj K t) []) (Ab (dVar 6) (Ab (dVar 1) (Ab (dVar 2) (Ab (dVar 3) dNil))))))
 Ae)))))))))))
theorem at6 (K:PySem.W.Frag) (t:Adr):wSs 40 (defG K Vv (Aa C8) (gb_9 K t) bl) (Ag C8)=bb7 K t:=by kernel_rfl
theorem av5:Ai Vv Nd (Aa C8):=⟨rfl,rfl,rfl,by decide +kernel,rfl,by decide +kernel,by decide +kernel⟩
theorem ax8:Am Vv (Aa C8)=true:=by decide +kernel
end K05
namespace K05
open PySem L2 Pn
section
variable {P:Program} {w:World} {K:PySem.W.Frag} {mg:Str -> Option Value} {base:Heap} {t:Adr}
theorem al3 {f:Addr} {fd:FuncData} (Z:Al K t) (F:FunD K "union_of" "union_of" Jk f fd .none) (T:Tab P w K mg base 0 (gb_0 K t) bl):FnOk P w K mg base CX0 1 f fd M6 (Mq K t):=by
 refine F.okW0 au8 ax1 T (as7 K t) (fun vs H Q E h=>?_) (fun vs H Q E h=>?_)
 ·obtain ⟨a,ms,rfl,_⟩:=h;rfl
 ·obtain ⟨a,ms,rfl,hS,k⟩:=h
  refine .inl ⟨⟨_,hS⟩,?_⟩
  refine Av (Au (ms.map V.int)) (fun i σ H'=>(∃ v2,σ=[some (.ref a),some (.int (E1 (ms.take i))),v2]) /\ H' = H) ⟨⟨_,rfl⟩,rfl⟩ (fun i σ H' _ q=>q.2 ▸ hS) ?_ ?_
  ·rintro i x σ H' hx ⟨⟨v2,rfl⟩,rfl⟩
   obtain ⟨m,hm,rfl⟩:=Ak hx
   have e:E1 (ms.take (i + 1))=Builtin.bitOr (E1 (ms.take i)) m:=Cl hm _ _
   exact ⟨⟨_,congrArg (fun z=>[some (V.ref a),some (V.int z),some (V.int m)]) e.symm⟩,rfl⟩
  ·rintro σ H' ⟨⟨v2,rfl⟩,rfl⟩
   rw [List.length_map,List.take_length]
   exact .inl k
theorem al9 {f:Addr} {fd:FuncData} (Z:Al K t) (F:FunD K "set_of" "set_of" Jq f fd .none) (T:Tab P w K mg base 0 (gb_0 K t) bl):FnOk P w K mg base CX0 1 f fd Nc (Qm K t):=by
 refine F.okW0 av4 ax7 T (at5 K t) (fun vs H Q E h=>?_) (fun vs H Q E h=>?_)
 ·obtain ⟨a,ms,rfl,_⟩:=h;rfl
 ·obtain ⟨a,ms,rfl,hS,hb,k⟩:=h
  refine .inl ⟨⟨_,hS⟩,?_⟩
  refine Av (Au (ms.map fun n:Nat=>V.int (n:Int))) (fun i σ H'=>(∃ v2,σ=[some (.ref a),some (.int (setM (ms.take i))),v2]) /\ H' = H) ⟨⟨_,rfl⟩,rfl⟩ (fun i σ H' _ q=>q.2 ▸ hS) ?_ ?_
  ·rintro i x σ H' hx ⟨⟨v2,rfl⟩,rfl⟩
   obtain ⟨m,hm,rfl⟩:=Ak hx
   have e:setM (ms.take (i + 1))=Builtin.bitOr (setM (ms.take i)) (1 * 2 ^ ((m:Int)).toNat):=by
    rw [Int.one_mul,Int.toNat_natCast]
    exact Cl hm _ _
   have hm2:=hb m (List.mem_of_getElem? hm)
   refine ⟨⟨by omega,by omega,by decide⟩,?_⟩
   exact ⟨⟨_,congrArg (fun z=>[some (V.ref a),some (V.int z),some (V.int (m:Int))]) e.symm⟩,rfl⟩
  ·rintro σ H' ⟨⟨v2,rfl⟩,rfl⟩
   rw [List.length_map,List.take_length]
   exact .inl k
theorem a13 {f:Addr} {fd:FuncData} (Z:Al K t) (F:FunD K "many" "Panel.many" s_zs f fd .none) (T:Tab P w K mg base 0 (gb_0 K t) bl):FnOk P w K mg base CX0 1 f fd P_zs (ah3 K t):=by
 refine F.okW0 a86 bd6 T (a60 K t) (fun vs H Q E h=>?_) (fun vs H Q E h=>?_)
 ·obtain ⟨p,l,s,sw,rfl,_⟩:=h;rfl
 ·obtain ⟨p,l,s,sw,rfl,⟨dx,fs,⟨_,hp⟩,hl,hs,hm⟩,⟨ds,e,⟨_,o⟩,_⟩,k⟩:=h
  refine Or.inl ⟨_,_,_,_,hp,Z.pf.cl,(Z.pf.na _ (by simp)),hl,(.inl ⟨_,.inl (SqL.of o),?_⟩)⟩
  have el:(ds.map fun x=>V.ref x.2).length=(Ah sw).length:=by rw [<- e];simp
  rw [el]
  exact k
theorem az7 {f:Addr} {fd:FuncData} (Z:Al K t) (F:FunD K "all_choices" "Panel.all_choices" s_zc f fd .none) (T:Tab P w K mg base 1 (gb_1 K t) bl):FnOk P w K mg base CX0 2 f fd P_zc (ag5 K t):=by
 refine F.okW0 a70 bc0 T (a44 K t) (fun vs H Q E h=>?_) (fun vs H Q E h=>?_)
 ·obtain ⟨p,l,s,sw,rfl,_⟩:=h;rfl
 ·obtain ⟨p,l,s,sw,rfl,hs,ht,hn,k⟩:=h
  obtain ⟨dx,fs,⟨_,hp⟩,_,_,hm⟩:=id hs
  refine ⟨p,dx,fs,⟨t.c_zba,i_zs K t⟩,rfl,.head _,hp,hm _ (by decide),⟨Nat.le_of_ble_eq_true rfl,Nat.le_of_ble_eq_true rfl⟩,?_⟩
  refine ⟨p,l,s,sw,rfl,hs,ht,⟨by omega,by omega,by decide⟩,?_⟩
  have e:1 * 2 ^ (((Ah sw).length:Int)).toNat - 1=allM sw:=by rw [Int.one_mul,Int.toNat_natCast];rfl
  show Q (.int (1 * 2 ^ (((Ah sw).length:Int)).toNat - 1)) H
  rw [e]
  exact k
theorem a16 {f:Addr} {fd:FuncData} (Z:Al K t) (F:FunD K "has_length" "has_length" s_zv f fd .none) (T:Tab P w K mg base 0 (gb_0 K t) bl):FnOk P w K mg base CX0 1 f fd P_zv (Yj K t):=by
 refine F.okW0 a89 bd9 T (a63 K t) (fun vs H Q E h=>?_) (fun vs H Q E h=>?_)
 ·obtain ⟨z,lo,hi,rfl,_⟩:=h;rfl
 ·obtain ⟨z,lo,hi,rfl,hz,k⟩:=h
  exact ⟨rfl,Nat.le_trans hz (by decide),Kj k⟩
theorem a19 {f:Addr} {fd:FuncData} (Z:Al K t) (F:FunD K "is_letter" "is_letter" s_zy f fd .none) (T:Tab P w K mg base 0 (gb_0 K t) bl):FnOk P w K mg base CX0 1 f fd P_zy (Yl K t):=by
 refine F.okW0 a92 be2 T (a66 K t) (fun vs H Q E h=>?_) (fun vs H Q E h=>?_)
 ·obtain ⟨x,rfl,_⟩:=h;rfl
 ·obtain ⟨c,rfl,k⟩:=h
  dsimp only [t_zy,dSeq,dRet]
  exact Y9 (s1 := "a") (s2 := "z") (c:=c) (i:=0) (a:=97) (b:=122) (by decide +kernel) (by decide +kernel) (by rfl) k
theorem Wy {α:Type} [DecidableEq α]:∀ (ys acc:List α),(ys.foldl (fun σ k=>if σ.any (fun j=>decide (j=k)) then σ else σ ++ [k]) acc).length <= acc.length + ys.length
 | [],_=>Nat.le_refl _
 | y :: ys,acc=>by
  rw [List.foldl_cons]
  refine Nat.le_trans (Wy ys _) ?_
  split
  ·rw [List.length_cons];omega
  ·rw [List.length_append,List.length_cons,List.length_cons,List.length_nil];omega
theorem Wz {α:Type} [DecidableEq α]:∀ (ys acc:List α),(ys.foldl (fun σ k=>if σ.any (fun j=>decide (j=k)) then σ else σ ++ [k]) acc).length=acc.length + ys.length -> acc.Nodup -> (acc ++ ys).Nodup
 | [],acc,_,h=>by rw [List.append_nil];exact h
 | y :: ys,acc,h,nd=>by
  rw [List.foldl_cons] at h
  by_cases q:(acc.any fun j=>decide (j=y))=true
  ·rw [if_pos q] at h
   have:=Wy ys acc
   rw [List.length_cons] at h
   omega
  ·rw [if_neg q] at h
   have:=Wz ys (acc ++ [y]) (by rw [h,List.length_append,List.length_cons,List.length_cons,List.length_nil];omega) (List.nodup_append.mpr ⟨nd,by simp,fun a ha b hb e=>q (List.any_eq_true.mpr ⟨a,ha,by
    have:b=y:=by simpa using hb
    rw [<- this,<- e]
    simp⟩)⟩)
   rw [List.append_assoc] at this
   exact this
theorem Zo {α:Type} [DecidableEq α] (xs:List α) (h:(metK xs).length=xs.length):xs.Nodup:=Wz xs [] (by rw [List.length_nil,Nat.zero_add];exact h) List.nodup_nil
theorem wordB_iff {z:Str}:Gx z=true ↔ okW z:=by
 unfold Gx okW
 rw [Bool.and_eq_true,Bool.and_eq_true,decide_eq_true_iff,decide_eq_true_iff]
 exact ⟨fun h=>⟨h.1.1,h.1.2,h.2⟩,fun h=>⟨⟨h.1,h.2.1⟩,h.2.2⟩⟩
theorem Kc {K:PySem.W.Frag} {J:It} {its:List V} {ok:Hp -> Prop} {te:DE} {σ:St} {H:Hp} {R:Hp -> Addr -> Prop} {E:EK} (f:V -> Bool) (Y:Ca J its ok) (Sg:St -> Prop) (hok:∀ H1,Same H H1 -> ok H1) (hn:its.length < sizeLine) (hσ:Sg σ) (hS:∀ σ x,Sg σ -> Sg (σ.set 0 (some x)))
  (he:∀ x σ H1 Q1,x ∈ its -> Sg σ -> Same H H1 -> (∀ H2,Same H1 H2 -> Q1 (.bl (f x)) H2) -> te (σ.set 0 (some x)) H1 Q1 E) (k:∀ D H',Same H H' -> SqL K H' D ((its.map f).map V.bl) -> R H' D) :
  ∀ D,H D=none -> CmpW J (gdN 0) dYes te D (fun H'=>R H' D) σ (upd H D (.lst [])) E:=by
 intro D hD
 refine G5 Y Sg (fun _=>true) (fun v=>.bl (f v)) hD hok hn hσ ?_ ?_
 ·intro x σ H1 hx hs S Fin Skip hF hK
  exact he x σ H1 _ hx hs S fun H2 S2=>hF _ _ _ (hS _ _ hs) S2 rfl rfl
 ·intro H' S hD'
  exact k D H' S (SqL.of (hD'.trans (by rw [List.filter_eq_self.mpr (fun _ _=>rfl),List.map_map];rfl)))
def strB (p:Str -> Bool):V -> Bool
 | .str z=>p z
 | _=>false
theorem Ou (p:Str -> Bool) (l:List Str):(((l.map V.str).map (strB p)).all fun b=>b)=l.all p:=by rw [List.map_map,List.all_map];rfl
theorem al4 {f:Addr} {fd:FuncData} (Z:Al K t) (F:FunD K "is_word" "is_word" Jl f fd .none) (T:Tab P w K mg base 1 (gb_1 K t) bl):FnOk P w K mg base CX0 2 f fd M7 (Mr K t):=by
 refine F.okW0 au9 ax2 T (as8 K t) (fun vs H Q E h=>?_) (fun vs H Q E h=>?_)
 ·obtain ⟨x,rfl,_⟩:=h;rfl
 ·obtain ⟨z,rfl,hl,k⟩:=h
  refine ⟨z,1,8,rfl,hl,?_⟩
  have e:(decide (1 <= (z.length:Int)) && decide ((z.length:Int) <= 8))=(decide (1 <= z.length) && decide (z.length <= 8)):=by
   congr 1 <;> exact decide_eq_decide.mpr (by omega)
  rw [e]
  unfold Gx at k
  cases hb:(decide (1 <= z.length) && decide (z.length <= 8)) with
  | false=>
   rw [hb] at k
   exact k H (Same.refl _)
  | true=>
   rw [hb] at k
   refine Sk (p:=By) hl (fun c σ H1 Q1 hσ q=>?_) fun H' S=>k H' S
   match σ,hσ with
   | [_],_=>exact ⟨c,rfl,q⟩
theorem a00 {f:Addr} {fd:FuncData} (Z:Al K t) (F:FunD K "are_unlike_words" "are_unlike_words" s_zf f fd .none) (T:Tab P w K mg base 2 (gb_2 K t) bl):FnOk P w K mg base CX0 3 f fd P_zf (R0 K t):=by
 refine F.okW0 a73 bc3 T (a47 K t) (fun vs H Q E h=>?_) (fun vs H Q E h=>?_)
 ·obtain ⟨v,rfl,_⟩:=h;rfl
 ·obtain ⟨v,rfl,⟨hn,k⟩ | ⟨a,l,rfl,hS,⟨hl,hz⟩,k⟩⟩:=h
  ·rcases hn with rfl | ⟨z,rfl⟩ | ⟨a,xs,rfl,e⟩
   ·exact ⟨rfl,k⟩
   ·exact ⟨rfl,k⟩
   ·exact ⟨_,false,.sqT rfl (SqT.of e) rfl,rfl,k⟩
  refine ⟨_,true,.sqL rfl hS rfl,rfl,?_⟩
  refine .inl ⟨⟨_,hS⟩,?_⟩
  refine Kc (K:=K) (σ:=[none]) (strB Gx) (Au (l.map V.str)) (fun σ=>σ.length=1) (fun H1 S=>S.seqL hS) ?_ rfl (fun σ x hσ=>by rw [List.length_set];exact hσ) ?_ fun D1 H1 S1 q1=>⟨_,q1,?_⟩
  ·rw [List.length_map];exact Nat.lt_of_le_of_lt hl (by decide)
  ·intro x σ H1 Q1 hx hσ S q
   obtain ⟨z,hz0,rfl⟩:=List.mem_map.mp hx
   match σ,hσ with
   | [_],_=>exact ⟨z,rfl,hz z hz0,q⟩
  ·rw [Ou]
   cases hb:l.all Gx with
   | false=>
    rw [hb] at k
    exact k H1 S1
   | true=>
    rw [hb] at k
    refine ⟨l,S1.seqL hS,by omega,.inl ⟨_,.inl (S1.seqL hS),?_⟩⟩
    rw [List.length_map]
    have e:decide (((metK l).length:Int)=(l.length:Int))=decide l.Nodup:=decide_eq_decide.mpr ⟨fun q=>Zo l (by omega),fun q=>by rw [Zp q]⟩
    show Q (.bl (decide (((metK l).length:Int)=(l.length:Int)))) H1
    rw [e]
    exact k H1 S1
theorem ak8 {f:Addr} {fd:FuncData} (Z:Al K t) (F:FunD K "is_whole" "is_whole" Jf f fd .none) (T:Tab P w K mg base 0 (gb_0 K t) bl):FnOk P w K mg base CX0 1 f fd M1 (Qi K t):=by
 refine F.okW0 au3 aw6 T (as2 K t) (fun vs H Q E h=>?_) (fun vs H Q E h=>?_)
 ·obtain ⟨v,rfl,_⟩:=h;rfl
 ·obtain ⟨v,rfl,hf,k⟩:=h
  cases v with
  | int i=>exact ⟨rfl,rfl,k⟩
  | bl b=>exact ⟨rfl,rfl,k⟩
  | str z=>exact ⟨rfl,k⟩
  | non=>exact ⟨rfl,k⟩
  | _=>cases hf
theorem al8 {f:Addr} {fd:FuncData} (Z:Al K t) (F:FunD K "in_set" "in_set" Jp f fd .none) (T:Tab P w K mg base 0 (gb_0 K t) bl):FnOk P w K mg base CX0 1 f fd Nb (Ql K t):=by
 refine F.okW0 av3 ax6 T (at4 K t) (fun vs H Q E h=>?_) (fun vs H Q E h=>?_)
 ·obtain ⟨c,n,rfl,_⟩:=h;rfl
 ·obtain ⟨c,n,rfl,hn,k⟩:=h
  exact ⟨hn,k⟩
theorem a05 {f:Addr} {fd:FuncData} (Z:Al K t) (F:FunD K "allowed" "Panel.allowed" s_zk f fd .none) (T:Tab P w K mg base 0 (gb_0 K t) bl):FnOk P w K mg base CX0 1 f fd P_zk (ah0 K t):=by
 refine F.okW0 a78 bc8 T (a52 K t) (fun vs H Q E h=>?_) (fun vs H Q E h=>?_)
 ·obtain ⟨p,sw,rules,rfl,_⟩:=h;rfl
 ·obtain ⟨p,sw,rules,rfl,⟨dx,d,l,n,s,kk,b,h⟩,k⟩:=h
  exact Or.inl ⟨_,_,_,_,h.ins.2,Z.pf.cl,(Z.pf.na _ (by simp)),rfl,k⟩
theorem a11 {f:Addr} {fd:FuncData} (Z:Al K t) (F:FunD K "_law_cell_at" "_law_cell_at" s_zq f fd .none) (T:Tab P w K mg base 0 (gb_0 K t) bl):FnOk P w K mg base CX0 1 f fd P_zq (Ot K t):=by
 refine F.okW0 a84 bd4 T (a58 K t) (fun vs H Q E h=>?_) (fun vs H Q E h=>?_)
 ·obtain ⟨a,ns,k,rfl,_⟩:=h;rfl
 ·obtain ⟨a,ns,k,rfl,hS,q⟩:=h
  refine .inl ⟨_,.inl hS,?_⟩
  refine ite2 (fun e=>?_) (fun e=>?_)
  ·have e:(k:Int) < ((ns.map V.int).length:Int):=by simpa using e
   have hk:k < ns.length:=by rw [List.length_map] at e;omega
   have:Ki ns k=ns[k]:=by unfold Ki;rw [List.getD_eq_getElem?_getD,List.getElem?_eq_getElem hk];rfl
   rw [this] at q
   exact ⟨_,_,.inl hS,B6 (j:=k) (by rw [List.getElem?_map,List.getElem?_eq_getElem hk];rfl),q⟩
  ·have e:¬ (k:Int) < ((ns.map V.int).length:Int):=by simpa using e
   have hk:ns.length <= k:=by rw [List.length_map] at e;omega
   have:Ki ns k=0:=by unfold Ki;rw [List.getD_eq_getElem?_getD,List.getElem?_eq_none hk];rfl
   rw [this] at q
   exact q
theorem a20 {f:Addr} {fd:FuncData} (Z:Al K t) (F:FunD K "is_switch" "is_switch" s_zz f fd .none) (T:Tab P w K mg base 3 (gb_3 K t) bl):FnOk P w K mg base CX0 4 f fd P_zz (Ym K t):=by
 refine F.okW0 a93 be3 T (a67 K t) (fun vs H Q E h=>?_) (fun vs H Q E h=>?_)
 ·obtain ⟨a,b,wd,l,rfl,_⟩:=h;rfl
 ·obtain ⟨a,b,wd,l,rfl,ha,hb,hw,hl,k⟩:=h
  have qa:=SqT.of (K:=K) ha
  have qb:=SqL.of (K:=K) hb
  refine ⟨_,true,.sqT rfl qa rfl,rfl,?_⟩
  refine .inl ⟨_,.inr qa,?_⟩
  refine ⟨_,_,.inr qa,rfl,?_⟩
  refine ⟨wd,rfl,Nat.le_trans hw.2.1 (by decide),fun H1 S1=>?_⟩
  rw [wordB_iff.mpr hw]
  refine ⟨_,_,.inr (S1.seqT qa),rfl,?_⟩
  refine ⟨_,rfl,.inr ⟨b,l,rfl,S1.seqL qb,⟨by have:=hl.2.2;omega,fun z hz=>Nat.le_trans (hl.1.1 z hz).2.1 (by decide)⟩,fun H2 S2=>?_⟩⟩
  rw [List.all_eq_true.mpr fun z hz=>wordB_iff.mpr (hl.1.1 z hz),decide_eq_true hl.1.2.1]
  have S:=S1.trans S2
  refine ⟨_,_,.inr (S.seqT qa),rfl,.inl ⟨_,.inl (S.seqL qb),?_⟩⟩
  rw [List.length_map]
  have e:(decide (2 <= (l.length:Int)) && decide ((l.length:Int) <= 4))=true:=by
   have h1:=hl.2.1
   have h2:=hl.2.2
   simp
   omega
  exact Kj (e ▸ k H2 S)
theorem Hn {es:List ((Str × List Str) × Addr)} {sw:Sw} {i:Nat} {e:Str × List Str} (he:es.map (·.1)=sw.take i) (hi:sw[i]? = some e) (nd:(sw.map (·.1)).Nodup):valV (es.map kR) (.inr e.1)=none:=by
 refine Bu ?_
 rw [Dg,he]
 intro hm
 obtain ⟨w,hw,e2⟩:=List.mem_map.mp hm
 cases e2
 have h1:(sw.map (·.1))[i]? = some e.1:=by rw [List.getElem?_map,hi];rfl
 rw [List.map_take] at hw
 obtain ⟨j,hj,e3⟩:=List.mem_iff_getElem.mp hw
 rw [List.length_take] at hj
 rw [List.getElem_take] at e3
 have hi2:=Aj h1
 have e4:(sw.map (·.1))[i]=e.1:=by
  have:=List.getElem?_eq_getElem hi2
  rw [this] at h1
  exact Option.some.inj h1
 have:=(List.getElem_inj (i:=j) (j:=i) (h₀:=by omega) (h₁:=hi2) nd).mp (by rw [e3,e4])
 omega
theorem Fh {es:List ((Str × List Str) × Addr)} {e:Str × List Str} {a:Addr} (h:valV (es.map kR) (.inr e.1)=none):putK (es.map kR) (.inr e.1) (.ref a)=(es ++ [(e,a)]).map kR:=by
 rw [Iw _ h,List.map_append]
 rfl
theorem Fw {α β:Type} {es:List (α × β)} {sw:List α} {i:Nat} (h:es.map (·.1)=sw.take i):es.length <= sw.length:=by
 have:=congrArg List.length h
 rw [List.length_map,List.length_take] at this
 omega
theorem Cq {α β:Type} {es:List (α × β)} {sw:List α} {i:Nat} {e:α} {a:β} (h:es.map (·.1)=sw.take i) (hi:sw[i]? = some e):(es ++ [(e,a)]).map (·.1)=sw.take (i + 1):=by
 rw [List.map_append,h,List.take_add_one,hi]
 rfl
theorem a06 {f:Addr} {fd:FuncData} (Z:Al K t) (F:FunD K "read_switches" "read_switches" s_zl f fd .none) (T:Tab P w K mg base 4 (gb_4 K t) bl):FnOk P w K mg base CX0 5 f fd P_zl (Yf K t):=by
 refine F.okW0 a79 bc9 T (a53 K t) (fun vs H Q E h=>?_) (fun vs H Q E h=>?_)
 ·obtain ⟨a,sw,rfl,_⟩:=h;rfl
 ·obtain ⟨a,sw,rfl,⟨ds,ed,⟨_,oa⟩,hd⟩,hw,k⟩:=h
  have ql:=SqL.of (K:=K) oa
  have el:(ds.map fun x=>V.ref x.2).length=sw.length:=by rw [<- ed];simp
  refine ⟨_,true,.sqL rfl ql rfl,rfl,?_⟩
  refine .inl ⟨_,.inl ql,?_⟩
  rw [el]
  have e1:decide (1 <= (sw.length:Int))=true:=by have:=hw.1;simp;omega
  have e2:decide ((sw.length:Int) <= 5)=true:=by have:=hw.2.1;simp;omega
  refine Ff e1 (Ce (by rw [e2];rfl) ?_)
  intro d hd0
  refine .inl (.inl ⟨⟨_,(Same.upd hd0).seqL ql⟩,?_⟩)
  refine Av (Au (ds.map fun x=>V.ref x.2)) (fun i σ H'=>(∃ v3,σ=[some (.ref a),some (.ref d),some (.int (Bc (sw.take i):Nat)),v3]) /\ Same H H' /\
    ∃ es:List ((Str × List Str) × Addr),es.map (·.1)=sw.take i /\ H' d=some (.dK (es.map kR)) /\ ∀ x ∈ es,H x.2=none /\ H' x.2=some (tupO x.1.2))
   ⟨⟨_,rfl⟩,Same.upd hd0,[],rfl,Ac,fun x hx=>by cases hx⟩ (fun i σ H' _ q=>q.2.1.seqL ql) ?_ ?_
  ·rintro i x σ H1 hx ⟨⟨v3,rfl⟩,S1,es,ee,e1d,he⟩
   obtain ⟨⟨⟨e,la⟩,ta⟩,hi,rfl⟩:=Ak hx
   have hi2:sw[i]? = some e:=by rw [<- ed,List.getElem?_map,hi];rfl
   obtain ⟨⟨_,h1⟩,_,h2⟩:=hd _ (List.mem_of_getElem? hi)
   have hok:=hw.2.2.2.1 e (List.mem_of_getElem? hi2)
   have nk:=Hn ee hi2 hw.2.2.1
   refine ⟨ta,la,e.1,e.2,rfl,S1 _ _ h1,S1 _ _ h2,hok.1,hok.2,fun H2 S2=>?_⟩
   have S:=S1.trans S2
   have qt:=SqT.of (K:=K) (S _ _ h1)
   have qa:=SqL.of (K:=K) (S _ _ h2)
   refine ⟨_,_,.inr qt,rfl,.inr ⟨_,DGet.k (k:=.inr e.1) (S2 _ _ e1d),?_⟩⟩
   rw [nk]
   refine ⟨_,_,.inr qt,rfl,_,.inl ⟨qa,fun tp htp=>?_⟩⟩
   have S3:=Same.upd (o:=tupO e.2) htp
   have et:upd H2 tp (tupO e.2) tp=some (tupO e.2):=Ac
   show Cm K (dVar 1) (dBin (rIxD K) (dVar 3) (dC (.int 0))) (.ref tp) [some (.ref a),some (.ref d),some (.int (Bc (sw.take i):Nat)),some (.ref ta)] (upd H2 tp (tupO e.2)) _
   have hft:H tp=none:=S.free htp
   generalize upd H2 tp (tupO e.2)=H3 at S3 et ⊢
   have Sa:=S.trans S3
   have e3d:=S3 _ _ (S2 _ _ e1d)
   have ndt:d ≠ tp:=Af (S2 _ _ e1d) htp
   refine ⟨_,_,.inr (S3.seqT qt),rfl,_,DPut.k (k:=.inr e.1) e3d ?_,?_⟩
   ·rw [List.length_map]
    have:=Fw ee
    have:=hw.2.1
    exact Nat.lt_of_le_of_lt (show es.length <= 5 by omega) (by decide)
   rw [Fh nk]
   have Sb:Same H (upd H3 d (.dK ((es ++ [(e,tp)]).map kR))):=Sa.set hd0
   have keep:∀ b,b ≠ d -> upd H3 d (.dK ((es ++ [(e,tp)]).map kR)) b=H3 b:=fun b hb=>Ad hb
   have ebd:upd H3 d (.dK ((es ++ [(e,tp)]).map kR)) d=some (.dK ((es ++ [(e,tp)]).map kR)):=Ac
   generalize upd H3 d (.dK ((es ++ [(e,tp)]).map kR))=H4 at Sb keep ebd ⊢
   refine ⟨_,_,.inr (SqT.of (Sb _ _ h1)),rfl,.inl ⟨_,.inl (SqL.of (Sb _ _ h2)),?_⟩⟩
   rw [List.length_map]
   have pm:((Bc (sw.take i):Nat):Int) * (e.2.length:Int)=((Bc (sw.take (i + 1)):Nat):Int):=by
    unfold Bc
    rw [Cl hi2,Int.natCast_mul]
   have hb4:=hok.2.2.2
   refine ⟨.inr ⟨show -(2 ^ 64) < (e.2.length:Int) by omega,show (e.2.length:Int) < 2 ^ 64 by omega⟩,?_⟩
   refine ⟨⟨_,congrArg (fun z=>[some (V.ref a),some (V.ref d),some (V.int z),some (V.ref ta)]) pm⟩,Sb,es ++ [(e,tp)],Cq ee hi2,ebd,?_⟩
   intro x hx
   rcases List.mem_append.mp hx with hx | hx
   ·obtain ⟨a1,a2⟩:=he x hx
    refine ⟨a1,?_⟩
    rw [keep x.2 (fun z=>by rw [z,e1d] at a2;cases a2)]
    exact S3 _ _ (S2 _ _ a2)
   ·have:x=(e,tp):=by simpa using hx
    subst this
    exact ⟨hft,by rw [keep _ (Ne.symm ndt)];exact et⟩
  ·rintro σ H1 ⟨⟨v3,rfl⟩,S1,es,ee,e1d,he⟩
   rw [el,List.take_length] at ee
   rw [el,List.take_length]
   refine .inl (Ce ?_ ?_)
   ·have:=hw.2.2.2.2
    simp
    omega
   ·exact k H1 d S1 ⟨es,ee,⟨hd0,e1d⟩,he⟩
theorem a10 {f:Addr} {fd:FuncData} (Z:Al K t) (F:FunD K "copied_rule" "copied_rule" s_zp f fd .none) (T:Tab P w K mg base 0 (gb_0 K t) bl):FnOk P w K mg base CX0 1 f fd P_zp (R5 K t):=by
 refine F.okW0 a83 bd3 T (a57 K t) (fun vs H Q E h=>?_) (fun vs H Q E h=>?_)
 ·obtain ⟨r,rule,rfl,_⟩:=h;rfl
 ·obtain ⟨r,rule,rfl,⟨ds,ed,⟨_,od⟩,hd⟩,nd,hl,k⟩:=h
  intro c hc
  have ncr:r ≠ c:=Af od hc
  have od1:upd H c (.dK []) r=some (.dK (ds.map kR)):=by rw [Ad ncr];exact od
  refine .inl (.inr (.inr (.inl ⟨_,od1,fun o=>?_⟩)))
  have Hf:∀ b u,b ≠ r -> H b=some u -> upd (upd H c (.dK [])) r (.frz o (.dK (ds.map kR))) b=some u:=fun b u hb e=>by
   rw [Ad hb,Ad (Af e hc)];exact e
  have ef:upd (upd H c (.dK [])) r (.frz o (.dK (ds.map kR))) r=some (.frz o (.dK (ds.map kR))):=Ac
  have ec:upd (upd H c (.dK [])) r (.frz o (.dK (ds.map kR))) c=some (.dK []):=by rw [Ad (Ne.symm ncr),Ac]
  have len:ds.length=rule.length:=by rw [<- ed];simp
  generalize upd (upd H c (.dK [])) r (.frz o (.dK (ds.map kR)))=H0 at Hf ef ec ⊢
  refine Av (Dm (ds.map kR)) (fun i σ H'=>(∃ v2,σ=[some (.ref r),some (.ref c),v2]) /\ (∀ b u,b ≠ r -> H b=some u -> H' b=some u) /\ H' r=some (.frz o (.dK (ds.map kR))) /\
    ∃ es:List ((Str × List Str) × Addr),es.map (·.1)=rule.take i /\ H' c=some (.dK (es.map kR)) /\ ∀ x ∈ es,H x.2=none /\ H' x.2=some (lstO x.1.2))
   ⟨⟨_,rfl⟩,Hf,ef,[],rfl,ec,fun x hx=>by cases hx⟩ (fun i σ H' _ q=>q.2.2.1) ?_ ?_
  ·rintro i x σ H1 hx ⟨⟨v2,rfl⟩,S1,f1,es,ee,e1c,he⟩
   obtain ⟨kv,hi0,rfl⟩:=Ak hx
   obtain ⟨⟨e,la⟩,hi,rfl⟩:=Ak hi0
   have hi2:rule[i]? = some e:=by rw [<- ed,List.getElem?_map,hi];rfl
   obtain ⟨_,h2⟩:=hd _ (List.mem_of_getElem? hi)
   have nla:la ≠ r:=fun z=>by rw [z,od] at h2;cases h2
   have nk:=Hn ee hi2 nd
   have hv:valV (ds.map kR) (.inr e.1)=some (.ref la):=Az (Bx ed nd) hi0
   refine ⟨.ref la,.inl ⟨_,.inr e.1,.inr ⟨o,f1⟩,rfl,hv.symm⟩,_,.inl (SqL.of (S1 _ _ nla h2)),fun lc hlc=>?_⟩
   have S3:=Same.upd (o:=lstO e.2) hlc
   have et:upd H1 lc (lstO e.2) lc=some (lstO e.2):=Ac
   have nlr:lc ≠ r:=(Af f1 hlc).symm
   have hft:H lc=none:=by
    cases q:H lc with
    | none=>rfl
    | some u=>rw [S1 _ _ nlr q] at hlc;cases hlc
   have ndt:c ≠ lc:=Af e1c hlc
   show Cm K (dVar 1) (dVar 2) (.ref lc) [some (.ref r),some (.ref c),some (.str e.1)] (upd H1 lc (lstO e.2)) _
   generalize upd H1 lc (lstO e.2)=H3 at S3 et ⊢
   refine ⟨_,DPut.k (k:=.inr e.1) (S3 _ _ e1c) ?_,?_⟩
   ·rw [List.length_map]
    have:=Fw ee
    exact Nat.lt_of_le_of_lt (show es.length <= 100 by omega) (by decide)
   rw [Fh nk]
   refine ⟨⟨_,rfl⟩,fun b u hb e4=>?_,?_,es ++ [(e,lc)],Cq ee hi2,Ac,?_⟩
   ·rw [Ad (Af e4 hc)];exact S3 _ _ (S1 _ _ hb e4)
   ·rw [Ad ncr];exact S3 _ _ f1
   ·intro x hx
    rcases List.mem_append.mp hx with hx | hx
    ·obtain ⟨a1,a2⟩:=he x hx
     refine ⟨a1,?_⟩
     rw [Ad (fun z=>by rw [z,e1c] at a2;cases a2)]
     exact S3 _ _ a2
    ·have:x=(e,lc):=by simpa using hx
     subst this
     exact ⟨hft,by rw [Ad (Ne.symm ndt)];exact et⟩
  ·rintro σ H1 ⟨⟨v2,rfl⟩,S1,f1,es,ee,e1c,he⟩
   rw [List.length_map,List.length_map,len,List.take_length] at ee
   refine .inr ⟨r,o,_,od1,f1,?_⟩
   refine k _ c (fun b u e4=>?_) ⟨es,ee,⟨hc,?_⟩,fun x hx=>⟨(he x hx).1,?_⟩⟩
   ·by_cases hb:b=r
    ·subst hb;rw [Ac,<- od,e4]
    ·rw [Ad hb];exact S1 _ _ hb e4
   ·rw [Ad (Ne.symm ncr)];exact e1c
   ·rw [Ad (fun z=>by have:=(he x hx).1;rw [z,od] at this;cases this)];exact (he x hx).2
theorem K9:∀ (a:List (List Str)) (r:List Str) (k:Nat),numK k (a ++ [r])=numK k a ++ [(r.map .inr,.int ((k + a.length:Nat):Int))]
 | [],r,k=>rfl
 | b :: a,r,k=>by
  rw [List.cons_append,numK,K9 a r (k + 1),numK,List.length_cons,List.cons_append,show k + 1 + a.length=k + (a.length + 1) by omega]
theorem Gb:∀ (a:List (List Str)) (k:Nat),(numK k a).map (·.1)=a.map fun r=>r.map (Sum.inr:Str -> Key)
 | [],_=>rfl
 | b :: a,k=>by rw [numK,List.map_cons,List.map_cons,Gb a]
theorem N9:∀ (a:List (List Str)) (k:Nat),(numK k a).length=a.length
 | [],_=>rfl
 | b :: a,k=>by rw [numK,List.length_cons,List.length_cons,N9 a]
theorem Nt {a b:List Str} (h:a.map (Sum.inr:Str -> Key)=b.map (Sum.inr:Str -> Key)):a=b:=(List.map_inj_right (fun x y e=>by injection e)).mp h
theorem N8:∀ {a:List (List Str)} {k i:Nat} {r:List Str},a[i]? = some r -> (numK k a)[i]? = some (r.map .inr,.int ((k + i:Nat):Int))
 | [],_,_,_,h=>by simp at h
 | b :: a,k,0,r,h=>by rw [List.getElem?_cons_zero] at h;cases h;rfl
 | b :: a,k,i + 1,r,h=>by
  rw [List.getElem?_cons_succ] at h
  rw [numK,List.getElem?_cons_succ,N8 h,show k + 1 + i=k + (i + 1) by omega]
theorem Mv (r:List Str):tupO r = .tup ((r.map (Sum.inr:Str -> Key)).map kV):=by
 rw [List.map_map]
 rfl
theorem Jv {α:Type} {l:List α} {i:Nat} {x:α} (nd:l.Nodup) (h:l[i]? = some x):¬ x ∈ l.take i:=by
 intro hm
 obtain ⟨j,hj,e⟩:=List.mem_iff_getElem.mp hm
 rw [List.length_take] at hj
 rw [List.getElem_take] at e
 have hi:=Aj h
 rw [List.getElem?_eq_getElem hi] at h
 have:=(List.getElem_inj (i:=j) (j:=i) (h₀:=by omega) (h₁:=hi) nd).mp (by rw [e];exact (Option.some.inj h).symm)
 omega
theorem az5 {f:Addr} {fd:FuncData} (Z:Al K t) (F:FunD K "numbers_by_settings" "numbers_by_settings" s_za f fd .none) (T:Tab P w K mg base 0 (gb_0 K t) bl):FnOk P w K mg base CX0 1 f fd P_za (Yb K t):=by
 refine F.okW0 a68 bb8 T (a42 K t) (fun vs H Q E h=>?_) (fun vs H Q E h=>?_)
 ·obtain ⟨l,rows,rfl,_⟩:=h;rfl
 ·obtain ⟨l,rows,rfl,⟨ds,ed,⟨_,ol⟩,hd⟩,nd,hl,k⟩:=h
  intro n hn
  have ql:=SqL.of (K:=K) ol
  have len:(C6 0 (ds.map fun x=>V.ref x.2)).length=rows.length:=by rw [Ap,<- ed];simp
  refine .inr (.inl ⟨⟨_,(Same.upd hn).seqL ql⟩,?_⟩)
  refine Cr (Cg (ds.map fun x=>V.ref x.2)) (fun i σ H'=>(∃ v2 v3,σ=[some (.ref l),some (.ref n),v2,v3]) /\ Same H H' /\ H' n=some (.dT (numK 0 (rows.take i))))
   ⟨⟨_,_,rfl⟩,Same.upd hn,Ac⟩ (fun i σ H' _ q=>q.2.1.seqL ql) ?_ ?_
  ·rintro i x y T σ H1 hxy hT ⟨⟨v2,v3,rfl⟩,S1,e1⟩
   have hi':=Aj hxy
   rw [Ap,List.length_map] at hi'
   obtain ⟨⟨r,b⟩,hi⟩:∃ z,ds[i]? = some z:=⟨_,List.getElem?_eq_getElem hi'⟩
   have:=B4 (k:=0) (xs:=ds.map fun x=>V.ref x.2) (i:=i) (x:=.ref b) (by rw [List.getElem?_map,hi];rfl)
   rw [this] at hxy
   obtain ⟨rfl,rfl⟩:V.int ((0 + i:Nat):Int)=x /\ V.ref b=y:=by simpa using hxy
   have hi2:rows[i]? = some r:=by rw [<- ed,List.getElem?_map,hi];rfl
   have hb:=(hd _ (List.mem_of_getElem? hi)).2
   have ST:=Same.upd (o:=.tup [.int ((0 + i:Nat):Int),.ref b]) hT
   refine ⟨_,SqT.of Ac,rfl,?_⟩
   generalize upd H1 T (.tup [.int ((0 + i:Nat):Int),.ref b])=H2 at ST ⊢
   have S2:=S1.trans ST
   have hb2:=S2 _ _ hb
   rw [Mv] at hb2
   refine ⟨_,DPut.t (ST _ _ e1) hb2 ?_,⟨_,_,rfl⟩,S2.set hn,?_⟩
   ·rw [N9,List.length_take]
    exact Nat.lt_of_le_of_lt (show min i rows.length <= 256 by omega) (by decide)
   ·rw [Ac,Iw,List.take_add_one,hi2,Option.toList_some,K9,List.length_take,Nat.min_eq_left (Nat.le_of_lt (Aj hi2))]
    refine Bu ?_
    rw [Gb]
    intro hm
    obtain ⟨r2,h1,h2⟩:=List.mem_map.mp hm
    rw [Nt h2] at h1
    exact Jv nd hi2 h1
  ·rintro σ H1 ⟨⟨v2,v3,rfl⟩,S1,e1⟩
   rw [len,List.take_length] at e1
   exact .inl (k H1 n S1 ⟨hn,e1⟩)
theorem cat1 {H:Hp} {aa p:Addr} {a:List Str} {z:Str} {Q:VK} (ha:H aa=some (tupO a)) (hp:H p=some (.tup [.str z])) (hl:a.length <= 100) (k:∀ q H',Same H H' -> H' q=some (tupO (a ++ [z])) -> (H q=none \/ q=p) -> Q (.ref q) H'):Aq K (.ref aa) (.ref p) H Q:=by
 cases a with
 | nil=>exact .inr (.inr ⟨aa,p,_,rfl,rfl,SqT.of ha,SqT.of hp,k p H (Same.refl _) hp (.inr rfl)⟩)
 | cons y a=>
  refine .inr (.inl ⟨aa,p,_,_,rfl,rfl,SqT.of ha,SqT.of hp,by simp,?_,(fun e=>by cases e),fun _ q hq=>?_⟩)
  ·rw [List.length_map]
   exact Nat.le_trans (show (y :: a).length + 1 <= 101 by omega) (by decide)
  ·refine k q _ (Same.upd hq) ?_ (.inl hq)
   rw [Ac,tupO,List.map_append]
   rfl
theorem Tk {α:Type} {ok:Addr -> Prop} {H:Hp} {f:α -> HO} {es:List (α × Addr)} {e:α} {a:Addr} (h:∀ x ∈ es,ok x.2 /\ H x.2=some (f x.1)) (h1:ok a) (h2:H a=some (f e)):∀ x ∈ es ++ [(e,a)],ok x.2 /\ H x.2=some (f x.1):=by
 intro x hx
 rcases List.mem_append.mp hx with hx | hx
 ·exact h x hx
 ·have:x=(e,a):=by simpa using hx
  subst this
  exact ⟨h1,h2⟩
theorem Zb {α:Type} {ok:Addr -> Prop} {H H':Hp} {f:α -> HO} {es:List (α × Addr)} (S:Same H H') (h:∀ x ∈ es,ok x.2 /\ H x.2=some (f x.1)):∀ x ∈ es,ok x.2 /\ H' x.2=some (f x.1):=fun x hx=>⟨(h x hx).1,S _ _ (h x hx).2⟩
theorem Le {rows:List (List Str)} {j:Nat} {r:List Str} {x:Str × List Str} (h:rows[j]? = some r):Da (rows.take (j + 1)) x=Da (rows.take j) x ++ x.2.map fun z=>r ++ [z]:=by
 unfold Da
 rw [List.take_add_one,h,Option.toList_some,List.flatMap_append]
 simp
theorem Ps {E:EK} {H0 H:Hp} {aa ta:Addr} {a:List Str} {l:List Str} {σ:St} {R:Hp -> Addr -> Prop} (hσ:∃ v,σ=[v,some (.ref aa)]) (S0:Same H0 H) (ha:H aa=some (tupO a)) (ht:H ta=some (tupO l)) (hl:a.length <= 100) (hl2:l.length <= 8)
  (k:∀ D H',Same H H' -> H D=none -> ∀ fs:List (List Str × Addr),fs.map (·.1)=l.map (fun z=>a ++ [z]) -> H' D=some (.lst (fs.map fun x=>.ref x.2)) -> (∀ x ∈ fs,H0 x.2=none /\ H' x.2=some (tupO x.1)) -> R H' D) :
  ∀ D,H D=none -> CmpW (Itt K ta) (gdN 0) dYes (dBin (Aq K) (dVar 1) (dTup (Ab (dVar 0) dNil))) D (fun H'=>R H' D) σ (upd H D (.lst [])) E:=by
 intro D hD
 refine De (Qt (l.map V.str)) (fun m σ H'=>(∃ v,σ=[v,some (.ref aa)]) /\ Same H H' /\ ∃ fs:List (List Str × Addr),fs.map (·.1)=(l.take m).map (fun z=>a ++ [z]) /\ H' D=some (.lst (fs.map fun x=>.ref x.2)) /\ ∀ x ∈ fs,H0 x.2=none /\ H' x.2=some (tupO x.1))
  ⟨hσ,Same.upd hD,[],rfl,Ac,fun x hx=>by cases hx⟩ (fun m σ H' _ q=>q.2.1.seqT (SqT.of ht)) ?_ ?_
 ·rintro m x σ H1 hx ⟨⟨v,rfl⟩,S1,fs,ef,eD,hf⟩
  obtain ⟨z,hz,rfl⟩:=Ak hx
  refine ⟨(show 1 <= sizeLine by decide),fun p hp=>?_⟩
  have Sp:=Same.upd (o:=.tup [.str z]) hp
  have ep:upd H1 p (.tup [.str z]) p=some (.tup [.str z]):=Ac
  show Aq K (.ref aa) (.ref p) (upd H1 p (.tup [.str z])) _
  generalize upd H1 p (.tup [.str z])=H2 at Sp ep ⊢
  refine cat1 (Sp _ _ (S1 _ _ ha)) ep hl fun q H3 S3 eq nq=>?_
  have S03:=S0.trans (S1.trans (Sp.trans S3))
  have hq0:H0 q=none:=by
   rcases nq with nq | rfl
   ·exact (S0.trans (S1.trans Sp)).free nq
   ·exact (S0.trans S1).free hp
  have qD:q ≠ D:=by
   rcases nq with nq | rfl
   ·exact (Af (Sp _ _ eD) nq).symm
   ·exact (Af eD hp).symm
  have eD3:=S3 _ _ (Sp _ _ eD)
  refine ⟨_,eD3,?_,⟨_,rfl⟩,(S1.trans (Sp.trans S3)).set hD,fs ++ [(a ++ [z],q)],?_,?_,?_⟩
  ·rw [List.length_map]
   have:=congrArg List.length ef
   rw [List.length_map,List.length_map,List.length_take] at this
   exact Nat.lt_of_le_of_lt (show fs.length <= 8 by omega) (by decide)
  ·rw [List.map_append,ef,Cf hz];rfl
  ·rw [Ac,List.map_append];rfl
  ·have hf3:∀ x ∈ fs ++ [(a ++ [z],q)],H0 x.2=none /\ H3 x.2=some (tupO x.1):=Tk (ok:=fun a=>H0 a=none) (f:=tupO) (Zb (ok:=fun a=>H0 a=none) (f:=tupO) (Sp.trans S3) hf) hq0 eq
   intro x hx
   refine ⟨(hf3 x hx).1,?_⟩
   rw [Ad (fun e=>by have:=(hf3 x hx).2;rw [e,eD3] at this;cases this)]
   exact (hf3 x hx).2
 ·rintro σ H1 ⟨_,S1,fs,ef,eD,hf⟩
  rw [List.length_map,List.take_length] at ef
  exact k D H1 S1 hD fs ef eD hf
theorem az6 {f:Addr} {fd:FuncData} (Z:Al K t) (F:FunD K "settings_of_choices" "settings_of_choices" s_zb f fd .none) (T:Tab P w K mg base 0 (gb_0 K t) bl):FnOk P w K mg base CX0 1 f fd P_zb (Yc K t):=by
 refine F.okW0 a69 bb9 T (a43 K t) (fun vs H Q E h=>?_) (fun vs H Q E h=>?_)
 ·obtain ⟨d,sw,rfl,_⟩:=h;rfl
 ·obtain ⟨d,sw,rfl,⟨ds,ed,⟨_,od⟩,hd⟩,hw,k⟩:=h
  refine ⟨(show 0 <= sizeLine by decide),fun t0 h0=>⟨(show 1 <= sizeLine by decide),fun l0 hl0=>?_⟩⟩
  have St:=Same.upd (o:=.tup []) h0
  have Sl:=Same.upd (o:=.lst [.ref t0]) hl0
  have ft:H t0=none:=h0
  have fl:H l0=none:=St.free hl0
  have et:upd (upd H t0 (.tup [])) l0 (.lst [.ref t0]) t0=some (tupO []):=Sl _ _ Ac
  have el:upd (upd H t0 (.tup [])) l0 (.lst [.ref t0]) l0=some (.lst [.ref t0]):=Ac
  have S0:=St.trans Sl
  generalize upd (upd H t0 (.tup [])) l0 (.lst [.ref t0])=H0 at S0 et el ⊢
  have od0:=S0 _ _ od
  refine .inr (.inr (.inl ⟨_,od0,fun o=>?_⟩))
  have len:ds.length=sw.length:=by rw [<- ed];simp
  have kf:Kp (fresh H) H0 (fresh H) (upd H0 d (.frz o (.dK (ds.map kR)))):=Kp.off (B5 od)
  have ef:upd H0 d (.frz o (.dK (ds.map kR))) d=some (.frz o (.dK (ds.map kR))):=Ac
  have ht0:∀ x ∈ ds,upd H0 d (.frz o (.dK (ds.map kR))) x.2=some (tupO x.1.2):=fun x hx=>by
   rw [Ad (fun e=>by have:=(hd x hx).2;rw [e,od] at this;cases this)]
   exact S0 _ _ (hd x hx).2
  have T0:TupsAt (fresh H) (upd H0 d (.frz o (.dK (ds.map kR)))) l0 (Ah (sw.take 0)):=⟨[([],t0)],rfl,kf _ _ ⟨fl,el⟩,fun x hx=>by
   have:x=([],t0):=by simpa using hx
   subst this
   exact kf _ _ ⟨ft,et⟩⟩
  have frees:∀ {H':Hp} {b:Addr},Same (upd H0 d (.frz o (.dK (ds.map kR)))) H' -> H' b=none -> H b=none:=fun {H' b} S e=>by
   have e1:=S.free e
   have nb:b ≠ d:=fun z=>by rw [z,ef] at e1;cases e1
   rw [Ad nb] at e1
   exact S0.free e1
  generalize hHf:upd H0 d (.frz o (.dK (ds.map kR)))=Hf at kf ef ht0 T0 frees ⊢
  refine Av (Dm (ds.map kR)) (fun i σ H'=>(∃ l v2 v3 v4,σ=[some (.ref d),some (.ref l),v2,v3,v4] /\ TupsAt (fresh H) H' l (Ah (sw.take i))) /\ Same Hf H') ⟨⟨_,_,_,_,rfl,T0⟩,Same.refl _⟩ (fun i σ H' _ q=>q.2 _ _ ef) ?_ ?_
  ·rintro i x σ H1 hx ⟨⟨l,v2,v3,v4,rfl,⟨es,ee,⟨fl1,el1⟩,he⟩⟩,S1⟩
   obtain ⟨kv,hi0,rfl⟩:=Ak hx
   obtain ⟨⟨e,ta⟩,hi,rfl⟩:=Ak hi0
   have hi2:sw[i]? = some e:=by rw [<- ed,List.getElem?_map,hi];rfl
   have hta:=ht0 _ (List.mem_of_getElem? hi)
   have hoke:=hw.sets e (List.mem_of_getElem? hi2)
   have hv:valV (ds.map kR) (.inr e.1)=some (.ref ta):=Az (Bx ed hw.2.2.1) hi0
   refine ⟨by decide,fun l2 hl2=>.inl ⟨⟨_,(Same.upd hl2).seqL (SqL.of el1)⟩,?_⟩⟩
   have f2:H l2=none:=frees S1 hl2
   have Sl2:=Same.upd (o:=.lst []) hl2
   have rl:∀ r ∈ Ah (sw.take i),r.length <= 100:=fun r hr=>by
    have h1:=(Ej (sw:=sw.take i) (fun x hx=>hw.sets x (List.mem_of_mem_take hx))).2.1 r hr
    rw [h1,List.length_take]
    have:=hw.2.1
    omega
   have lenr:es.length=(Ah (sw.take i)).length:=by rw [<- ee];simp
   have few:(Ah (sw.take i)).length <= 256:=by rw [Fn];exact Nat.le_trans (Lc hw i) hw.2.2.2.2
   refine Av (Au (es.map fun x=>V.ref x.2)) (fun j σ H'=>(∃ v4,σ=[some (.ref d),some (.ref l),some (.str e.1),some (.ref l2),v4]) /\ Same H1 H' /\ ∃ fs:List (List Str × Addr),fs.map (·.1)=Da ((Ah (sw.take i)).take j) e /\
     H' l2=some (.lst (fs.map fun x=>.ref x.2)) /\ ∀ x ∈ fs,H x.2=none /\ H' x.2=some (tupO x.1))
    ⟨⟨_,rfl⟩,Sl2,[],rfl,Ac,fun x hx=>by cases hx⟩ (fun j σ H' _ q=>q.2.1.seqL (SqL.of el1)) ?_ ?_
   ·rintro j y σ H2 hy ⟨⟨v4,rfl⟩,S2,fs,efs,e2l,hf⟩
    obtain ⟨⟨r,ra⟩,hj,rfl⟩:=Ak hy
    have hj2:(Ah (sw.take i))[j]? = some r:=by rw [<- ee,List.getElem?_map,hj];rfl
    obtain ⟨_,hra⟩:=he _ (List.mem_of_getElem? hj)
    have S12:=S1.trans S2
    refine ⟨.inl ⟨rfl,_,SqL.of e2l⟩,.ref ta,.inl ⟨_,.inr e.1,.inr ⟨o,S12 _ _ ef⟩,rfl,hv.symm⟩,.inr (.inl ⟨⟨_,SqT.of (S12 _ _ hta)⟩,?_⟩)⟩
    refine Ps (H0:=H1) ⟨_,rfl⟩ S2 (S2 _ _ hra) (S12 _ _ hta) (rl r (List.mem_of_getElem? hj2)) (Nat.le_trans hoke.2.2 (by decide)) fun D H3 S3 hD gs eg eD hg=>?_
    have e3l:=S3 _ _ e2l
    have lfs:fs.length <= 1024:=by
     have:=congrArg List.length efs
     rw [List.length_map,Gh,List.length_take] at this
     have h4:=hoke.2.2
     have:min j (Ah (sw.take i)).length * e.2.length <= 256 * 4:=Nat.mul_le_mul (by omega) h4
     omega
    have lgs:gs.length <= 4:=by
     have h1:gs.length=e.2.length:=by simpa using congrArg List.length eg
     have h2:e.2.length <= 4:=hoke.2.2
     omega
    refine ⟨l2,D,_,_,rfl,rfl,e3l,eD,?_,⟨_,rfl⟩,(S2.trans S3).set hl2,fs ++ gs,?_,?_,?_⟩
    ·rw [List.length_map,List.length_map]
     exact Nat.le_trans (show fs.length + gs.length <= 1028 by omega) (by decide)
    ·rw [List.map_append,efs,eg,Le hj2]
    ·rw [Ac,List.map_append]
    ·have h3:∀ x ∈ fs ++ gs,H x.2=none /\ H3 x.2=some (tupO x.1):=fun x hx=>by
      rcases List.mem_append.mp hx with hx | hx
      ·exact ⟨(hf x hx).1,S3 _ _ (hf x hx).2⟩
      ·exact ⟨frees S1 (hg x hx).1,(hg x hx).2⟩
     intro x hx
     refine ⟨(h3 x hx).1,?_⟩
     rw [Ad (fun e=>by have:=(h3 x hx).2;rw [e,e3l] at this;cases this)]
     exact (h3 x hx).2
   ·rintro σ H2 ⟨⟨v4,rfl⟩,S2,fs,efs,e2l,hf⟩
    rw [List.length_map,lenr,List.take_length] at efs
    refine .inl ⟨⟨_,_,_,_,rfl,fs,?_,⟨f2,e2l⟩,hf⟩,S1.trans S2⟩
    rw [efs]
    exact (Cl hi2 _ _).symm
  ·rintro σ H1 ⟨⟨l,v2,v3,v4,rfl,T1⟩,S1⟩
   rw [List.length_map,List.length_map,len,List.take_length] at T1
   refine .inr ⟨d,o,_,od0,S1 _ _ ef,?_⟩
   exact k _ l (S0.trans (Same.thaw od0 (hHf ▸ S1))) (T1.mono (Kp.off (B5 od)))
def Off (d:Addr) (H H':Hp):Prop:=∀ b u,b ≠ d -> H b=some u -> H' b=some u
theorem Off.up {d:Addr} {H H1 H2:Hp} (h:Off d H H1) (S:Same H1 H2):Off d H H2:=fun b u n e=>S _ _ (h b u n e)
theorem Off.set {d a:Addr} {o:HO} {H H1:Hp} (h:Off d H H1) (e:H a=none):Off d H (upd H1 a o):=fun b u n q=>by rw [Ad (Af q e)];exact h b u n q
theorem Off.free {d b:Addr} {H H1:Hp} (h:Off d H H1) (n:b ≠ d) (e:H1 b=none):H b=none:=by
 cases q:H b with
 | none=>rfl
 | some u=>rw [h b u n q] at e;cases e
theorem Off.thaw {d:Addr} {kvs:List (Key × V)} {H H1:Hp} (h:Off d H H1) (e:H d=some (.dK kvs)):Same H (upd H1 d (.dK kvs)):=fun b u q=>by
 by_cases n:b=d
 ·subst n;rw [Ac,<- e,q]
 ·rw [Ad n];exact h b u n q
theorem Kw (p:Nat) (z:Str):∀ (a:List (List Str)) (r:List Str) (k:Nat),havM p z k (a ++ [r])=havM p z k a ++ (if r[p]? = some z then [k + a.length] else [])
 | [],r,k=>by
  rw [List.nil_append,havM,havM,havM,List.nil_append]
  rfl
 | b :: a,r,k=>by
  rw [List.cons_append,havM,havM,Kw p z a r (k + 1),List.length_cons,show k + 1 + a.length=k + (a.length + 1) by omega]
  split <;> simp
theorem L8 (p:Nat) (z:Str):∀ (a:List (List Str)) (k n:Nat),n ∈ havM p z k a -> n < k + a.length
 | [],k,n,h=>by cases h
 | b :: a,k,n,h=>by
  rw [havM] at h
  rw [List.length_cons]
  split at h
  ·rcases List.mem_cons.mp h with h | h
   ·omega
   ·have:=L8 p z a (k + 1) n h;omega
  ·have:=L8 p z a (k + 1) n h;omega
theorem Id (p:Nat) (z:Str):∀ (a:List (List Str)) (k:Nat),(havM p z k a).length <= a.length
 | [],k=>Nat.le_refl _
 | b :: a,k=>by
  rw [havM,List.length_cons]
  split
  ·rw [List.length_cons];have:=Id p z a (k + 1);omega
  ·have:=Id p z a (k + 1);omega
theorem Ef {α:Type} {ds:List (α × Addr)} {i:Nat} {x y:V} (h:(C6 0 (ds.map fun x=>V.ref x.2))[i]? = some (x,y)):∃ z,ds[i]? = some z /\ x = .int (i:Int) /\ y = .ref z.2:=by
 have hi:=Aj h
 rw [Ap,List.length_map] at hi
 refine ⟨_,List.getElem?_eq_getElem hi,?_⟩
 have:=B4 (k:=0) (xs:=ds.map fun x=>V.ref x.2) (i:=i) (x:=.ref ds[i].2) (by rw [List.getElem?_map,List.getElem?_eq_getElem hi];rfl)
 rw [this,Nat.zero_add] at h
 obtain ⟨rfl,rfl⟩:V.int (i:Int)=x /\ V.ref ds[i].2=y:=by simpa using h
 exact ⟨rfl,rfl⟩
theorem aj3 {E:EK} {H:Hp} {l:Addr} {ds:List (List Str × Addr)} {rows:List (List Str)} {i:Nat} {z:Str} {R:Hp -> Addr -> Prop} (ed:ds.map (·.1)=rows) (ol:H l=some (.lst (ds.map fun x=>.ref x.2))) (hd:∀ x ∈ ds,H x.2=some (tupO x.1)) (hr:∀ r ∈ rows,i < r.length) (few:rows.length <= 256)
  (k:∀ D H',Same H H' -> H D=none -> H' D=some (.lst ((havM i z 0 rows).map fun n:Nat=>V.int (n:Int))) -> R H' D) :
  ∀ D,H D=none -> CmpW (Ite K l) (gdT K 2 [gdN 0,gdN 1]) (dTst (dBin (rEqD K false) (dBin (rIxD K) (dVar 1) (dVar 2)) (dVar 3))) (dVar 0) D (fun H'=>R H' D) [none,none,some (.int (i:Int)),some (.str z)] (upd H D (.lst [])) E:=by
 intro D hD
 have len:(C6 0 (ds.map fun x=>V.ref x.2)).length=rows.length:=by rw [Ap,<- ed];simp
 refine Q6 (Cg (ds.map fun x=>V.ref x.2)) (fun m σ H'=>(∃ v0 v1,σ=[v0,v1,some (.int (i:Int)),some (.str z)]) /\ Same H H' /\ H' D=some (.lst ((havM i z 0 (rows.take m)).map fun n:Nat=>V.int (n:Int))))
  ⟨⟨_,_,rfl⟩,Same.upd hD,Ac⟩ (fun m σ H' _ q=>q.2.1.seqL (SqL.of ol)) ?_ ?_
 ·rintro m x y T σ H1 hxy hT ⟨⟨v0,v1,rfl⟩,S1,eD⟩
  obtain ⟨⟨r,b⟩,hm,rfl,rfl⟩:=Ef hxy
  have hm2:rows[m]? = some r:=by rw [<- ed,List.getElem?_map,hm];rfl
  have hb:=hd _ (List.mem_of_getElem? hm)
  have hi:=hr r (List.mem_of_getElem? hm2)
  have ST:=Same.upd (o:=.tup [.int (m:Int),.ref b]) hT
  refine ⟨_,SqT.of Ac,rfl,?_⟩
  show dTst _ [some (.int (m:Int)),some (.ref b),some (.int (i:Int)),some (.str z)] (upd H1 T (.tup [.int (m:Int),.ref b])) _ _
  generalize upd H1 T (.tup [.int (m:Int),.ref b])=H2 at ST ⊢
  have S2:=S1.trans ST
  have eD2:=ST _ _ eD
  have mm:min m rows.length=m:=Nat.min_eq_left (Nat.le_of_lt (Aj hm2))
  have he:havM i z 0 (rows.take (m + 1))=havM i z 0 (rows.take m) ++ (if r[i]? = some z then [m] else []):=by
   rw [List.take_add_one,hm2,Option.toList_some,Kw,List.length_take,mm,Nat.zero_add]
  refine ⟨_,_,.inr (SqT.of (S2 _ _ hb)),B6 (j:=i) (by rw [List.getElem?_map,List.getElem?_eq_getElem hi];rfl),?_⟩
  rw [List.getElem?_eq_getElem hi] at he
  show if decide (r[i]=z)=true then _ else _
  refine ite2 (fun e=>?_) (fun e=>?_)
  ·have e:r[i]=z:=by simpa using e
   rw [if_pos (by rw [e])] at he
   refine ⟨_,eD2,?_,⟨_,_,rfl⟩,S2.set hD,?_⟩
   ·rw [List.length_map]
    have h1:=Id i z (rows.take m) 0
    rw [List.length_take] at h1
    exact Nat.lt_of_le_of_lt (show (havM i z 0 (rows.take m)).length <= 256 by omega) (by decide)
   ·rw [Ac,he,List.map_append];rfl
  ·have e:¬ r[i]=z:=by simpa using e
   rw [if_neg (by simpa using e),List.append_nil] at he
   exact ⟨⟨_,_,rfl⟩,S2,by rw [he];exact eD2⟩
 ·rintro σ H1 ⟨_,S1,eD⟩
  rw [len,List.take_length] at eD
  exact k D H1 S1 hD eD
theorem U1 {rows:List (List Str)} {i m:Nat} {l:List Str} {z:Str} (hz:l[m]? = some z) (nd:l.Nodup) :
  putK ((l.take m).map fun z=>((.inr z:Key),V.int (Ct rows i z))) (.inr z) (.int (Ct rows i z))=(l.take (m + 1)).map fun z=>((.inr z:Key),V.int (Ct rows i z)):=by
 rw [Iw,Cf hz]
 refine Bu ?_
 rw [List.map_map]
 intro hm
 obtain ⟨y,hy,e⟩:=List.mem_map.mp hm
 have e:y=z:=by injection e
 subst e
 exact Jv nd hz hy
theorem a01 {f:Addr} {fd:FuncData} (Z:Al K t) (F:FunD K "sets_of_settings" "sets_of_settings" s_zg f fd .none) (T:Tab P w K mg base 1 (gb_1 K t) bl):FnOk P w K mg base CX0 2 f fd P_zg (Yd K t):=by
 refine F.okW0 a74 bc4 T (a48 K t) (fun vs H Q E h=>?_) (fun vs H Q E h=>?_)
 ·obtain ⟨d,l,sw,rfl,_⟩:=h;rfl
 ·obtain ⟨d,l,sw,rfl,⟨ds,ed,⟨_,od⟩,hd⟩,⟨ts,et,⟨_,ol⟩,htp⟩,hw,k⟩:=h
  intro s hs
  have nds:d ≠ s:=Af od hs
  have nld:l ≠ d:=fun e=>by rw [e,od] at ol;cases ol
  have od1:upd H s (.dK []) d=some (.dK (ds.map kR)):=by rw [Ad nds];exact od
  refine .inl (.inr (.inl ⟨_,od1,fun o=>?_⟩))
  have O0:Off d H (upd (upd H s (.dK [])) d (.frz o (.dK (ds.map kR)))):=fun b u n e=>by rw [Ad n,Ad (Af e hs)];exact e
  have ef:upd (upd H s (.dK [])) d (.frz o (.dK (ds.map kR))) d=some (.frz o (.dK (ds.map kR))):=Ac
  have es0:upd (upd H s (.dK [])) d (.frz o (.dK (ds.map kR))) s=some (.dK []):=by rw [Ad (Ne.symm nds),Ac]
  have len:(C6 0 ((ds.map kR).map fun kv=>kV kv.1)).length=sw.length:=by rw [Ap,<- ed];simp
  have few:=hw.len
  have rlen:=(Ej hw.sets).2.1
  show ForW (Itde d o (ds.map kR)) _ _ _ [some (.ref d),some (.ref l),some (.ref s),none,none,none,none] _
  generalize upd (upd H s (.dK [])) d (.frz o (.dK (ds.map kR)))=H0 at O0 ef es0 ⊢
  refine Cr (Yz (ds.map kR)) (fun i σ H'=>(∃ v3 v4 v5 v6,σ=[some (.ref d),some (.ref l),some (.ref s),v3,v4,v5,v6]) /\ Off d H H' /\ H' d=some (.frz o (.dK (ds.map kR))) /\
    ∃ es:List ((Str × List Str) × Addr),es.map (·.1)=sw.take i /\ H' s=some (.dK (es.map kR)) /\ ∀ j x,es[j]? = some x -> H x.2=none /\ H' x.2=some (setO (Ah sw) j x.1.2))
   ⟨⟨_,_,_,_,rfl⟩,O0,ef,[],rfl,es0,fun j x hx=>by simp at hx⟩ (fun i σ H' _ q=>q.2.2.1) ?_ ?_
  ·rintro i x y T σ H1 hxy hT ⟨⟨v3,v4,v5,v6,rfl⟩,O1,f1,es,ee,e1s,he⟩
   have hi':=Aj hxy
   rw [len] at hi'
   have hids:i < ds.length:=by rw [<- ed,List.length_map] at hi';exact hi'
   obtain ⟨⟨e,ta⟩,hi⟩:∃ z,ds[i]? = some z:=⟨_,List.getElem?_eq_getElem hids⟩
   have hxy2:=B4 (k:=0) (xs:=(ds.map kR).map fun kv=>kV kv.1) (i:=i) (x:=.str e.1) (by rw [List.getElem?_map,List.getElem?_map,hi];rfl)
   rw [hxy2,Nat.zero_add] at hxy
   obtain ⟨rfl,rfl⟩:V.int (i:Int)=x /\ V.str e.1=y:=by simpa using hxy
   have hi2:sw[i]? = some e:=by rw [<- ed,List.getElem?_map,hi];rfl
   have hta:=(hd _ (List.mem_of_getElem? hi)).2
   have nta:ta ≠ d:=fun z=>by rw [z,od] at hta;cases hta
   have hoke:=hw.sets e (List.mem_of_getElem? hi2)
   have hv:valV (ds.map kR) (.inr e.1)=some (.ref ta):=Az (Bx ed hw.2.2.1) (by rw [List.getElem?_map,hi];rfl)
   have nk:=Hn ee hi2 hw.2.2.1
   have les:es.length=i:=by
    have:=congrArg List.length ee
    rw [List.length_map,List.length_take] at this
    omega
   have ST:=Same.upd (o:=.tup [.int (i:Int),.str e.1]) hT
   refine ⟨_,SqT.of Ac,rfl,?_⟩
   show dSeq _ _ _ [some (.ref d),some (.ref l),some (.ref s),some (.int (i:Int)),some (.str e.1),v5,v6] (upd H1 T (.tup [.int (i:Int),.str e.1]))
   generalize upd H1 T (.tup [.int (i:Int),.str e.1])=H2 at ST ⊢
   have O2:=O1.up ST
   have f2:=ST _ _ f1
   have e2s:=ST _ _ e1s
   intro q hq
   have nqd:q ≠ d:=(Af f2 hq).symm
   have nqs:q ≠ s:=(Af e2s hq).symm
   have fq:H q=none:=O2.free nqd hq
   have Sq:=Same.upd (o:=.dK []) hq
   have eq:upd H2 q (.dK []) q=some (.dK []):=Ac
   refine .inl ?_
   show Cm K (dVar 2) (dVar 4) (.ref q) [some (.ref d),some (.ref l),some (.ref s),some (.int (i:Int)),some (.str e.1),v5,v6] (upd H2 q (.dK [])) _
   generalize upd H2 q (.dK [])=H3 at Sq eq ⊢
   refine ⟨_,DPut.k (k:=.inr e.1) (Sq _ _ e2s) ?_,?_⟩
   ·rw [List.length_map]
    have:=hw.2.1
    exact Nat.lt_of_le_of_lt (show es.length <= 5 by omega) (by decide)
   rw [Fh nk]
   have O4:Off d H (upd H3 s (.dK ((es ++ [(e,q)]).map kR))):=(O2.up Sq).set hs
   have f4:upd H3 s (.dK ((es ++ [(e,q)]).map kR)) d=some (.frz o (.dK (ds.map kR))):=by rw [Ad nds];exact Sq _ _ f2
   have e4s:upd H3 s (.dK ((es ++ [(e,q)]).map kR)) s=some (.dK ((es ++ [(e,q)]).map kR)):=Ac
   have e4q:upd H3 s (.dK ((es ++ [(e,q)]).map kR)) q=some (setO (Ah sw) i (e.2.take 0)):=by rw [Ad nqs];exact eq
   have he4:∀ j x,es[j]? = some x -> H x.2=none /\ upd H3 s (.dK ((es ++ [(e,q)]).map kR)) x.2=some (setO (Ah sw) j x.1.2) /\ x.2 ≠ q /\ x.2 ≠ s:=fun j x hx=>by
    obtain ⟨a1,a2⟩:=he j x hx
    have b1:=Af (ST _ _ a2) hq
    have b2:x.2 ≠ s:=fun z=>by
     rw [z,e1s] at a2
     unfold setO at a2
     have a3:es.map kR=x.1.2.map fun z=>((.inr z:Key),V.int (Ct (Ah sw) j z)):=by injection (Option.some.inj a2)
     have m1:kR x ∈ es.map kR:=List.mem_map_of_mem (List.mem_of_getElem? hx)
     rw [a3] at m1
     obtain ⟨y,_,hy⟩:=List.mem_map.mp m1
     injection hy with _ hy
     cases hy
    refine ⟨a1,?_,b1,b2⟩
    rw [Ad b2];exact Sq _ _ (ST _ _ a2)
   generalize upd H3 s (.dK ((es ++ [(e,q)]).map kR))=H4 at O4 f4 e4s e4q he4 ⊢
   have nd4:(((es ++ [(e,q)]).map kR).map (·.1)).Nodup:=Bx (Cq ee hi2) (by rw [List.map_take];exact hw.2.2.1.sublist (List.take_sublist _ _))
   have hq4:valV ((es ++ [(e,q)]).map kR) (.inr e.1)=some (.ref q):=Az (i:=es.length) nd4 (by rw [List.getElem?_map,List.getElem?_append_right (Nat.le_refl _),Nat.sub_self];rfl)
   refine ⟨.ref ta,.inl ⟨_,.inr e.1,.inr ⟨o,f4⟩,rfl,hv.symm⟩,.inr (.inl ⟨⟨_,SqT.of (O4 _ _ nta hta)⟩,?_⟩)⟩
   refine Av (Qt (e.2.map V.str)) (fun m σ H'=>(∃ v5 v6,σ=[some (.ref d),some (.ref l),some (.ref s),some (.int (i:Int)),some (.str e.1),v5,v6]) /\ Off d H H' /\ H' d=some (.frz o (.dK (ds.map kR))) /\ H' s=some (.dK ((es ++ [(e,q)]).map kR)) /\
     H' q=some (setO (Ah sw) i (e.2.take m)) /\ ∀ j x,es[j]? = some x -> H' x.2=some (setO (Ah sw) j x.1.2))
    ⟨⟨_,_,rfl⟩,O4,f4,e4s,e4q,fun j x hx=>(he4 j x hx).2.1⟩ (fun m σ H' _ q=>SqT.of (q.2.1 _ _ nta hta)) ?_ ?_
   ·rintro m x σ H5 hx ⟨⟨v5,v6,rfl⟩,O5,f5,e5s,e5q,he5⟩
    obtain ⟨z,hz,rfl⟩:=Ak hx
    refine .inl ⟨⟨_,SqL.of (O5 _ _ nld ol)⟩,?_⟩
    refine aj3 et (O5 _ _ nld ol) (fun x hx=>O5 _ _ (fun e=>by have:=(htp x hx).2;rw [e,od] at this;cases this) (htp x hx).2) (fun r hr=>by rw [rlen r hr];exact hi') few fun D H6 S6 hD eD=>?_
    refine ⟨D,_,rfl,SqL.of eD,(fun n hn=>?_),?_⟩
    ·have:=L8 i z (Ah sw) 0 n hn
     omega
    show Cm K (dBin (rIxD K) (dVar 2) (dVar 4)) (dVar 5) (.int (Ct (Ah sw) i z)) [some (.ref d),some (.ref l),some (.ref s),some (.int (i:Int)),some (.str e.1),some (.str z),some (.ref D)] H6 _
    refine ⟨.ref q,.inl ⟨_,.inr e.1,.inl (S6 _ _ e5s),rfl,hq4.symm⟩,_,DPut.k (k:=.inr z) (S6 _ _ e5q) ?_,?_⟩
    ·rw [List.length_map,List.length_take]
     have:=hoke.2.2
     exact Nat.lt_of_le_of_lt (show min m e.2.length <= 4 by omega) (by decide)
    rw [U1 hz hoke.1.2.1]
    refine ⟨⟨_,_,rfl⟩,(O5.up S6).set fq,?_,?_,Ac,fun j x hx=>?_⟩
    ·rw [Ad (Ne.symm nqd)];exact S6 _ _ f5
    ·rw [Ad (Ne.symm nqs)];exact S6 _ _ e5s
    ·rw [Ad (he4 j x hx).2.2.1];exact S6 _ _ (he5 j x hx)
   ·rintro σ H5 ⟨⟨v5,v6,rfl⟩,O5,f5,e5s,e5q,he5⟩
    rw [List.length_map,List.take_length] at e5q
    refine .inl ⟨⟨_,_,_,_,rfl⟩,O5,f5,es ++ [(e,q)],Cq ee hi2,e5s,fun j x hx=>?_⟩
    by_cases hj:j < es.length
    ·rw [List.getElem?_append_left hj] at hx
     exact ⟨(he4 j x hx).1,he5 j x hx⟩
    ·have hj2:=Aj hx
     rw [List.length_append] at hj2
     have hj3:j=es.length:=by have:[(e,q)].length=1:=rfl;omega
     subst hj3
     rw [List.getElem?_append_right (Nat.le_refl _),Nat.sub_self] at hx
     have:(e,q)=x:=by simpa using hx
     subst this
     rw [les]
     exact ⟨fq,e5q⟩
  ·rintro σ H1 ⟨⟨v3,v4,v5,v6,rfl⟩,O1,f1,es,ee,e1s,he⟩
   rw [len,List.take_length] at ee
   refine .inr ⟨d,o,_,od1,f1,?_⟩
   refine k _ s (O1.thaw od) ⟨es,ee,⟨hs,?_⟩,fun j x hx=>⟨(he j x hx).1,?_⟩⟩
   ·rw [Ad (Ne.symm nds)];exact e1s
   ·rw [Ad (fun z=>by have:=(he j x hx).1;rw [z,od] at this;cases this)];exact (he j x hx).2
theorem Fx (l:List Str):(l.map V.str).all A7=true:=by rw [List.all_map,List.all_eq_true];exact fun _ _=>rfl
theorem Iv {sw:Sw} {i:Nat} {x:Str × List Str} (h:sw[i]? = some x) (nd:(sw.map (·.1)).Nodup):C1 sw x.1=i:=by
 have hi:=Aj h
 have ex:sw[i]=x:=by rw [List.getElem?_eq_getElem hi] at h;exact Option.some.inj h
 unfold C1
 rw [List.findIdx_eq hi]
 refine ⟨by rw [ex];simp,fun j hj=>?_⟩
 have hj2:j < sw.length:=by omega
 refine decide_eq_false fun e=>?_
 have:=(List.getElem_inj (i:=j) (j:=i) (h₀:=by rw [List.length_map];exact hj2) (h₁:=by rw [List.length_map];exact hi) nd).mp (by rw [List.getElem_map,List.getElem_map,e,ex])
 omega
theorem Ow {rows:List (List Str)} {i:Nat} {l:List Str} {z:Str} (nd:l.Nodup) (h:z ∈ l):valV (l.map fun z=>((.inr z:Key),V.int (Ct rows i z))) (.inr z)=some (.int (Ct rows i z)):=by
 obtain ⟨j,hj,e⟩:=List.mem_iff_getElem.mp h
 refine Az (i:=j) ?_ ?_
 ·rw [List.map_map];exact K8 nd
 ·rw [List.getElem?_map,List.getElem?_eq_getElem hj,e];rfl
theorem X4 {H:Hp} {z:Str} {D:Outs} {σ:St} {C:Addr} (en:ECls K C) (k:∀ a,H a=none -> D.ex σ a (upd (upd H a (excO a C none)) a (flO a C none))) :
  Be K (dFn (fun vs H Q E=>vs.length <= 1000 /\ mkX C none 0 vs H Q E) (Ab (dC (.str z)) dNil)) D σ H:=⟨Nat.le_of_ble_eq_true rfl,fun a ha=>⟨C,none,Ac,en,k a ha⟩⟩
theorem Ci {H:Hp} {E:XK} (Z:Al K t) {z:Str} {Q:VK} {σ:St} (k:BadC t H E):Be K (dFn (fun vs H Q E=>vs.length <= 1000 /\ mkX t.c_zaz none 0 vs H Q E) (Ab (dC (.str z)) dNil)) (ad4 Q E) σ H:=
 X4 Z.ec fun a ha=>k _ a (fun b o e=>by rw [Ad (Af e ha),Ad (Af e ha)];exact e) Ac
theorem ai2 {H H1:Hp} {E:XK} (S:Same H H1) (k:BadC t H E):BadC t H1 E:=fun H' e S' q=>k H' e (S.trans S') q
theorem Ys {rows:List (List Str)} {i:Nat} {l:List Str} {z:Str} (h:z ∉ l):valV (l.map fun z=>((.inr z:Key),V.int (Ct rows i z))) (.inr z)=none:=by
 refine Bu fun q=>h ?_
 rw [List.map_map] at q
 obtain ⟨y,hy,e⟩:=List.mem_map.mp q
 cases e
 exact hy
theorem Os {l:List Str} {x:List Str} (nd:l.Nodup) (h:∀ z ∈ l,z ∈ x):l.length <= x.length:=by
 induction l generalizing x with
 | nil=>exact Nat.zero_le _
 | cons a l ih=>
  obtain ⟨na,nd⟩:=List.nodup_cons.mp nd
  have ha:=h a List.mem_cons_self
  have:=ih (x:=x.erase a) nd fun z hz=>(List.mem_erase_of_ne (fun e:z=a=>na (e ▸ hz))).mpr (h z (List.mem_cons_of_mem _ hz))
  rw [List.length_erase_of_mem ha] at this
  have:0 < x.length:=List.length_pos_of_mem ha
  rw [List.length_cons]
  omega
theorem EntV.off {H H1:Hp} {r:Addr} {kvs:List (Key × V)} {k:Key} {v:V} {o:Option (Str × List Str)} (hr:H r=some (.dK kvs)) (O:∀ b u,b ≠ r -> H b=some u -> H1 b=some u) (h:EntV H k v o):EntV H1 k v o:=by
 cases o with
 | some e=>
  obtain ⟨a,b,p,c,d⟩:=h
  exact ⟨a,b,p,c,O _ _ (fun z=>by rw [z,hr] at d;cases d) d⟩
 | none=>
  refine h.imp id fun ⟨w,e,n⟩=>⟨w,e,?_⟩
  rcases n with n | n | ⟨a,xs,e1,e2⟩
  ·exact .inl n
  ·exact .inr (.inl n)
  ·exact .inr (.inr ⟨a,xs,e1,O _ _ (fun z=>by rw [z,hr] at e2;cases e2) e2⟩)
theorem G4 {H:Hp} {r:Addr} {sw rule:Sw} (hrl:RuleAt any H r rule) (h1:rule.length <= 100) (h2:(rule.map (·.1)).Nodup) (h3:∀ e ∈ rule,Bi sw e):∃ kvs,BoxV H r kvs (rule.map some):=by
 obtain ⟨ds,ed,⟨_,od⟩,hd⟩:=hrl
 have len:ds.length=rule.length:=by rw [<- ed];simp
 refine ⟨_,od,by simp [len],by rw [List.length_map];omega,Bx ed h2,fun i k v o hi ho=>?_⟩
 obtain ⟨⟨e,la⟩,hi2,eq⟩:=Ak hi
 obtain ⟨e',he',rfl⟩:=Ak ho
 have:e' = e:=by
  rw [<- ed,List.getElem?_map,hi2] at he'
  exact (Option.some.inj he').symm
 subst this
 cases eq
 have hok:=h3 e' (List.mem_of_getElem? he')
 exact ⟨rfl,⟨Nat.le_trans hok.2.1.2.2 (by decide),fun z hz=>Nat.le_trans (hok.2.1.1 z hz).2.1 (by decide)⟩,la,rfl,(hd _ (List.mem_of_getElem? hi2)).2⟩
theorem ay4 {H:Hp} {d:Addr} {p:Nat} {v:V} {kvs:List (Key × V)} (e:Rd H d (.dK kvs)) (h:valV kvs (.inl (p:Int))=some v):∃ xs,SqX K H d (p:Int) xs /\ atI xs (p:Int)=some v:=by
 have a:atI (List.replicate (p + 1) v) (p:Int)=some v:=B6 (by simp)
 refine ⟨_,.dk fun u hu=>.inl ⟨kvs,.inl (p:Int),e,rfl,?_⟩,a⟩
 rw [a] at hu
 rw [h,<- hu]
theorem a14 {f:Addr} {fd:FuncData} (Z:Al K t) (F:FunD K "term" "Panel.term" s_zt f fd .none) (T:Tab P w K mg base 3 (gb_3 K t) bl):FnOk P w K mg base (CXE P w) 4 f fd P_zt (Yi K t):=by
 refine F.okWX a87 bd7 T (a61 K t) (fun vs H Q E h=>?_) (fun vs H Q E h=>?_)
 ·obtain ⟨p,l,s,kk,v,o,sw,rfl,_⟩:=h;rfl
 ·obtain ⟨p,l,s,kk,v,o,sw,rfl,⟨dx,fs,⟨_,hp⟩,hl,hs,hm⟩,⟨ds,ed,⟨_,os⟩,hd⟩,hw,hE,k⟩:=h
  have cl:=Z.pf.cl
  have na:NoAttr K t.c_zba "sets" := Z.pf.na _ (by simp)
  have out:∀ wd,(¬ ∃ x ∈ sw,x.1=wd) -> valV (ds.map kR) (.inr wd)=none:=fun wd hxx=>by
   refine Bu fun q=>hxx ?_
   rw [Dg,<- ed] at *
   obtain ⟨y,hy,e⟩:=List.mem_map.mp q
   cases e
   obtain ⟨z,hz,rfl⟩:=List.mem_map.mp hy
   exact ⟨z,hz,rfl⟩
  cases o with
  | none=>
   have k:BadC t H E:=k.elim (fun ⟨e,q,_⟩=>by cases q) fun q=>q.2
   rcases hE with ⟨i,rfl⟩ | ⟨wd,rfl,hn⟩
   ·exact ⟨rfl,Ci (σ:=[some (.ref p),some (.int (i:Int)),some v]) (Q:=Q) Z k⟩
   ·refine ⟨rfl,?_⟩
    refine Or.inl ⟨_,_,_,_,hp,cl,na,hs,?_⟩
    refine .inr ⟨_,.inl ⟨_,.inr wd,.inl os,rfl,rfl⟩,?_⟩
    cases hv:valV (ds.map kR) (.inr wd) with
    | none=>exact Ci (σ:=[some (.ref p),some (.str wd),some v]) (Q:=Q) Z k
    | some x=>exact ⟨v,rfl,.inl ⟨hn,Ci (σ:=[some (.ref p),some (.str wd),some v]) (Q:=Q) Z k⟩⟩
  | some e=>
  obtain ⟨wd,ss⟩:=e
  obtain ⟨rfl,⟨h29,hzs⟩,a,rfl,ha⟩:=hE
  have h29:ss.length <= 29:=h29
  have ha:H a=some (lstO ss):=ha
  have bad:∀ {H':Hp},Same H H' -> ¬ Bi sw (wd,ss) -> BadC t H' E:=fun S n=>k.elim (fun ⟨e,q,r,_⟩=>by cases q;exact absurd r n) fun q=>ai2 S q.2
  refine ⟨rfl,?_⟩
  refine Or.inl ⟨_,_,_,_,hp,cl,na,hs,?_⟩
  by_cases hxx:∃ x ∈ sw,x.1=wd
  ·obtain ⟨x,hx,rfl⟩:=hxx
   obtain ⟨i,hi2⟩:=List.mem_iff_getElem?.mp hx
   have hids:i < ds.length:=by have:=Aj hi2;rw [<- ed,List.length_map] at this;exact this
   obtain ⟨⟨x',q⟩,hi⟩:∃ z,ds[i]? = some z:=⟨_,List.getElem?_eq_getElem hids⟩
   have:x' = x:=by
    rw [<- ed,List.getElem?_map,hi] at hi2
    exact Option.some.inj hi2
   subst this
   have oq:=(hd i _ hi).2
   have hok:=hw.sets x' hx
   have hv:valV (ds.map kR) (.inr x'.1)=some (.ref q):=Az (Bx ed hw.2.2.1) (by rw [List.getElem?_map,hi];rfl)
   have pl:=Iv hi2 hw.2.2.1
   have uniq:∀ y ∈ sw,y.1=x'.1 -> y=x':=fun y hy e=>by
    obtain ⟨j,hj⟩:=List.mem_iff_getElem?.mp hy
    have:=Iv hj hw.2.2.1
    rw [e,pl] at this
    subst this
    rw [hi2] at hj
    exact (Option.some.inj hj).symm
   have gq:∀ {H'},Same H H' -> DGet H' s (.str x'.1) (some (.ref q)):=fun S=>.inl ⟨_,.inr x'.1,.inl (S _ _ os),rfl,hv.symm⟩
   refine .inr ⟨_,gq (Same.refl _),?_⟩
   refine ⟨_,rfl,.inr ⟨a,ss,rfl,SqL.of ha,⟨h29,hzs⟩,fun H1 S1=>?_⟩⟩
   cases hb:(ss.all Gx && decide ss.Nodup) with
   | false=>
    refine Ci (σ:=[some (.ref p),some (.str x'.1),some (.ref a)]) (Q:=Q) Z (bad S1 fun ⟨_,o,_⟩=>?_)
    rw [List.all_eq_true.mpr fun z hz=>wordB_iff.mpr (o.1 z hz),decide_eq_true o.2.1] at hb
    cases hb
   | true=>
    rw [Bool.and_eq_true,List.all_eq_true,decide_eq_true_iff] at hb
    obtain ⟨hb1,hb2⟩:=hb
    refine ⟨by decide,fun e he=>.inl ⟨a,e,_,_,rfl,rfl,(S1.trans (Same.upd he)).seqL (SqL.of ha),SqL.of Ac,Fx ss,rfl,?_⟩⟩
    by_cases ne:ss=[]
    ·subst ne
     exact Ci (σ:=[some (.ref p),some (.str x'.1),some (.ref a)]) (Q:=Q) Z (bad (S1.trans (Same.upd he)) fun o=>o.1 rfl)
    refine Ce (Fd (by rw [List.length_map];intro z;exact ne (List.length_eq_zero_iff.mp z))) ?_
    have S2:=S1.trans (Same.upd (o:=.lst []) he)
    generalize upd H1 e (.lst [])=H2 at S2 ⊢
    refine .inl ⟨⟨_,S2.seqL (SqL.of ha)⟩,?_⟩
    refine Kc (K:=K) (σ:=[none,some (.ref p),some (.str x'.1)]) (strB fun z=>decide (z ∈ x'.2)) (Au (ss.map V.str)) (fun σ=>∃ v,σ=[v,some (.ref p),some (.str x'.1)]) (fun H3 S3=>(S2.trans S3).seqL (SqL.of ha)) ?_ ⟨_,rfl⟩ (fun σ x ⟨v,e⟩=>⟨some x,by rw [e];rfl⟩) ?_ fun D3 H3 S3 q3=>⟨_,q3,?_⟩
    ·rw [List.length_map];exact Nat.lt_of_le_of_lt h29 (by decide)
    ·rintro y σ H3 Q1 hy ⟨v,rfl⟩ S3 q1
     obtain ⟨z,hz,rfl⟩:=List.mem_map.mp hy
     have S:=S2.trans S3
     refine Or.inl ⟨_,_,_,_,(S _ _ hp),cl,na,hs,⟨.ref q,gq S,.inr ⟨_,.inl ⟨_,.inr z,.inl (S _ _ oq),rfl,rfl⟩,?_⟩⟩⟩
     have q1:∀ H2,Same H3 H2 -> Q1 (.bl (decide (z ∈ x'.2))) H2:=q1
     by_cases hzx:z ∈ x'.2
     ·rw [decide_eq_true hzx] at q1
      rw [Ow hok.1.2.1 hzx]
      exact q1 H3 (Same.refl _)
     ·rw [decide_eq_false hzx] at q1
      rw [Ys hzx]
      exact q1 H3 (Same.refl _)
    ·rw [Ou]
     have S:=S2.trans S3
     cases hc:ss.all fun z=>decide (z ∈ x'.2) with
     | false=>
      refine Ci (σ:=[some (.ref p),some (.str x'.1),some (.ref a)]) (Q:=Q) Z (bad S fun ⟨_,_,y,hy,ey,hin⟩=>?_)
      have:=uniq y hy ey
      subst this
      rw [List.all_eq_true.mpr fun z hz=>decide_eq_true (hin z hz)] at hc
      cases hc
     | true=>
      have hin:∀ z ∈ ss,z ∈ x'.2:=fun z hz=>of_decide_eq_true (List.all_eq_true.mp hc z hz)
      have hL:okL ss:=⟨fun z hz=>hok.1.1 z (hin z hz),hb2,Nat.le_trans (Os hb2 hin) (Nat.le_trans hok.2.2 (by decide))⟩
      have k:∀ H',Same H H' -> Q (.int (Cv sw (x'.1,ss))) H':=k.elim (fun ⟨e,q,_,r⟩=>by cases q;exact r) fun q=>absurd ⟨ne,hL,x',hx,rfl,hin⟩ (q.1 _ rfl)
      refine .inl ⟨⟨_,S.seqL (SqL.of ha)⟩,fun D hD=>?_⟩
      refine G5 (Au (ss.map V.str)) (fun σ=>∃ v,σ=[v,some (.ref p),some (.str x'.1)]) (fun _=>true) (fun v=>match v with | .str z=>.int (Ct (Ah sw) i z) | _=>.non) hD (fun H4 S4=>(S.trans S4).seqL (SqL.of ha)) ?_ ⟨_,rfl⟩ ?_ ?_
      ·rw [List.length_map];exact Nat.lt_of_le_of_lt h29 (by decide)
      ·rintro y σ H4 hy ⟨v,rfl⟩ S4 Fin Skip hF hK
       obtain ⟨z,hz,rfl⟩:=List.mem_map.mp hy
       have S5:=S.trans S4
       refine (Or.inl ⟨_,_,_,_,(S5 _ _ hp),cl,na,hs,⟨.ref q,gq S5,.int (Ct (Ah sw) i z),.inl ⟨_,.inr z,.inl (S5 _ _ oq),rfl,?_⟩,?_⟩⟩)
       ·rw [Ow hok.1.2.1 (hin z hz)]
       ·exact hF _ _ _ ⟨_,rfl⟩ (Same.refl _) rfl rfl
      ·intro H4 S4 eD
       refine ⟨D,ss.map (Ct (Ah sw) i),rfl,SqL.of (eD.trans ?_),?_⟩
       ·rw [List.filter_eq_self.mpr (fun _ _=>rfl),List.map_map,List.map_map];rfl
       ·have:=k H4 (S.trans S4)
        unfold Cv at this
        rw [pl] at this
        exact this
  ·have hv:=out wd hxx
   refine .inr ⟨_,.inl ⟨_,.inr wd,.inl os,rfl,rfl⟩,?_⟩
   rw [hv]
   exact Ci (σ:=[some (.ref p),some (.str wd),some (.ref a)]) (Q:=Q) Z (bad (Same.refl _) fun ⟨_,_,y,hy,ey,_⟩=>hxx ⟨y,hy,ey⟩)
theorem a18 {f:Addr} {fd:FuncData} (Z:Al K t) (F:FunD K "box" "Panel.box" s_zx f fd .none) (T:Tab P w K mg base 4 (gb_4 K t) bl):FnOk P w K mg base (CXE P w) 5 f fd P_zx (ah5 K t):=by
 refine F.okWX a91 be1 T (a65 K t) (fun vs H Q E h=>?_) (fun vs H Q E h=>?_)
 ·obtain ⟨p,l,s,v,sw,rfl,_⟩:=h;rfl
 ·obtain ⟨p,l,s,v,sw,rfl,hw,hz⟩:=h
  rcases hz with ⟨hn,k⟩ | ⟨r,kvs,os,rfl,hs,ht,hse,B,k⟩
  ·rcases hn with rfl | ⟨i,rfl⟩ | ⟨z,rfl⟩ | ⟨a,xs,rfl,e⟩
   ·exact ⟨rfl,Ci (σ:=[some (.ref p),some .non,none,none]) (Q:=Q) Z k⟩
   ·exact ⟨rfl,Ci (σ:=[some (.ref p),some (.int i),none,none]) (Q:=Q) Z k⟩
   ·exact ⟨rfl,Ci (σ:=[some (.ref p),some (.str z),none,none]) (Q:=Q) Z k⟩
   ·exact ⟨_,false,.sqL rfl (SqL.of e) rfl,rfl,Ci (σ:=[some (.ref p),some (.ref a),none,none]) (Q:=Q) Z k⟩
  obtain ⟨dx,fs,⟨np,hp⟩,_,_,hm⟩:=id hs
  have od:=B.at_
  refine ⟨_,true,.of (.dK od),rfl,⟨p,dx,fs,⟨t.c_zba,i_zc K t⟩,rfl,.head _,hp,hm _ (by decide),⟨Nat.le_of_ble_eq_true rfl,Nat.le_of_ble_eq_true rfl⟩,p,l,s,sw,rfl,hs.mono Kp.any,ht.mono Kp.any,hw.len,?_⟩⟩
  refine .inr (.inr (.inl ⟨_,od,fun o=>?_⟩))
  have kf:Kp (· ≠ r) H (· ≠ r) (upd H r (.frz o (.dK kvs))):=Kp.off (fun e=>e rfl)
  have kf2:∀ b u,b ≠ r -> H b=some u -> upd H r (.frz o (.dK kvs)) b=some u:=fun b u n e=>by rw [Ad n];exact e
  have ef:upd H r (.frz o (.dK kvs)) r=some (.frz o (.dK kvs)):=Ac
  show ForW (Itd r o kvs) _ _ _ [some (.ref p),some (.ref r),some (.int (allM sw)),none] _
  generalize hHf:upd H r (.frz o (.dK kvs))=Hf at kf kf2 ef ⊢
  refine Av (Dm kvs) (fun i σ H'=>∃ pre:Sw,(∃ v3,σ=[some (.ref p),some (.ref r),some (.int (pre.foldl (fun c e=>Builtin.bitAnd c (Cv sw e)) (allM sw))),v3]) /\ Same Hf H' /\ os.take i=pre.map some /\ ∀ e ∈ pre,Bi sw e) ⟨[],⟨_,rfl⟩,Same.refl _,rfl,fun e he=>by cases he⟩ (fun i σ H' _ q=>by obtain ⟨_,_,S,_⟩:=q;exact S _ _ ef) ?_ ?_
  ·rintro i x σ H1 hx ⟨pre,⟨v3,rfl⟩,S1,ep,okp⟩
   obtain ⟨⟨kk,v⟩,hi,rfl⟩:=Ak hx
   have hio:i < os.length:=by rw [<- B.len];exact Aj hi
   obtain ⟨oo,ho⟩:∃ oo,os[i]? = some oo:=⟨_,List.getElem?_eq_getElem hio⟩
   have hv:valV kvs kk=some v:=Az B.nd hi
   have kn:Kp (· ≠ r) H any H1:=(kf.trans (Kp.same S1)).trans Kp.any
   have O1:∀ b u,b ≠ r -> H b=some u -> H1 b=some u:=fun b u n e=>S1 _ _ (kf2 b u n e)
   have hE:=(B.ent i kk v oo hi ho).off od O1
   have rd:Rd H1 r (.dK kvs):=.inr ⟨o,S1 _ _ ef⟩
   have body:∀ (D:Outs),(∀ z H2,Same H1 H2 -> (∃ e,oo=some e /\ Bi sw e /\ z=Cv sw e) -> D.nx [some (.ref p),some (.ref r),some (.int (Builtin.bitAnd (pre.foldl (fun c e=>Builtin.bitAnd c (Cv sw e)) (allM sw)) z)),some (kV kk)] H2) -> ((∀ e,oo=some e -> ¬ Bi sw e) -> ∀ H2 b,Same H1 H2 -> H2 b=some (flO b t.c_zaz none) -> D.ex [some (.ref p),some (.ref r),some (.int (pre.foldl (fun c e=>Builtin.bitAnd c (Cv sw e)) (allM sw))),some (kV kk)] b H2) ->
     (dSeq (dSet 2 (dBin Gr (dVar 2) (dOwn "term" 2 (Hl K t) (dVar 0) (Ab (dVar 3) (Ab (dBin (rIxD K) (dVar 1) (dVar 3)) dNil))))) Ae) D [some (.ref p),some (.ref r),some (.int (pre.foldl (fun c e=>Builtin.bitAnd c (Cv sw e)) (allM sw))),some (kV kk)] H1:=by
    intro D hN hX
    have fin:Yi K t [.ref p,kV kk,v] H1 (fun u H2=>Gr (.int (pre.foldl (fun c e=>Builtin.bitAnd c (Cv sw e)) (allM sw))) u H2 fun x H3=>D.nx [some (.ref p),some (.ref r),some x,some (kV kk)] H3) (fun u _ H2=>∃ b,u = .ref b /\ D.ex [some (.ref p),some (.ref r),some (.int (pre.foldl (fun c e=>Builtin.bitAnd c (Cv sw e)) (allM sw))),some (kV kk)] b H2):=by
     refine ⟨p,l,s,kk,v,oo,sw,rfl,hs.mono kn,hse.mono kn,hw,hE,?_⟩
     by_cases hok:∃ e,oo=some e /\ Bi sw e
     ·obtain ⟨e,he,hok⟩:=hok
      exact .inl ⟨e,he,hok,fun H2 S2=>hN _ _ S2 ⟨e,he,hok,rfl⟩⟩
     ·exact .inr ⟨fun e he hh=>hok ⟨e,he,hh⟩,fun H2 b S2 q=>⟨b,rfl,hX (fun e he hh=>hok ⟨e,he,hh⟩) H2 b S2 q⟩⟩
    cases kk with
    | inr wd=>exact ⟨p,dx,fs,⟨t.c_zba,i_zt K t⟩,rfl,.head _,(kn _ _ ⟨np,hp⟩).2,hm _ (by decide),⟨Nat.le_of_ble_eq_true rfl,Nat.le_of_ble_eq_true rfl⟩,v,.inl ⟨_,.inr wd,rd,rfl,hv.symm⟩,fin⟩
    | inl j=>
     obtain ⟨j,rfl⟩:∃ n:Nat,j=(n:Int):=by
      cases oo with
      | some e=>obtain ⟨q,_⟩:=hE;cases q
      | none=>
       rcases hE with ⟨n,e⟩ | ⟨_,e,_⟩
       ·exact ⟨n,Sum.inl.inj e⟩
       ·cases e
     obtain ⟨xs,sx,ax⟩:=ay4 (K:=K) rd hv
     exact ⟨p,dx,fs,⟨t.c_zba,i_zt K t⟩,rfl,.head _,(kn _ _ ⟨np,hp⟩).2,hm _ (by decide),⟨Nat.le_of_ble_eq_true rfl,Nat.le_of_ble_eq_true rfl⟩,xs,v,sx,ax,fin⟩
   refine body _ (fun z H2 S2 ⟨e,he,hok,ez⟩=>?_) (fun no H2 b S2 q=>?_)
   ·subst ez
    refine ⟨pre ++ [e],⟨_,by rw [List.foldl_append];rfl⟩,S1.trans S2,?_,fun e' he'=>?_⟩
    ·rw [List.take_add_one,ho,ep,he,List.map_append];rfl
    ·rcases List.mem_append.mp he' with h | h
     ·exact okp e' h
     ·have:e' = e:=by simpa using h
      rw [this];exact hok
   ·rcases k with ⟨rule,er,okr,_⟩ | ⟨_,k⟩
    ·rw [er] at ho
     obtain ⟨e,he,rfl⟩:=Ak ho
     exact absurd (okr e (List.mem_of_getElem? he)) (no e rfl)
    ·exact k H2 b (fun c u n e=>S2 _ _ (O1 c u n e)) (.inr ⟨o,S2 _ _ (S1 _ _ ef)⟩) q
  ·rintro σ H1 ⟨pre,⟨v3,rfl⟩,S1,ep,okp⟩
   rw [List.length_map,B.len,List.take_length] at ep
   rcases k with ⟨rule,er,_,k⟩ | ⟨⟨oo,ho,no⟩,_⟩
   ·have:rule=pre:=by
     rw [er] at ep
     exact (List.map_inj_right (fun a b h=>Option.some.inj h)).mp ep
    subst this
    exact .inr ⟨r,o,_,od,S1 _ _ ef,k _ (Same.thaw od (hHf ▸ S1))⟩
   ·rw [ep] at ho
    obtain ⟨e,he,rfl⟩:=List.mem_map.mp ho
    exact absurd (okp e he) (no e rfl)
theorem a03 {f:Addr} {fd:FuncData} (Z:Al K t) (F:FunD K "read_rule" "Panel.read_rule" s_zi f fd .none) (T:Tab P w K mg base 5 (gb_5 K t) bl):FnOk P w K mg base CX0 6 f fd P_zi (ag9 K t):=by
 refine F.okW0 a76 bc6 T (a50 K t) (fun vs H Q E h=>?_) (fun vs H Q E h=>?_)
 ·obtain ⟨p,r,l,s,sw,rule,rfl,_⟩:=h;rfl
 ·obtain ⟨p,r,l,s,sw,rule,rfl,hs,ht,hse,hw,hrl,hr,k⟩:=h
  obtain ⟨ds,ed,⟨_,od⟩,hd⟩:=id hrl
  obtain ⟨dx,fs,⟨np,hp⟩,_,_,hm⟩:=id hs
  have len:ds.length=rule.length:=by rw [<- ed];simp
  have pos:0 < rule.length:=List.length_pos_iff.mpr hr.1
  refine ⟨_,true,.of (.dK od),rfl,(.inr ⟨_,.inl od,Ce ?_ ?_⟩)⟩
  ·refine decide_eq_false fun e=>?_
   rw [List.length_map] at e
   omega
  refine ⟨p,dx,fs,⟨t.c_zba,i_zx K t⟩,rfl,.head _,hp,hm _ (by decide),⟨Nat.le_of_ble_eq_true rfl,Nat.le_of_ble_eq_true rfl⟩,p,l,s,.ref r,sw,rfl,hw,.inr ⟨r,(G4 hrl hr.2.1 hr.2.2.1 hr.2.2.2).choose,_,rfl,hs,ht,hse,(G4 hrl hr.2.1 hr.2.2.1 hr.2.2.2).choose_spec,.inl ⟨rule,rfl,hr.2.2.2,fun H1 S1=>?_⟩⟩⟩
  exact ⟨r,rule,rfl,hrl.mono (Kp.same S1),hr.2.2.1,hr.2.1,fun H2 c S2 R2=>k H2 c (S1.trans S2) (R2.mono (Kp.fresh S1))⟩
theorem az9 {f:Addr} {fd:FuncData} (Z:Al K t) (F:FunD K "read_rules" "Panel.read_rules" s_ze f fd .none) (T:Tab P w K mg base 6 (gb_6 K t) bl):FnOk P w K mg base CX0 7 f fd P_ze (ag7 K t):=by
 refine F.okW0 a72 bc2 T (a46 K t) (fun vs H Q E h=>?_) (fun vs H Q E h=>?_)
 ·obtain ⟨p,l,s,ok,v,sw,rules,rfl,_⟩:=h;rfl
 ·obtain ⟨p,l,s,ok,v,sw,rules,rfl,hs,ht,hse,hw,hv,hr,h8,k⟩:=h
  rcases hv with ⟨rfl,rfl⟩ | ⟨kk,rfl,ds,ed,⟨nk,ok1⟩,hd⟩
  ·refine ⟨by decide,fun q hq=>k _ q (Same.upd hq) ⟨[],rfl,⟨hq,Ac⟩,fun x hx=>by cases hx⟩⟩
  ·obtain ⟨dx,fs,⟨op,hp⟩,_,_,hm⟩:=id hs
   have len:(ds.map fun x=>V.ref x.2).length=rules.length:=by rw [<- ed];simp
   refine ⟨_,true,.sqL rfl (SqL.of ok1) rfl,rfl,(.inl ⟨_,.inl (SqL.of ok1),Ce ?_ ?_⟩)⟩
   ·refine decide_eq_false fun e=>?_
    rw [len] at e
    omega
   refine .inl ⟨⟨_,SqL.of ok1⟩,fun D hD=>?_⟩
   refine De (Au (ds.map fun x=>V.ref x.2)) (fun m σ H'=>(∃ v,σ=[v,some (.ref p)]) /\ Same H H' /\ ∃ fs:List (Sw × Addr),fs.map (·.1)=rules.take m /\ H' D=some (.lst (fs.map fun x=>.ref x.2)) /\ ∀ x ∈ fs,RuleAt (fun a=>H a=none /\ a ≠ D) H' x.2 x.1)
    ⟨⟨_,rfl⟩,Same.upd hD,[],rfl,Ac,fun x hx=>by cases hx⟩ (fun m σ H' _ q=>q.2.1.seqL (SqL.of ok1)) ?_ ?_
   ·rintro m x σ H1 hx ⟨⟨v,rfl⟩,S1,gs,eg,eD,hg⟩
    obtain ⟨⟨rule,r⟩,hm2,rfl⟩:=Ak hx
    have hm3:rules[m]? = some rule:=by rw [<- ed,List.getElem?_map,hm2];rfl
    have hrl:=hd _ (List.mem_of_getElem? hm2)
    have nr:¬ ok r:=by obtain ⟨_,_,o,_⟩:=hrl;exact o.1
    have kw:Kp ok H (· ≠ r) H1:=(Kp.same S1).trans (Kp.weak fun a h e=>nr (e ▸ h))
    refine ⟨p,dx,fs,⟨t.c_zba,i_zi K t⟩,rfl,.head _,S1 _ _ hp,hm _ (by decide),⟨Nat.le_of_ble_eq_true rfl,Nat.le_of_ble_eq_true rfl⟩,p,r,l,s,sw,rule,rfl,hs.mono kw,ht.mono kw,hse.mono kw,hw,hrl.mono ((Kp.same S1).trans Kp.any),hr rule (List.mem_of_getElem? hm3),fun H2 c S2 R2=>?_⟩
    have eD2:=S2 _ _ eD
    refine ⟨_,eD2,?_,⟨_,rfl⟩,(S1.trans S2).set hD,gs ++ [(rule,c)],Cq eg hm3,?_,?_⟩
    ·rw [List.length_map]
     have:=Fw eg
     exact Nat.lt_of_le_of_lt (show gs.length <= 8 by omega) (by decide)
    ·rw [Ac,List.map_append];rfl
    ·have ko:Kp (fun a=>H a=none /\ a ≠ D) H2 (fun a=>H a=none /\ a ≠ D) (upd H2 D (.lst ((gs.map fun x=>V.ref x.2) ++ [.ref c]))):=Kp.off (fun e=>e.2 rfl)
     intro x hx
     rcases List.mem_append.mp hx with hx | hx
     ·exact (hg x hx).mono ((Kp.same S2).trans ko)
     ·have:x=(rule,c):=by simpa using hx
      subst this
      exact R2.mono ((Kp.weak fun a h=>⟨S1.free h,(Af eD h).symm⟩).trans ko)
   ·rintro σ H1 ⟨_,S1,gs,eg,eD,hg⟩
    rw [len,List.take_length] at eg
    exact k H1 D S1 ⟨gs,eg,⟨hD,eD⟩,fun x hx=>(hg x hx).mono (Kp.weak fun a h=>h.1)⟩
theorem _root_.Pn.PanAt.self {C p dx d l n s k b:Addr} {ok:Addr -> Prop} {H:Hp} {sw:Sw} {rules:List Sw} (h:PanAt C ok H p sw rules dx d l n s k b):SelfAt C ok H p l s:=by
 refine ⟨dx,_,h.ins,rfl,rfl,fun m hm=>?_⟩
 simp only [List.mem_cons,List.not_mem_nil,or_false] at hm
 rcases hm with rfl | rfl | rfl | rfl | rfl | rfl <;> rfl
theorem az8 {f:Addr} {fd:FuncData} (Z:Al K t) (F:FunD K "need_number" "Panel.need_number" s_zd f fd .none) (T:Tab P w K mg base 1 (gb_1 K t) bl):FnOk P w K mg base CX0 2 f fd P_zd (ag6 K t):=by
 refine F.okW0 a71 bc1 T (a45 K t) (fun vs H Q E h=>?_) (fun vs H Q E h=>?_)
 ·obtain ⟨p,i,sw,rules,rfl,_⟩:=h;rfl
 ·obtain ⟨p,i,sw,rules,rfl,⟨dx,d,l,n,s,kk,b,h⟩,hi,k⟩:=h
  refine ⟨_,rfl,rfl,?_⟩
  have e2:decide ((i:Int) < ((Ah sw).length:Int))=true:=by simp;exact hi
  exact ⟨p,dx,_,⟨t.c_zba,i_zs K t⟩,rfl,.head _,h.ins.2,rfl,⟨Nat.le_of_ble_eq_true rfl,Nat.le_of_ble_eq_true rfl⟩,p,l,s,sw,rfl,h.self,h.tps,Ce (by rw [e2];rfl) k⟩
theorem a15 {f:Addr} {fd:FuncData} (Z:Al K t) (F:FunD K "told" "Panel.told" s_zu f fd .none) (T:Tab P w K mg base 2 (gb_2 K t) bl):FnOk P w K mg base CX0 3 f fd P_zu (ah4 K t):=by
 refine F.okW0 a88 bd8 T (a62 K t) (fun vs H Q E h=>?_) (fun vs H Q E h=>?_)
 ·obtain ⟨p,i,r,sw,rules,rfl,_⟩:=h;rfl
 ·obtain ⟨p,i,r,sw,rules,rfl,hP,hi,k⟩:=h
  obtain ⟨dx,d,l,n,s,kk,b,h⟩:=id hP
  refine ⟨p,dx,_,⟨t.c_zba,i_zd K t⟩,rfl,.head _,h.ins.2,rfl,⟨Nat.le_of_ble_eq_true rfl,Nat.le_of_ble_eq_true rfl⟩,p,i,sw,rules,rfl,hP,Aj hi,?_⟩
  obtain ⟨ds,ed,⟨_,ol⟩,hd⟩:=h.tps
  have hids:i < ds.length:=by have:=Aj hi;rw [<- ed,List.length_map] at this;exact this
  obtain ⟨⟨r',q⟩,hi'⟩:∃ z,ds[i]? = some z:=⟨_,List.getElem?_eq_getElem hids⟩
  have:r' = r:=by
   rw [<- ed,List.getElem?_map,hi'] at hi
   exact Option.some.inj hi
  subst this
  refine Or.inl ⟨_,_,_,_,h.ins.2,Z.pf.cl,(Z.pf.na _ (by simp)),rfl,⟨_,.ref q,.inl (SqL.of ol),B6 (j:=i) (by rw [List.getElem?_map,hi'];rfl),?_⟩⟩
  exact k q (hd _ (List.mem_of_getElem? hi')).2
theorem ai3 (m n:Nat):decide (Builtin.bitAnd ((m:Int) / 2 ^ ((n:Int)).toNat) 1=1)=m.testBit n:=by
 rw [Int.toNat_natCast,D9,<- Int.natCast_ediv,show (1:Int)=((1:Nat):Int) from rfl,Em,Nat.and_one_is_mod,Nat.testBit_eq_decide_div_mod_eq]
 exact decide_eq_decide.mpr (by omega)
theorem Y6 {sw rule:Sw} {i:Nat} (hi:i < (Ah sw).length):decide (Builtin.bitAnd (boxM sw rule / 2 ^ ((i:Int)).toNat) 1=1)=inB sw rule i:=by
 rw [Hy,ai3,E6,decide_eq_true hi,Bool.true_and]
 rfl
theorem Y3 {sw:Sw} {rules:List Sw} {i m:Nat} {r:Sw} (hm:rules[m]? = some r) (hb:inB sw r i=true) (no:∀ (j:Nat) r',j < m -> rules[j]? = some r' -> inB sw r' i=false):barF sw rules i = .int (m:Int):=by
 have hl:=Aj hm
 have e:rules.findIdx? (fun r=>inB sw r i)=some m:=by
  rw [List.findIdx?_eq_some_iff_getElem]
  refine ⟨hl,?_,fun j hj=>?_⟩
  ·rw [List.getElem?_eq_getElem hl] at hm
   rw [Option.some.inj hm];exact hb
  ·have:=no j _ hj (List.getElem?_eq_getElem (by omega))
   rw [this];decide
 unfold barF
 rw [e]
theorem Sn {sw:Sw} {rules:List Sw} {i:Nat} (no:∀ (j:Nat) r',rules[j]? = some r' -> inB sw r' i=false):barF sw rules i = .non:=by
 have e:rules.findIdx? (fun r=>inB sw r i)=none:=by
  rw [List.findIdx?_eq_none_iff]
  intro r hr
  obtain ⟨j,hj⟩:=List.mem_iff_getElem?.mp hr
  exact no j r hj
 unfold barF
 rw [e]
theorem Np {xs:List V} {i:Nat} {x y:V} (h:(C6 0 xs)[i]? = some (x,y)):x = .int (i:Int) /\ xs[i]? = some y:=by
 have hi:=Aj h
 rw [Ap] at hi
 have:=B4 (k:=0) (List.getElem?_eq_getElem hi)
 rw [h,Nat.zero_add] at this
 cases this
 exact ⟨rfl,List.getElem?_eq_getElem hi⟩
theorem a07 {f:Addr} {fd:FuncData} (Z:Al K t) (F:FunD K "barred" "Panel.barred" s_zm f fd .none) (T:Tab P w K mg base 2 (gb_2 K t) bl):FnOk P w K mg base CX0 3 f fd P_zm (ah1 K t):=by
 refine F.okW0 a80 bd0 T (a54 K t) (fun vs H Q E h=>?_) (fun vs H Q E h=>?_)
 ·obtain ⟨p,i,sw,rules,rfl,_⟩:=h;rfl
 ·obtain ⟨p,i,sw,rules,rfl,hP,h8,hi,k⟩:=h
  obtain ⟨dx,d,l,n,s,kk,b,h⟩:=id hP
  refine ⟨p,dx,_,⟨t.c_zba,i_zd K t⟩,rfl,.head _,h.ins.2,rfl,⟨Nat.le_of_ble_eq_true rfl,Nat.le_of_ble_eq_true rfl⟩,p,i,sw,rules,rfl,hP,hi,?_⟩
  have ob:H b=some (.lst ((Dq sw rules).map V.int)):=h.brs.2
  refine Or.inl ⟨_,_,_,_,h.ins.2,Z.pf.cl,(Z.pf.na _ (by simp)),rfl,(.inl ⟨⟨_,SqL.of ob⟩,?_⟩)⟩
  refine Cr (Cg ((Dq sw rules).map V.int)) (fun m σ H'=>(∃ v2 v3,σ=[some (.ref p),some (.int (i:Int)),v2,v3]) /\ Same H H' /\ ∀ j r',j < m -> rules[j]? = some r' -> inB sw r' i=false) ⟨⟨_,_,rfl⟩,Same.refl _,fun j r' hj=>by omega⟩ (fun m σ H' _ q=>q.2.1.seqL (SqL.of ob)) ?_ ?_
  ·rintro m x y T σ H1 hx hT ⟨⟨v2,v3,rfl⟩,S1,no⟩
   obtain ⟨rfl,hy⟩:=Np hx
   obtain ⟨c,hc,rfl⟩:=Ak hy
   obtain ⟨r,hr,rfl⟩:=Ak hc
   have ST:=Same.upd (o:=.tup [.int (m:Int),.int (boxM sw r)]) hT
   refine ⟨_,SqT.of Ac,rfl,⟨boxM sw r,(i:Int),rfl,by omega,?_⟩⟩
   rw [Y6 hi]
   cases hb:inB sw r i with
   | true=>
    have:=k _ (S1.trans ST)
    rw [Y3 hr hb no] at this
    exact this
   | false=>
    refine ⟨⟨_,_,rfl⟩,S1.trans ST,fun j r' hj hr'=>?_⟩
    by_cases e:j=m
    ·subst e
     rw [hr] at hr'
     cases hr'
     exact hb
    ·exact no j r' (by omega) hr'
  ·rintro σ H1 ⟨⟨v2,v3,rfl⟩,S1,no⟩
   have e:barF sw rules i = .non:=Sn fun j r' hj=>no j r' (by rw [Ap,List.length_map];unfold Dq;rw [List.length_map];exact Aj hj) hj
   have:=k H1 S1
   rw [e] at this
   exact .inl this
theorem a09 {f:Addr} {fd:FuncData} (Z:Al K t) (F:FunD K "rules" "Panel.rules" s_zo f fd .none) (T:Tab P w K mg base 1 (gb_1 K t) bl):FnOk P w K mg base CX0 2 f fd P_zo (ah2 K t):=by
 refine F.okW0 a82 bd2 T (a56 K t) (fun vs H Q E h=>?_) (fun vs H Q E h=>?_)
 ·obtain ⟨p,sw,rules,rfl,_⟩:=h;rfl
 ·obtain ⟨p,sw,rules,rfl,⟨dx,d,l,n,s,kk,b,h⟩,hr,h8,k⟩:=h
  obtain ⟨ds,ed,⟨_,ok1⟩,hd⟩:=h.rls
  have len:(ds.map fun x=>V.ref x.2).length=rules.length:=by rw [<- ed];simp
  refine Or.inl ⟨_,_,_,_,h.ins.2,Z.pf.cl,(Z.pf.na _ (by simp)),rfl,(.inl ⟨⟨_,SqL.of ok1⟩,fun D hD=>?_⟩)⟩
  refine De (Au (ds.map fun x=>V.ref x.2)) (fun m σ H'=>(∃ v,σ=[v]) /\ Same H H' /\ ∃ fs:List (Sw × Addr),fs.map (·.1)=rules.take m /\ H' D=some (.lst (fs.map fun x=>.ref x.2)) /\ ∀ x ∈ fs,RuleAt (fun a=>H a=none /\ a ≠ D) H' x.2 x.1)
   ⟨⟨_,rfl⟩,Same.upd hD,[],rfl,Ac,fun x hx=>by cases hx⟩ (fun m σ H' _ q=>q.2.1.seqL (SqL.of ok1)) ?_ ?_
  ·rintro m x σ H1 hx ⟨⟨v,rfl⟩,S1,gs,eg,eD,hg⟩
   obtain ⟨⟨rule,r⟩,hm2,rfl⟩:=Ak hx
   have hm3:rules[m]? = some rule:=by rw [<- ed,List.getElem?_map,hm2];rfl
   have hok:=hr rule (List.mem_of_getElem? hm3)
   refine ⟨r,rule,rfl,(hd _ (List.mem_of_getElem? hm2)).mono (Kp.same S1),hok.2.2.1,hok.2.1,fun H2 c S2 R2=>?_⟩
   refine ⟨_,S2 _ _ eD,?_,⟨_,rfl⟩,(S1.trans S2).set hD,gs ++ [(rule,c)],Cq eg hm3,?_,?_⟩
   ·rw [List.length_map]
    have:=Fw eg
    exact Nat.lt_of_le_of_lt (show gs.length <= 8 by omega) (by decide)
   ·rw [Ac,List.map_append];rfl
   ·have ko:Kp (fun a=>H a=none /\ a ≠ D) H2 (fun a=>H a=none /\ a ≠ D) (upd H2 D (.lst ((gs.map fun x=>V.ref x.2) ++ [.ref c]))):=Kp.off (fun e=>e.2 rfl)
    intro x hx
    rcases List.mem_append.mp hx with hx | hx
    ·exact (hg x hx).mono ((Kp.same S2).trans ko)
    ·have:x=(rule,c):=by simpa using hx
     subst this
     exact R2.mono ((Kp.weak fun a h=>⟨S1.free h,(Af eD h).symm⟩).trans ko)
  ·rintro σ H1 ⟨_,S1,gs,eg,eD,hg⟩
   rw [len,List.take_length] at eg
   exact k H1 D S1 ⟨gs,eg,⟨hD,eD⟩,fun x hx=>(hg x hx).mono (Kp.weak fun a h=>h.1)⟩
theorem Nu {J:It} {E:EK} {H:Hp} {R:Hp -> Addr -> Prop} {ok:Hp -> Prop} {r:List Str} (Y:Ca J (r.map V.str) ok) (ho:∀ H1,Same H H1 -> ok H1) (hl:r.length <= 1000) (k:∀ D H',Same H H' -> SqL K H' D (((r.map V.str).map fun _=>true).map V.bl) -> R H' D) :
  ∀ D,H D=none -> CmpW J (gdN 0) dYes (dFn (fun vs H Q _=>(rIsi K) vs H Q) (Ab (dVar 0) (Ab (dC (.ty "str")) dNil))) D (fun H'=>R H' D) [none] (upd H D (.lst [])) E:=by
 refine Vw (K:=K) (σ:=[none]) Y (fun σ=>σ.length=1) ho ?_ rfl (fun σ x hσ=>by rw [List.length_set];exact hσ) ?_ k
 ·rw [List.length_map];exact Nat.lt_of_le_of_lt hl (by decide)
 ·intro x σ H1 Q1 hx hσ S q
  obtain ⟨z,hz,rfl⟩:=List.mem_map.mp hx
  match σ,hσ with
  | [_],_=>exact ⟨rfl,q H1 (Same.refl _)⟩
theorem a02 {f:Addr} {fd:FuncData} (Z:Al K t) (F:FunD K "number_of" "Panel.number_of" s_zh f fd .none) (T:Tab P w K mg base 0 (gb_0 K t) bl):FnOk P w K mg base CX0 1 f fd P_zh (ag8 K t):=by
 refine F.okW0 a75 bc5 T (a49 K t) (fun vs H Q E h=>?_) (fun vs H Q E h=>?_)
 ·obtain ⟨p,a,i,r,sw,rules,rfl,_⟩:=h;rfl
 ·obtain ⟨p,a,i,r,sw,rules,rfl,⟨dx,d,l,n,s,kk,b,h⟩,hw,ha,hl,hi,k⟩:=h
  have on:H n=some (.dT (numK 0 (Ah sw))):=h.nms.2
  have rows:=Ej hw.sets
  have nd:((numK 0 (Ah sw)).map (·.1)).Nodup:=by
   rw [Gb]
   exact List.Pairwise.map _ (fun a b ne e=>ne (Nt e)) rows.1
  have hv:valV (numK 0 (Ah sw)) (r.map .inr)=some (.int (i:Int)):=by rw [Az nd (N8 hi),Nat.zero_add]
  refine ⟨by decide,fun T hT=>.inr ⟨["list", "tuple"],SqT.of Ac,rfl,?_⟩⟩
  have ST:=Same.upd (o:=.tup [.ty "list", .ty "tuple"]) hT
  generalize upd H T (.tup [.ty "list", .ty "tuple"])=H1 at ST ⊢
  rcases ha with ha | ha
  ·refine .inl ⟨⟨_,ST.seqL (SqL.of ha)⟩,?_⟩
   refine .inl ⟨⟨_,ST.seqL (SqL.of ha)⟩,?_⟩
   refine Nu (Au (r.map V.str)) (fun H2 S2=>(ST.trans S2).seqL (SqL.of ha)) hl fun D2 H2 S2 q2=>⟨_,q2,?_⟩
   rw [Qx]
   have S:=ST.trans S2
   refine Or.inl ⟨_,_,_,_,(S _ _ h.ins.2),Z.pf.cl,(Z.pf.na _ (by simp)),rfl,⟨.inr (.inr (.inl ⟨rfl,.inr ⟨_,S _ _ on⟩⟩)),_,.inl ⟨S.seqL (SqL.of ha),fun u hu=>?_⟩⟩⟩
   have Su:=Same.upd (o:=tupO r) hu
   have eu:upd H2 u (tupO r) u=some (.tup ((r.map (Sum.inr:Str -> Key)).map kV)):=by rw [Ac,Mv]
   generalize upd H2 u (tupO r)=H3 at Su eu ⊢
   have S3:=S.trans Su
   have hg:DGet H3 n (.ref u) (valV (numK 0 (Ah sw)) (r.map .inr)):=DGet.t (S3 _ _ on) eu
   refine ⟨_,hg,?_⟩
   rw [hv]
   exact k H3 S3
  ·refine .inr ⟨⟨_,ST.seqT (SqT.of ha)⟩,?_⟩
   refine .inr (.inl ⟨⟨_,ST.seqT (SqT.of ha)⟩,?_⟩)
   refine Nu (Qt (r.map V.str)) (fun H2 S2=>(ST.trans S2).seqT (SqT.of ha)) hl fun D2 H2 S2 q2=>⟨_,q2,?_⟩
   rw [Qx]
   have S:=ST.trans S2
   refine Or.inl ⟨_,_,_,_,(S _ _ h.ins.2),Z.pf.cl,(Z.pf.na _ (by simp)),rfl,⟨.inr (.inr (.inl ⟨rfl,.inr ⟨_,S _ _ on⟩⟩)),_,.inr ⟨S.seqT (SqT.of ha),?_⟩⟩⟩
   have eu:H2 a=some (.tup ((r.map (Sum.inr:Str -> Key)).map kV)):=by rw [<- Mv];exact S _ _ ha
   have hg:DGet H2 n (.ref a) (valV (numK 0 (Ah sw)) (r.map .inr)):=DGet.t (S _ _ on) eu
   refine ⟨_,hg,?_⟩
   rw [hv]
   exact k H2 S
theorem Eo {f:Str} {p C dx:Addr} {fs fs':List (Str × V)} {y:V} {H:Hp} {N:Hp -> Prop} (hp:H p=some (.ins C dx fs)) (c:Cls K C) (n:NoAttr K C f) (l:fs.length < 1000) (e:putF f y fs=fs') (k:∀ H',(∀ b,b ≠ p -> H' b=H b) -> H' p=some (.ins C dx fs') -> N H'):X3 K f (.ref p) y H N:=
 .inl ⟨C,dx,fs,hp,c,n,l,k _ (fun b hb=>Ad hb) (by rw [Ac,e])⟩
theorem Kp.but {ok:Addr -> Prop} {p:Addr} {H H':Hp} (h:∀ b,b ≠ p -> H' b=H b) (n:¬ ok p):Kp ok H ok H':=fun a o q=>⟨q.1,by rw [h a (fun e=>n (e ▸ q.1))];exact q.2⟩
theorem Off.but {p:Addr} {H H1 H2:Hp} (h:Off p H H1) (e:∀ b,b ≠ p -> H2 b=H1 b):Off p H H2:=fun b u n q=>by rw [e b n];exact h b u n q
theorem Off.fr {p:Addr} {u:HO} {H H1:Hp} (h:Off p H H1) (e:H1 p=some u):∀ b,H1 b=none -> H b=none:=fun b q=>h.free (fun z=>by rw [z,e] at q;cases q) q
structure Pc (ok:Addr -> Prop) (H:Hp) (d l n s:Addr) (sw:Sw):Prop where
 sws:SwAt ok H d sw
 tps:TupsAt ok H l (Ah sw)
 nms:NumAt ok H n (Ah sw)
 sts:SetsAt ok H s sw
theorem Pc.mono {ok ok':Addr -> Prop} {H H':Hp} {d l n s:Addr} {sw:Sw} (h:Pc ok H d l n s sw) (k:Kp ok H ok' H'):Pc ok' H' d l n s sw:=⟨h.sws.mono k,h.tps.mono k,h.nms.mono k,h.sts.mono k⟩
abbrev fl1 (d:Addr):List (Str × V):=[("settings", .ref d)]
abbrev fl2 (d l:Addr):List (Str × V):=[("settings", .ref d),("tuples", .ref l)]
abbrev fl3 (d l n:Addr):List (Str × V):=[("settings", .ref d),("tuples", .ref l),("numbers", .ref n)]
abbrev fl4 (d l n s:Addr):List (Str × V):=[("settings", .ref d),("tuples", .ref l),("numbers", .ref n),("sets", .ref s)]
abbrev fl5 (d l n s k:Addr):List (Str × V):=[("settings", .ref d),("tuples", .ref l),("numbers", .ref n),("sets", .ref s),("kept_rules", .ref k)]
abbrev fl6 (d l n s k b:Addr):List (Str × V):=[("settings", .ref d),("tuples", .ref l),("numbers", .ref n),("sets", .ref s),("kept_rules", .ref k),("bars", .ref b)]
theorem Mc {fs:List (Str × V)} (h:fs.lookup ("all_choices" : Str)=none /\ fs.lookup ("box" : Str)=none /\ fs.lookup ("many" : Str)=none /\ fs.lookup ("term" : Str)=none /\ fs.lookup ("read_rule" : Str)=none /\ fs.lookup ("read_rules" : Str)=none):∀ m ∈ (["all_choices", "box", "many", "term", "read_rule", "read_rules"]:List Str),fs.lookup m=none:=by
 intro m hm
 simp only [List.mem_cons,List.not_mem_nil,or_false] at hm
 rcases hm with rfl | rfl | rfl | rfl | rfl | rfl
 ·exact h.1
 ·exact h.2.1
 ·exact h.2.2.1
 ·exact h.2.2.2.1
 ·exact h.2.2.2.2.1
 ·exact h.2.2.2.2.2
theorem a12 {f:Addr} {fd:FuncData} (Z:Al K t) (F:FunD K "__init__" "Panel.__init__" s_zr f fd t.dv_zr) (T:Tab P w K mg base 7 (gb_7 K t) bl):FnOk P w K mg base CX0 8 f fd P_zr (Yh K t):=by
 refine F.okW0 a85 bd5 T (a59 K t) (fun vs H Q E h=>?_) (fun vs H Q E h=>?_)
 ·obtain ⟨p,a,dx,v,sw,rules,rfl,_⟩:=h;rfl
 ·obtain ⟨p,a,dx,v,sw,rules,rfl,hp,hsw,hw,hrl,hr,h8,hf,k⟩:=h
  have cl:=Z.pf.cl
  have na:=Z.pf.na
  have nf:¬ fresh H p:=(B5 hp)
  refine ⟨a,sw,rfl,hsw.mono Kp.any,hw,fun H1 d S1 A1=>?_⟩
  refine Eo (S1 _ _ hp) cl (na _ (by simp)) (Nat.le_of_ble_eq_true rfl) (fs':=fl1 d) rfl fun H2 b2 p2=>?_
  have O2:Off p H H2:=fun b u n e=>by rw [b2 b n];exact S1 _ _ e
  have A2:=A1.mono (Kp.but b2 nf)
  refine Or.inl ⟨_,_,_,_,p2,cl,(na _ (by simp)),rfl,⟨d,sw,rfl,A2.mono Kp.any,hw,fun H3 l S3 T3=>?_⟩⟩
  refine Eo (S3 _ _ p2) cl (na _ (by simp)) (Nat.le_of_ble_eq_true rfl) (fs':=fl2 d l) rfl fun H4 b4 p4=>?_
  have O4:=(O2.up S3).but b4
  have A4:=A2.mono ((Kp.same S3).trans (Kp.but b4 nf))
  have T4:=T3.mono ((Kp.weak (O2.fr p2)).trans (Kp.but b4 nf))
  refine Or.inl ⟨_,_,_,_,p4,cl,(na _ (by simp)),rfl,⟨l,Ah sw,rfl,T4.mono Kp.any,(Ej hw.sets).1,hw.len,fun H5 n S5 N5=>?_⟩⟩
  refine Eo (S5 _ _ p4) cl (na _ (by simp)) (Nat.le_of_ble_eq_true rfl) (fs':=fl3 d l n) rfl fun H6 b6 p6=>?_
  have O6:=(O4.up S5).but b6
  have A6:=A4.mono ((Kp.same S5).trans (Kp.but b6 nf))
  have T6:=T4.mono ((Kp.same S5).trans (Kp.but b6 nf))
  have N6:=N5.mono ((Kp.weak (O4.fr p4)).trans (Kp.but b6 nf))
  refine Or.inl ⟨_,_,_,_,p6,cl,(na _ (by simp)),rfl,(Or.inl ⟨_,_,_,_,p6,cl,(na _ (by simp)),rfl,⟨d,l,sw,rfl,A6.mono Kp.any,T6.mono Kp.any,hw,fun H7 s S7 E7=>?_⟩⟩)⟩
  refine Eo (S7 _ _ p6) cl (na _ (by simp)) (Nat.le_of_ble_eq_true rfl) (fs':=fl4 d l n s) rfl fun H8 b8 p8=>?_
  have O8:=(O6.up S7).but b8
  have k78:=(Kp.same (ok:=fresh H) S7).trans (Kp.but b8 nf)
  have P8:Pc (fresh H) H8 d l n s sw:=⟨A6.mono k78,T6.mono k78,N6.mono k78,E7.mono ((Kp.weak (O6.fr p6)).trans (Kp.but b8 nf))⟩
  have P8':Pc (fun b=>H b=none /\ H8 b ≠ none) H8 d l n s sw:=P8.mono fun b o q=>⟨⟨q.1,by rw [q.2];exact fun z=>nomatch z⟩,q.2⟩
  have w8:Kp (fresh H) H8 (fun b=>b=p \/ H b=none) H8:=Kp.weak fun b e=>.inr e
  have RI:E4 (fun b=>¬ (b=p \/ H b=none)) H8 v rules:=by
   rcases hrl with h | ⟨kk,e,R⟩
   ·exact .inl h
   ·refine .inr ⟨kk,e,R.mono fun b o q=>⟨fun z=>?_,O8 _ _ q.1 q.2⟩⟩
    rcases z with z | z
    ·exact q.1 z
    ·have:=q.2;rw [z] at this;cases this
  refine ⟨p,dx,_,⟨t.c_zba,i_ze K t⟩,rfl,.head _,p8,rfl,⟨Nat.le_of_ble_eq_true rfl,Nat.le_of_ble_eq_true rfl⟩,p,l,s,(fun b=>b=p \/ H b=none),v,sw,rules,rfl,⟨dx,_,⟨.inl rfl,p8⟩,rfl,rfl,Mc ⟨rfl,rfl,rfl,rfl,rfl,rfl⟩⟩,P8.tps.mono w8,P8.sts.mono w8,hw,RI,hr,h8,fun H9 kk S9 R9=>?_⟩
  refine Eo (S9 _ _ p8) cl (na _ (by simp)) (Nat.le_of_ble_eq_true rfl) (fs':=fl5 d l n s kk) rfl fun H10 b10 p10=>?_
  have O10:=(O8.up S9).but b10
  have n8:¬ fresh H8 p:=(B5 p8)
  have R10:=R9.mono (Kp.but b10 n8)
  have P10:Pc (fun b=>H b=none /\ H8 b ≠ none) H10 d l n s sw:=P8'.mono ((Kp.same S9).trans (Kp.but b10 (fun e=>nf e.1)))
  obtain ⟨rs,er,⟨fk,ok⟩,hrs⟩:=id R10
  have lenr:(rs.map fun x=>V.ref x.2).length=rules.length:=by rw [<- er];simp
  refine Or.inl ⟨_,_,_,_,p10,cl,(na _ (by simp)),rfl,(.inl ⟨⟨_,SqL.of ok⟩,fun D hD=>?_⟩)⟩
  have fD:H D=none:=O10.fr p10 D hD
  refine De (Au (rs.map fun x=>V.ref x.2)) (fun m σ H'=>(∃ v,σ=[v,some (.ref p)]) /\ Same H10 H' /\ H' D=some (.lst ((Dq sw (rules.take m)).map V.int))) ⟨⟨_,rfl⟩,Same.upd hD,Ac⟩ (fun m σ H' _ q=>q.2.1.seqL (SqL.of ok)) ?_ ?_
  ·rintro m x σ H11 hx ⟨⟨v,rfl⟩,S11,eD⟩
   obtain ⟨⟨rule,r⟩,hm2,rfl⟩:=Ak hx
   have hm3:rules[m]? = some rule:=by rw [<- er,List.getElem?_map,hm2];rfl
   have hrl2:=hrs _ (List.mem_of_getElem? hm2)
   have nr:H8 r=none:=by obtain ⟨_,_,o,_⟩:=hrl2;exact o.1
   have npr:p ≠ r:=Af p8 nr
   have hok:=hr rule (List.mem_of_getElem? hm3)
   obtain ⟨kv,BV⟩:=G4 (hrl2.mono ((Kp.same S11).trans Kp.any)) hok.2.1 hok.2.2.1 hok.2.2.2
   have kw:Kp (fun b=>H b=none /\ H8 b ≠ none) H10 (· ≠ r) H11:=(Kp.same S11).trans (Kp.weak fun b h e=>h.2 (e ▸ nr))
   refine ⟨p,dx,_,⟨t.c_zba,i_zx K t⟩,rfl,.head _,S11 _ _ p10,rfl,⟨Nat.le_of_ble_eq_true rfl,Nat.le_of_ble_eq_true rfl⟩,p,l,s,.ref r,sw,rfl,hw,.inr ⟨r,kv,_,rfl,⟨dx,_,⟨npr,S11 _ _ p10⟩,rfl,rfl,Mc ⟨rfl,rfl,rfl,rfl,rfl,rfl⟩⟩,P10.tps.mono kw,P10.sts.mono kw,BV,.inl ⟨rule,rfl,hok.2.2.2,fun H12 S12=>?_⟩⟩⟩
   refine ⟨_,S12 _ _ eD,?_,⟨_,rfl⟩,(S11.trans S12).set hD,?_⟩
   ·rw [List.length_map]
    unfold Dq
    rw [List.length_map,List.length_take]
    exact Nat.lt_of_le_of_lt (show min m rules.length <= 8 by omega) (by decide)
   ·rw [Ac]
    unfold Dq
    rw [Cf hm3,List.map_append]
    rfl
  rintro σ H11 ⟨_,S11,eD⟩
  rw [lenr,List.take_length] at eD
  refine Eo (S11 _ _ p10) cl (na _ (by simp)) (Nat.le_of_ble_eq_true rfl) (fs':=fl6 d l n s kk D) rfl fun H12 b12 p12=>?_
  have O12:=(O10.up S11).but b12
  have nDp:D ≠ p:=(Af p10 hD).symm
  have B12:H12 D=some (.lst ((Dq sw rules).map V.int)):=by rw [b12 D nDp];exact eD
  have k12:∀ {ok:Addr -> Prop},¬ ok p -> Kp ok H10 ok H12:=fun h=>(Kp.same S11).trans (Kp.but b12 h)
  have P12:=P10.mono (k12 fun e=>nf e.1)
  have R12:=R10.mono (k12 n8)
  refine ⟨p,dx,_,⟨t.c_zba,i_zc K t⟩,rfl,.head _,p12,rfl,⟨Nat.le_of_ble_eq_true rfl,Nat.le_of_ble_eq_true rfl⟩,p,l,s,sw,rfl,⟨dx,_,⟨trivial,p12⟩,rfl,rfl,Mc ⟨rfl,rfl,rfl,rfl,rfl,rfl⟩⟩,P12.tps.mono Kp.any,hw.len,Or.inl ⟨_,_,_,_,p12,cl,(na _ (by simp)),rfl,⟨D,Dq sw rules,rfl,SqL.of B12,?_⟩⟩⟩
  refine Eo p12 cl (na _ (by simp)) (Nat.le_of_ble_eq_true rfl) (fs':=flds d l n s kk D (Dv sw rules)) rfl fun H14 b14 p14=>?_
  refine Or.inl ⟨_,_,_,_,p14,cl,(na _ (by simp)),rfl,(Ce (decide_eq_false hf) ?_)⟩
  have kk14:∀ {ok:Addr -> Prop},¬ ok p -> (∀ b,ok b -> H b=none) -> Kp ok H12 (fun b=>b=p \/ H b=none) H14:=fun h g=>(Kp.but b14 h).trans (Kp.weak fun b e=>.inr (g b e))
  have P14:=P12.mono (kk14 (fun e=>nf e.1) fun b e=>e.1)
  refine k H14 ((O12.but b14)) ⟨dx,d,l,n,s,kk,D,⟨.inl rfl,p14⟩,P14.sws,P14.tps,P14.nms,P14.sts,R12.mono (kk14 n8 (O8.fr p8)),⟨.inr fD,?_⟩⟩
  rw [b14 D nDp];exact B12
theorem inV2 (x:Int):inV (.int x) [.int 0,.int (-1)]=(decide (x=0) || decide (x = -1)):=by
 unfold inV
 show ((0 == x) || ((-1 == x) || false))=_
 rw [Bool.or_false]
 congr 1
 ·rw [Bool.beq_eq_decide_eq];exact decide_eq_decide.mpr ⟨Eq.symm,Eq.symm⟩
 ·rw [Bool.beq_eq_decide_eq];exact decide_eq_decide.mpr ⟨Eq.symm,Eq.symm⟩
theorem al6 {f:Addr} {fd:FuncData} (Z:Al K t) (F:FunD K "_law_mix" "_law_mix" Jn f fd .none) (T:Tab P w K mg base 0 (gb_0 K t) bl):FnOk P w K mg base CX0 1 f fd M9 (Dk K t):=by
 refine F.okW0 av1 ax4 T (at0 K t) (fun vs H Q E h=>?_) (fun vs H Q E h=>?_)
 ·obtain ⟨c,k,rfl,_⟩:=h;rfl
 ·obtain ⟨c,k,rfl,hk,hk2,q⟩:=h
  have fin:∀ H',Same H H' -> ¬ (c % 2=0 /\ c / 2 ^ (27 * k + 1).toNat ≠ 0 /\ c / 2 ^ (27 * k + 1).toNat ≠ -1) -> ∀ (D:Outs) (v:Option V),D.rt=Q ->
    (dSeq (dSet 3 (dBin A8 (dBin Br (dBin (Aq K) (dBin A8 (dVar 0) (dC (.int 1000000007))) (dBin Br (dC (.int 7919)) (dVar 1))) (dC (.int 48271))) (dC (.int 2147483647))))
 (dSeq (dSet 3 (dBin A8 (dBin Br (dVar 3) (dVar 3)) (dC (.int 2147483629))))
 (dSeq (dRet (dBin A8 (dBin Br (dVar 3) (dBin (Aq K) (dVar 3) (dC (.int 3)))) (dC (.int 2147483587)))) Ae))) D [some (.int c),some (.int k),some (.int (c / 2 ^ (27 * k + 1).toNat)),v] H':=by
   intro H' S hn D v hD
   have q:=q H' S
   unfold mixF at q
   rw [if_neg hn] at q
   have b1:0 <= (c % 1000000007 + 7919 * k) * 48271 % 2147483647 /\ (c % 1000000007 + 7919 * k) * 48271 % 2147483647 < 2147483647:=⟨Int.emod_nonneg _ (by decide),Int.emod_lt_of_pos _ (by decide)⟩
   refine ⟨by decide,.inl ⟨by decide,by decide⟩,.inr ⟨by decide,by decide⟩,by decide,?_⟩
   dsimp only at q
   generalize (c % 1000000007 + 7919 * k) * 48271 % 2147483647=n at b1 q ⊢
   have b2:0 <= n * n % 2147483629 /\ n * n % 2147483629 < 2147483629:=⟨Int.emod_nonneg _ (by decide),Int.emod_lt_of_pos _ (by decide)⟩
   refine ⟨.inl ⟨by omega,by omega⟩,by decide,?_⟩
   generalize n * n % 2147483629=m at b2 q ⊢
   refine ⟨.inl ⟨by omega,by omega⟩,by decide,?_⟩
   rw [hD]
   exact q
  refine ⟨.inl ⟨by decide,by decide⟩,by omega,by decide,?_⟩
  refine ite2 (fun e1=>?_) (fun e1=>?_)
  ·have e1:c % 2=0:=by simpa using e1
   refine ⟨by decide,fun T hT=>.inl ⟨T,_,rfl,.inr (SqT.of Ac),rfl,rfl,?_⟩⟩
   have S:=Same.upd (o:=.tup [.int 0,.int (-1)]) hT
   show if (!inV (.int (c / 2 ^ (27 * k + 1).toNat)) [.int 0,.int (-1)])=true then _ else _
   rw [inV2]
   refine ite2 (fun e2=>?_) (fun e2=>?_)
   ·have e2:c / 2 ^ (27 * k + 1).toNat ≠ 0 /\ c / 2 ^ (27 * k + 1).toNat ≠ -1:=by simpa using e2
    have q:=q _ S
    unfold mixF at q
    rw [if_pos ⟨e1,e2⟩] at q
    exact q
   ·refine fin _ S (fun z=>e2 ?_) _ _ rfl
    simp [z.2.1,z.2.2]
  ·exact fin _ (Same.refl _) (fun z=>e1 (by simp [z.1])) _ _ rfl
abbrev lettersS:Str := "abcdefghijklmnopqrstuvwxyz"
theorem Ty:lettersS.cps.toList=(List.range 26).map (97 + ·):=by decide +kernel
theorem K3 {i:Int} (h0:0 <= i) (h:i < 26):atI lettersS.cps.toList i=some (97 + i.toNat):=by
 have e:i=((i.toNat:Nat):Int):=by omega
 rw [e,Int.toNat_natCast]
 refine B6 ?_
 rw [Ty,List.getElem?_map,List.getElem?_range (by omega)]
 rfl
theorem J5 (x:Int):0 <= Builtin.bitAnd x 134217727:=by
 by_cases hx:0 <= x
 ·rw [PyProof.Rows.bitAnd_pp hx (by decide)];exact Int.natCast_nonneg _
 ·rw [PyProof.Rows.bitAnd_np hx (by decide)]
  have:=Nat.and_le_left (n:=(134217727:Int).toNat) (m:=(Builtin.bitNot x).toNat)
  have e:((134217727:Int).toNat:Int)=134217727:=rfl
  omega
theorem Py (c k:Int):0 <= mixF c k:=by
 unfold mixF
 split
 ·exact J5 _
 ·exact Int.emod_nonneg _ (by decide)
theorem Fg (l:List Nat):Txt.join (Str.ofString "") (l.map fun k=>(⟨#[k]⟩:Str))=⟨l.toArray⟩:=by
 show Builtin.Str.glued (Str.ofString "") _=_
 rw [StrLaws.glued_eq_join,show Str.ofString "" = (⟨#[]⟩:Str) from by decide +kernel]
 exact PyProof.Rows.join_ones l
theorem Gu (l:List Nat):((l.map fun k=>(⟨#[k]⟩:Str)).map (·.length)).sum + (l.map fun k=>(⟨#[k]⟩:Str)).length * (Str.ofString "").length=l.length:=by
 rw [show (Str.ofString "").length=0 from by decide +kernel,Nat.mul_zero,Nat.add_zero]
 induction l with
 | nil=>rfl
 | cons a l ih=>rw [List.map_cons,List.map_cons,List.sum_cons,ih,List.length_cons,show (⟨#[a]⟩:Str).length=1 from rfl,Nat.add_comm]
theorem Nv {E:EK} {te:DE} {n:Nat} {g:Nat -> Nat} {rest:St} {H:Hp} {R:Hp -> Addr -> Prop} (hn:n <= 8) (he:∀ (j:Nat) (H1:Hp) (Q1:VK),j < n -> (∀ H2,Same H1 H2 -> Q1 (.str ⟨#[g j]⟩) H2) -> te (some (.int (j:Int)) :: rest) H1 Q1 E)
  (k:∀ D H',Same H H' -> H D=none -> H' D=some (.lst ((((List.range n).map g).map fun c=>(⟨#[c]⟩:Str)).map V.str)) -> R H' D):∀ D,H D=none -> CmpW (Itr 0 n) (gdN 0) dYes te D (fun H'=>R H' D) (none :: rest) (upd H D (.lst [])) E:=by
 intro D hD
 refine De (Ec 0 n) (fun m σ H'=>(∃ v,σ=v :: rest) /\ Same H H' /\ H' D=some (.lst ((((List.range m).map g).map fun c=>(⟨#[c]⟩:Str)).map V.str))) ⟨⟨_,rfl⟩,Same.upd hD,Ac⟩ (fun _ _ _ _ _=>True.intro) ?_ ?_
 ·rintro m x σ H1 hx ⟨⟨v,rfl⟩,S1,eD⟩
  obtain ⟨hm,rfl⟩:=Iz hx
  refine (he m H1 _ hm fun H2 S2=>⟨_,S2 _ _ eD,?_,⟨_,rfl⟩,(S1.trans S2).set hD,?_⟩)
  ·rw [List.length_map,List.length_map,List.length_map,List.length_range]
   exact Nat.lt_of_lt_of_le (show m < 8 by omega) (by decide)
  ·rw [Ac,List.range_succ,List.map_append,List.map_append,List.map_append];rfl
 ·rintro σ H1 ⟨_,S1,eD⟩
  rw [B1] at eD
  exact k D H1 S1 hD eD
def sgA (c:Int) (j:Nat):Nat:=97 + (mixF c (2 + (j:Int)) % 26).toNat
def lenA (n:Int) (k:Nat):Nat:=(1 + (n / 192 + 3 * (k:Int)) % 8).toNat
def Lg (c n:Int) (k:Nat):Str:=⟨(((List.range 8).map (sgA c)).take (lenA n k)).toArray⟩
def sgB (c n:Int) (k j:Nat):Nat:=97 + ((mixF c (2 + (j:Int)) + 5 * (k:Int) * (if decide ((j:Int)=n / 8 % (1 + n % 8))=true then 1 else 0)) % 26).toNat
def wdB (c n:Int) (k:Nat):Str:=⟨((List.range (1 + n % 8).toNat).map (sgB c n k)).toArray⟩
theorem Ii {i:Int} (h0:0 <= i) (h:i < 26):By (97 + i.toNat)=true:=by
 unfold By
 simp
 omega
theorem Qw {l:List Nat} {g:Nat -> Nat} (h:∀ j,By (g j)=true):(l.map g).all By=true:=by rw [List.all_map,List.all_eq_true];exact fun _ _=>h _
theorem okA (c n:Int) (k:Nat):okW (Lg c n k) /\ (Lg c n k).length=lenA n k:=by
 have hl:1 <= lenA n k /\ lenA n k <= 8:=by unfold lenA;omega
 have e:(Lg c n k).length=lenA n k:=by
  show (((List.range 8).map (sgA c)).take (lenA n k)).toArray.size=_
  rw [List.size_toArray,List.length_take,List.length_map,List.length_range]
  omega
 refine ⟨⟨by omega,by omega,?_⟩,e⟩
 show ((((List.range 8).map (sgA c)).take (lenA n k)).toArray.toList).all By=true
 rw [List.all_eq_true]
 intro x hx
 have hx:x ∈ ((List.range 8).map (sgA c)).take (lenA n k):=by simpa using hx
 exact List.all_eq_true.mp (Qw (l:=List.range 8) (g:=sgA c) fun j=>Ii (Int.emod_nonneg _ (by decide)) (Int.emod_lt_of_pos _ (by decide))) x (List.mem_of_mem_take hx)
theorem okB (c n:Int) (k:Nat) (hn:0 <= n):okW (wdB c n k):=by
 have e:(wdB c n k).length=(1 + n % 8).toNat:=by
  show ((List.range (1 + n % 8).toNat).map (sgB c n k)).toArray.size=_
  rw [List.size_toArray,List.length_map,List.length_range]
 refine ⟨by omega,by omega,?_⟩
 show (((List.range (1 + n % 8).toNat).map (sgB c n k)).toArray.toList).all By=true
 exact Qw (l:=List.range _) (g:=sgB c n k) fun j=>Ii (Int.emod_nonneg _ (by decide)) (Int.emod_lt_of_pos _ (by decide))
theorem Gq {f:Nat -> Str} {m:Nat} (hm:m <= 5) (h:∀ i j,i < 5 -> j < 5 -> f i=f j -> i=j):((List.range m).map f).Nodup:=by
 refine List.pairwise_iff_getElem.mpr fun i j hi hj hij=>?_
 rw [List.length_map,List.length_range] at hi hj
 rw [List.getElem_map,List.getElem_map,List.getElem_range,List.getElem_range]
 intro e
 have:=h i j (by omega) (by omega) e
 omega
theorem ndA (c n:Int) {m:Nat} (hm:m <= 5):((List.range m).map (Lg c n)).Nodup:=Gq hm fun i j hi hj e=>by
 have h:=congrArg Str.length e
 rw [(okA c n i).2,(okA c n j).2] at h
 unfold lenA at h
 omega
theorem ndB (c n:Int) (hn:0 <= n) {m:Nat} (hm:m <= 5):((List.range m).map (wdB c n)).Nodup:=Gq hm fun i j hi hj e=>by
 have h:(List.range (1 + n % 8).toNat).map (sgB c n i)=(List.range (1 + n % 8).toNat).map (sgB c n j):=by
  have:=congrArg (fun z:Str=>z.cps.toList) e
  exact this
 have ha:0 <= n / 8 % (1 + n % 8) /\ n / 8 % (1 + n % 8) < 1 + n % 8:=⟨Int.emod_nonneg _ (by omega),Int.emod_lt_of_pos _ (by omega)⟩
 have h2:=congrArg (fun l:List Nat=>l[(n / 8 % (1 + n % 8)).toNat]?) h
 have hr:(n / 8 % (1 + n % 8)).toNat < (1 + n % 8).toNat:=by omega
 simp only [List.getElem?_map,List.getElem?_range hr,Option.map_some,Option.some.injEq] at h2
 unfold sgB at h2
 have ea:(((n / 8 % (1 + n % 8)).toNat:Nat):Int)=n / 8 % (1 + n % 8):=by omega
 rw [ea,decide_eq_true rfl,if_pos rfl] at h2
 generalize mixF c (2 + n / 8 % (1 + n % 8))=x at h2
 omega
theorem ak7 {f:Addr} {fd:FuncData} (Z:Al K t) (F:FunD K "_law_words" "_law_words" Je f fd .none) (T:Tab P w K mg base 1 (gb_1 K t) bl):FnOk P w K mg base CX0 2 f fd M0 (Jt K t):=by
 refine F.okW0 au2 aw5 T (as1 K t) (fun vs H Q E h=>?_) (fun vs H Q E h=>?_)
 ·obtain ⟨c,n,rfl,_⟩:=h;rfl
 ·obtain ⟨c,m,rfl,hm,k⟩:=h
  refine ⟨c,1,rfl,by decide,by decide,fun H1 S1=>?_⟩
  have hn:=Py c 1
  have big:(100:Nat) <= sizeLine:=by decide
  generalize mixF c 1=n at hn ⊢
  refine ⟨⟨by decide,by decide⟩,by decide,ite2 (fun _=>?_) (fun _=>?_)⟩
  ·refine ⟨rfl,⟨by decide,by decide⟩,?_⟩
   refine Nv (n:=8) (g:=sgA c) (rest:=[some (.int c),some (.str lettersS)]) (by decide) (fun j H2 Q1 hj q=>?_) fun D H2 S2 hD eD=>?_
   ·refine ⟨c,2 + (j:Int),rfl,by omega,by omega,fun H3 S3=>⟨by decide,by decide,_,K3 (Int.emod_nonneg _ (by decide)) (Int.emod_lt_of_pos _ (by decide)),q H3 S3⟩⟩
   ·refine ⟨_,D,_,rfl,rfl,SqL.of eD,?_,?_⟩
    ·rw [Gu,List.length_map,List.length_range];decide
    rw [Fg]
    refine ⟨⟨by omega,by omega⟩,?_⟩
    intro L hL
    rw [Int.toNat_natCast]
    have S12:=S1.trans S2
    have fL:=S12.free hL
    refine De (Ec 0 m) (fun i σ H'=>(∃ v,σ=[v,some (.str ⟨((List.range 8).map (sgA c)).toArray⟩),some (.int n)]) /\ Same H2 H' /\ H' L=some (.lst (((List.range i).map (Lg c n)).map V.str))) ⟨⟨_,rfl⟩,Same.upd hL,Ac⟩ (fun _ _ _ _ _=>True.intro) ?_ ?_
    ·rintro i x σ H3 hx ⟨⟨v,rfl⟩,S3,eL⟩
     obtain ⟨hi,rfl⟩:=Iz hx
     refine ⟨⟨by decide,by decide⟩,.inl ⟨by decide,by decide⟩,by decide,(show 8 <= sizeLine by decide),_,eL,?_,⟨_,rfl⟩,S3.set hL,?_⟩
     ·rw [List.length_map,List.length_map,List.length_range]
      omega
     ·have es:Txt.slice ⟨((List.range 8).map (sgA c)).toArray⟩ none (some (1 + (n / 192 + 3 * (i:Int)) % 8))=Lg c n i:=by
       have hb:0 <= 1 + (n / 192 + 3 * (i:Int)) % 8 /\ 1 + (n / 192 + 3 * (i:Int)) % 8 <= 8:=by omega
       have e:=eq_of_beq (PyProof.Rows.slice_closes_to (x:=⟨((List.range 8).map (sgA c)).toArray⟩) (j:=1 + (n / 192 + 3 * (i:Int)) % 8) ⟨hb.1,hb.2⟩)
       rw [e,Int.sub_zero]
       rfl
      rw [Ac,es,List.range_succ,List.map_append,List.map_append]
      rfl
    ·rintro σ H3 ⟨_,S3,eL⟩
     rw [B1] at eL
     refine k H3 L _ (S12.trans S3) fL eL (by simp) (ndA c n hm) fun z hz=>?_
     obtain ⟨i,_,rfl⟩:=List.mem_map.mp hz
     exact (okA c n i).1
  ·refine ⟨by decide,⟨by decide,by decide⟩,by omega,by decide,fun L hL=>⟨⟨by omega,by omega⟩,?_⟩⟩
   have fL:=S1.free hL
   show ForW (Itr 0 ((m:Int)).toNat) _ _ _ [some (.int c),some (.int (m:Int)),some (.str lettersS),some (.int n),none,none,some (.int (1 + n % 8)),some (.int (n / 8 % (1 + n % 8))),some (.ref L),none] _
   rw [Int.toNat_natCast]
   refine Av (Ec 0 m) (fun i σ H'=>(∃ v5 v9,σ=[some (.int c),some (.int (m:Int)),some (.str lettersS),some (.int n),none,v5,some (.int (1 + n % 8)),some (.int (n / 8 % (1 + n % 8))),some (.ref L),v9]) /\ Same H1 H' /\ H' L=some (.lst (((List.range i).map (wdB c n)).map V.str))) ⟨⟨_,_,rfl⟩,Same.upd hL,Ac⟩ (fun _ _ _ _ _=>True.intro) ?_ ?_
   ·rintro i x σ H2 hx ⟨⟨v5,v9,rfl⟩,S2,eL⟩
    obtain ⟨hi,rfl⟩:=Iz hx
    refine ⟨⟨by omega,by omega⟩,?_⟩
    refine Nv (n:=(1 + n % 8).toNat) (g:=sgB c n i) (rest:=[some (.int (n / 8 % (1 + n % 8))),some (.int c),some (.int (i:Int)),some (.str lettersS)]) (by omega) (fun j H3 Q1 hj q=>?_) fun D H3 S3 hD eD=>?_
    ·refine ⟨c,2 + (j:Int),rfl,by omega,by omega,fun H4 S4=>⟨.inl ⟨by decide,by decide⟩,.inl ⟨by omega,by omega⟩,by decide,by decide,_,K3 (Int.emod_nonneg _ (by decide)) (Int.emod_lt_of_pos _ (by decide)),q H4 S4⟩⟩
    ·have nDL:D ≠ L:=(Af eL hD).symm
     refine ⟨.inl ⟨rfl,_,SqL.of (S3 _ _ eL)⟩,rfl,_,D,_,rfl,rfl,SqL.of eD,?_,?_⟩
     ·rw [Gu,List.length_map,List.length_range];omega
     rw [Fg]
     refine ⟨L,_,_,rfl,rfl,S3 _ _ eL,?_,⟨_,_,rfl⟩,(S2.trans S3).set hL,?_⟩
     ·rw [List.length_map,List.length_map,List.length_range]
      omega
     ·rw [Ac,List.range_succ,List.map_append,List.map_append]
      rfl
   ·rintro σ H2 ⟨⟨v5,v9,rfl⟩,S2,eL⟩
    rw [B1] at eL
    refine .inl (k H2 L _ (S1.trans S2) fL eL (by simp) (ndB c n hn hm) fun z hz=>?_)
    obtain ⟨i,_,rfl⟩:=List.mem_map.mp hz
    exact okB c n i hn
structure SwL (H H':Hp) (ls:Addr) (ds:List (((Str × List Str) × Addr) × Addr)):Prop where
 at_:H' ls=some (.lst (ds.map fun x=>.ref x.2))
 tup:∀ x ∈ ds,H' x.2=some (.tup [.str x.1.1.1,.ref x.1.2])
 lst:∀ x ∈ ds,H' x.1.2=some (lstO x.1.1.2)
 ne:∀ x ∈ ds,x.1.2 ≠ ls /\ H x.1.2=none
theorem SwL.up {H H1 H2:Hp} {ls:Addr} {ds:List (((Str × List Str) × Addr) × Addr)} (h:SwL H H1 ls ds) (S:Same H1 H2):SwL H H2 ls ds:=⟨S _ _ h.at_,fun x hx=>S _ _ (h.tup x hx),fun x hx=>S _ _ (h.lst x hx),h.ne⟩
theorem SwL.snoc {H H1:Hp} {ls:Addr} {ds:List (((Str × List Str) × Addr) × Addr)} (h:SwL H H1 ls ds) {e:Str × List Str} {la ta:Addr} (ht:H1 ta=some (.tup [.str e.1,.ref la])) (hl:H1 la=some (lstO e.2)) (nl:la ≠ ls) (fl:H la=none) :
  SwL H (upd H1 ls (.lst ((ds.map fun x=>V.ref x.2) ++ [.ref ta]))) ls (ds ++ [((e,la),ta)]):=by
 have nt:∀ {a:Addr} {xs:List V},H1 a=some (.tup xs) -> a ≠ ls:=fun q z=>by rw [z,h.at_] at q;cases q
 refine ⟨by rw [Ac,List.map_append];rfl,fun x hx=>?_,fun x hx=>?_,fun x hx=>?_⟩
 ·rcases List.mem_append.mp hx with hx | hx
  ·rw [Ad (nt (h.tup x hx))];exact h.tup x hx
  ·have:x=((e,la),ta):=by simpa using hx
   subst this
   rw [Ad (nt ht)];exact ht
 ·rcases List.mem_append.mp hx with hx | hx
  ·rw [Ad (h.ne x hx).1];exact h.lst x hx
  ·have:x=((e,la),ta):=by simpa using hx
   subst this
   rw [Ad nl];exact hl
 ·rcases List.mem_append.mp hx with hx | hx
  ·exact h.ne x hx
  ·have:x=((e,la),ta):=by simpa using hx
   subst this
   exact ⟨nl,fl⟩
theorem Qc (sw:Sw) (e:Str × List Str):Bc (sw ++ [e])=Bc sw * e.2.length:=by unfold Bc;rw [List.foldl_append];rfl
theorem a08 {f:Addr} {fd:FuncData} (Z:Al K t) (F:FunD K "_law_switches" "_law_switches" s_zn f fd .none) (T:Tab P w K mg base 2 (gb_2 K t) bl):FnOk P w K mg base CX0 3 f fd P_zn (Yg K t):=by
 refine F.okW0 a81 bd1 T (a55 K t) (fun vs H Q E h=>?_) (fun vs H Q E h=>?_)
 ·obtain ⟨c,m,rfl,_⟩:=h;rfl
 ·obtain ⟨c,m,rfl,hm,hm2,k⟩:=h
  refine ⟨c,5,rfl,Nat.le_refl 5,fun H1 lw ws S1 flw elw lws ndw okw=>⟨by decide,fun ls hls=>?_⟩⟩
  have fls:=S1.free hls
  have nwl:lw ≠ ls:=Af elw hls
  have S2:=S1.trans (Same.upd (o:=.lst []) hls)
  have elw2:upd H1 ls (.lst []) lw=some (lstO ws):=by rw [Ad nwl];exact elw
  have L2:SwL H (upd H1 ls (.lst [])) ls []:=⟨Ac,fun x hx=>(by cases hx),fun x hx=>(by cases hx),fun x hx=>(by cases hx)⟩
  generalize upd H1 ls (.lst [])=H2 at S2 elw2 L2 ⊢
  refine ⟨c,20,rfl,by decide,by decide,fun H3 S3=>⟨by decide,⟨by omega,by omega⟩,?_⟩⟩
  have hN:1 <= (1 + mixF c 20 % 5).toNat /\ (1 + mixF c 20 % 5).toNat <= 5:=by omega
  generalize (1 + mixF c 20 % 5).toNat=N at hN ⊢
  refine Av (Ec 0 N) (fun i σ H'=>∃ ds:List (((Str × List Str) × Addr) × Addr),(∃ v5 v6,σ=[some (.int c),some (.int m),some (.ref lw),some (.ref ls),some (.int (Bc (ds.map (·.1.1)):Nat)),v5,v6]) /\ Same H H' /\ H' lw=some (lstO ws) /\ SwL H H' ls ds /\
    (ds.map (·.1.1.1)).Sublist (ws.take i) /\ (∀ x ∈ ds,D0 x.1.1.2) /\ (Bc (ds.map (·.1.1)):Int) <= m /\ (i=0 -> ds=[]) /\ (1 <= i -> ds ≠ []))
   ⟨[],⟨_,_,rfl⟩,S2.trans S3,S3 _ _ elw2,L2.up S3,List.Sublist.refl _,fun x hx=>(by cases hx),(show ((1:Nat):Int) <= m by omega),fun _=>rfl,fun h=>(by omega)⟩ (fun _ _ _ _ _=>True.intro) ?_ ?_
  ·rintro i x σ H4 hx ⟨ds,⟨v5,v6,rfl⟩,S4,elw4,L4,sub,oks,pm,z0,z1⟩
   obtain ⟨hi,rfl⟩:=Iz hx
   have hp0:1 <= Bc (ds.map (·.1.1)):=Bm (Nat.le_refl 1) (fun y hy=>by obtain ⟨x,hx,rfl⟩:=List.mem_map.mp hy;exact oks x hx)
   refine ⟨c,21 + (i:Int),rfl,by omega,by omega,fun H5 S5=>⟨by decide,?_⟩⟩
   have hs:2 <= 2 + mixF c (21 + (i:Int)) % 3 /\ 2 + mixF c (21 + (i:Int)) % 3 <= 4:=by omega
   have L5:=L4.up S5
   have elw5:=S5 _ _ elw4
   have S45:=S4.trans S5
   have rest:∀ sz:Int,2 <= sz -> sz <= 4 -> (i=0 -> (Bc (ds.map (·.1.1)):Int) * sz <= m) -> ∀ D:Outs,D.nx=(fun σ H'=>∃ ds:List (((Str × List Str) × Addr) × Addr),(∃ v5 v6,σ=[some (.int c),some (.int m),some (.ref lw),some (.ref ls),some (.int (Bc (ds.map (·.1.1)):Nat)),v5,v6]) /\ Same H H' /\ H' lw=some (lstO ws) /\ SwL H H' ls ds /\
     (ds.map (·.1.1.1)).Sublist (ws.take (i + 1)) /\ (∀ x ∈ ds,D0 x.1.1.2) /\ (Bc (ds.map (·.1.1)):Int) <= m /\ (i + 1=0 -> ds=[]) /\ (1 <= i + 1 -> ds ≠ [])) ->
     (dSeq (dIf (dTst (dBin rLeD (dBin Br (dVar 4) (dVar 6)) (dVar 1))) (dSeq (dSet 4 (dBin Br (dVar 4) (dVar 6)))
   (dSeq (B9 (dMt (rMt K [⟨"list", "list.append", B8⟩]) (dVar 3) (Ab (dTup (Ab (dBin (rIxD K) (dVar 2) (dVar 5)) (Ab (dFn (spE (Jt K t) []) (Ab (dBin (Aq K) (dBin (Aq K) (dVar 0) (dVar 5)) (dC (.int 1))) (Ab (dVar 6) dNil))) dNil))) dNil)))
   Ae)) Ae) Ae) D [some (.int c),some (.int m),some (.ref lw),some (.ref ls),some (.int (Bc (ds.map (·.1.1)):Nat)),some (.int (i:Int)),some (.int sz)] H5:=by
    intro sz h2 h4 hz D hD
    have cm:CMul (Bc (ds.map (·.1.1)):Nat) sz:=.inr ⟨by omega,by omega⟩
    refine ⟨cm,ite2 (fun e=>⟨cm,?_⟩) (fun e=>?_)⟩
    ·have e:((Bc (ds.map (·.1.1)):Nat):Int) * sz <= m:=by simpa using e
     have hiw:i < ws.length:=by omega
     refine ⟨.inl ⟨rfl,_,SqL.of L5.at_⟩,_,_,.inl (SqL.of elw5),B6 (j:=i) (by rw [List.getElem?_map,List.getElem?_eq_getElem hiw];rfl),?_⟩
     refine ⟨c + (i:Int) + 1,sz.toNat,by rw [show ((sz.toNat:Nat):Int)=sz by omega];rfl,by omega,fun H6 la ss S6 fla ela lss nds okss=>⟨(show 2 <= sizeLine by decide),fun ta hta=>?_⟩⟩
     have nla:la ≠ ls:=(Af L5.at_ fla).symm
     have ST:=Same.upd (o:=.tup [.str ws[i],.ref la]) hta
     have et:upd H6 ta (.tup [.str ws[i],.ref la]) ta=some (.tup [.str ws[i],.ref la]):=Ac
     generalize upd H6 ta (.tup [.str ws[i],.ref la])=H7 at ST et ⊢
     have L7:=L5.up (S6.trans ST)
     have fl0:H la=none:=S45.free fla
     have lds:ds.length <= 5:=by
      have:=sub.length_le
      rw [List.length_map,List.length_take] at this
      omega
     refine ⟨ls,_,_,rfl,rfl,L7.at_,?_,?_⟩
     ·rw [List.length_map];exact Nat.lt_of_le_of_lt lds (by decide)
     show D.nx _ _
     rw [hD]
     have pe:((Bc ((ds ++ [(((ws[i],ss),la),ta)]).map (·.1.1)):Nat):Int)=(Bc (ds.map (·.1.1)):Nat) * sz:=by
      rw [List.map_append,show [(((ws[i],ss),la),ta)].map (fun x:((Str × List Str) × Addr) × Addr=>x.1.1)=[(ws[i],ss)] from rfl,Qc,Int.natCast_mul,lss,show ((sz.toNat:Nat):Int)=sz by omega]
     refine ⟨ds ++ [(((ws[i],ss),la),ta)],⟨_,_,congrArg (fun z=>[some (V.int c),some (V.int m),some (V.ref lw),some (V.ref ls),some (V.int z),some (V.int (i:Int)),some (V.int sz)]) pe.symm⟩,(S45.trans (S6.trans ST)).set fls,?_,L7.snoc et (ST _ _ ela) nla fl0,?_,?_,by rw [pe];exact e,fun h=>(by omega),fun _ h=>by simp at h⟩
     ·rw [Ad nwl];exact (S6.trans ST) _ _ elw5
     ·rw [List.map_append,List.take_add_one,List.getElem?_eq_getElem hiw]
      exact sub.append (List.Sublist.refl _)
     ·intro x hx
      rcases List.mem_append.mp hx with hx | hx
      ·exact oks x hx
      ·have:x=(((ws[i],ss),la),ta):=by simpa using hx
       subst this
       exact ⟨⟨okss,nds,by rw [lss];omega⟩,by rw [lss];omega,by rw [lss];omega⟩
    ·have e:¬ ((Bc (ds.map (·.1.1)):Nat):Int) * sz <= m:=by simpa using e
     show D.nx _ _
     rw [hD]
     have hi0:i ≠ 0:=fun z=>e (hz z)
     refine ⟨ds,⟨_,_,rfl⟩,S45,elw5,L5,sub.trans (List.take_sublist_take_left (by omega)),oks,pm,fun h=>(by omega),fun _=>z1 (by omega)⟩
   refine ⟨.inr ⟨by omega,by omega⟩,ite2 (fun e=>?_) (fun e=>?_)⟩
   ·refine rest 2 (by decide) (by decide) (fun hz=>?_) _ (by rfl)
    rw [z0 hz]
    show ((1:Nat):Int) * 2 <= m
    omega
   ·refine rest (2 + mixF c (21 + (i:Int)) % 3) hs.1 hs.2 (fun hz=>?_) _ (by rfl)
    rw [z0 hz]
    show ((1:Nat):Int) * (2 + mixF c (21 + (i:Int)) % 3) <= m
    omega
  ·rintro σ H4 ⟨ds,⟨v5,v6,rfl⟩,S4,elw4,L4,sub,oks,pm,z0,z1⟩
   rw [B1] at sub z0 z1
   have sub2:=sub.trans (List.take_sublist N ws)
   have hl:=sub2.length_le
   rw [List.length_map] at hl
   have e1:(ds.map (·.1.1)).map (·.1)=ds.map (·.1.1.1):=by rw [List.map_map];rfl
   refine .inl (k H4 ls (ds.map (·.1.1)) S4 ⟨ds,rfl,⟨trivial,L4.at_⟩,fun x hx=>⟨⟨trivial,L4.tup x hx⟩,trivial,L4.lst x hx⟩⟩ ⟨?_,?_,?_,?_,?_⟩)
   ·rw [List.length_map]
    exact List.length_pos_iff.mpr (z1 hN.1)
   ·rw [List.length_map];omega
   ·rw [e1];exact ndw.sublist sub2
   ·intro y hy
    obtain ⟨x,hx,rfl⟩:=List.mem_map.mp hy
    exact ⟨okw _ (sub2.subset (List.mem_map.mpr ⟨x,hx,rfl⟩)),oks x hx⟩
   ·omega
theorem al1 {f:Addr} {fd:FuncData} (Z:Al K t) (F:FunD K "_law_rows" "_law_rows" Ji f fd .none) (T:Tab P w K mg base 0 (gb_0 K t) bl):FnOk P w K mg base CX0 1 f fd M4 (Mo K t):=by
 refine F.okW0 au6 aw9 T (as5 K t) (fun vs H Q E h=>?_) (fun vs H Q E h=>?_)
 ·obtain ⟨l,sw,rfl,_⟩:=h;rfl
 ·obtain ⟨l,sw,rfl,⟨ds,ed,⟨_,ol⟩,hd⟩,hw,k⟩:=h
  refine ⟨(show 0 <= sizeLine by decide),fun r0 h0=>⟨(show 1 <= sizeLine by decide),fun l0 hl0=>?_⟩⟩
  have Sr:=Same.upd (o:=.lst []) h0
  have Sl:=Same.upd (o:=.lst [.ref r0]) hl0
  have S0:=Sr.trans Sl
  have er:upd (upd H r0 (.lst [])) l0 (.lst [.ref r0]) r0=some (lstO []):=Sl _ _ Ac
  have el:upd (upd H r0 (.lst [])) l0 (.lst [.ref r0]) l0=some (.lst [.ref r0]):=Ac
  have len:(ds.map fun x=>V.ref x.2).length=sw.length:=by rw [<- ed];simp
  generalize upd (upd H r0 (.lst [])) l0 (.lst [.ref r0])=H0 at S0 er el ⊢
  refine .inl ⟨⟨_,S0.seqL (SqL.of ol)⟩,?_⟩
  have T0:RowsAt any H0 l0 (Ah (sw.take 0)):=⟨[([],r0)],rfl,⟨trivial,el⟩,fun x hx=>by
   have:x=([],r0):=by simpa using hx
   subst this
   exact ⟨trivial,er⟩⟩
  refine Av (Au (ds.map fun x=>V.ref x.2)) (fun i σ H'=>(∃ l1 v2 v3 v4 v5 v6,σ=[some (.ref l),some (.ref l1),v2,v3,v4,v5,v6] /\ RowsAt any H' l1 (Ah (sw.take i))) /\ Same H0 H') ⟨⟨_,_,_,_,_,_,rfl,T0⟩,Same.refl _⟩ (fun i σ H' _ q=>(S0.trans q.2).seqL (SqL.of ol)) ?_ ?_
  ·rintro i x σ H1 hx ⟨⟨l1,v2,v3,v4,v5,v6,rfl,⟨es,ee,⟨_,el1⟩,he⟩⟩,S1⟩
   obtain ⟨⟨⟨e,la⟩,ta⟩,hi,rfl⟩:=Ak hx
   have hi2:sw[i]? = some e:=by rw [<- ed,List.getElem?_map,hi];rfl
   obtain ⟨⟨_,h1⟩,_,h2⟩:=hd _ (List.mem_of_getElem? hi)
   have S01:=S0.trans S1
   have hoke:=hw.sets e (List.mem_of_getElem? hi2)
   refine ⟨_,SqT.of (S01 _ _ h1),rfl,by decide,fun l2 hl2=>.inl ⟨⟨_,(Same.upd hl2).seqL (SqL.of el1)⟩,?_⟩⟩
   have Sl2:=Same.upd (o:=.lst []) hl2
   have lenr:es.length=(Ah (sw.take i)).length:=by rw [<- ee];simp
   have few:(Ah (sw.take i)).length <= 256:=by rw [Fn];exact Nat.le_trans (Lc hw i) hw.2.2.2.2
   have rl:∀ r ∈ Ah (sw.take i),r.length <= 100:=fun r hr=>by
    have h1:=(Ej (sw:=sw.take i) (fun x hx=>hw.sets x (List.mem_of_mem_take hx))).2.1 r hr
    rw [h1,List.length_take]
    have:=hw.2.1
    omega
   refine Av (Au (es.map fun x=>V.ref x.2)) (fun j σ H'=>(∃ v5 v6,σ=[some (.ref l),some (.ref l1),some (.str e.1),some (.ref la),some (.ref l2),v5,v6]) /\ Same H1 H' /\ ∃ fs:List (List Str × Addr),fs.map (·.1)=Da ((Ah (sw.take i)).take j) e /\
     H' l2=some (.lst (fs.map fun x=>.ref x.2)) /\ ∀ x ∈ fs,x.2 ≠ l2 /\ H' x.2=some (lstO x.1))
    ⟨⟨_,_,rfl⟩,Sl2,[],rfl,Ac,fun x hx=>by cases hx⟩ (fun j σ H' _ q=>q.2.1.seqL (SqL.of el1)) ?_ ?_
   ·rintro j y σ H2 hy ⟨⟨v5,v6,rfl⟩,S2,fs,efs,e2l,hf⟩
    obtain ⟨⟨r,ra⟩,hj,rfl⟩:=Ak hy
    have hj2:(Ah (sw.take i))[j]? = some r:=by rw [<- ee,List.getElem?_map,hj];rfl
    obtain ⟨_,hra⟩:=he _ (List.mem_of_getElem? hj)
    have rlr:=rl r (List.mem_of_getElem? hj2)
    refine .inl ⟨⟨_,SqL.of ((S01.trans S2) _ _ h2)⟩,?_⟩
    refine Av (Au (e.2.map V.str)) (fun m σ H'=>(∃ v6,σ=[some (.ref l),some (.ref l1),some (.str e.1),some (.ref la),some (.ref l2),some (.ref ra),v6]) /\ Same H1 H' /\ ∃ gs:List (List Str × Addr),gs.map (·.1)=Da ((Ah (sw.take i)).take j) e ++ (e.2.take m).map (fun z=>r ++ [z]) /\
      H' l2=some (.lst (gs.map fun x=>.ref x.2)) /\ ∀ x ∈ gs,x.2 ≠ l2 /\ H' x.2=some (lstO x.1))
     ⟨⟨_,rfl⟩,S2,fs,by rw [efs];simp,e2l,hf⟩ (fun m σ H' _ q=>(S01.trans q.2.1).seqL (SqL.of h2)) ?_ ?_
    ·rintro m u σ H3 hu ⟨⟨v6,rfl⟩,S3,gs,egs,e3l,hg⟩
     obtain ⟨z,hz,rfl⟩:=Ak hu
     refine ⟨.inl ⟨rfl,_,SqL.of e3l⟩,(show 1 <= sizeLine by decide),fun q hq=>.inl ⟨ra,q,_,_,rfl,rfl,(Same.upd hq) _ _ (S3 _ _ hra),Ac,?_,fun u hu=>?_⟩⟩
     ·rw [List.length_map]
      exact Nat.le_trans (show r.length + 1 <= 101 by omega) (by decide)
     have Sq:=Same.upd (o:=.lst [.str z]) hq
     have Su:=Same.upd (o:=.lst (r.map V.str ++ [.str z])) hu
     have eu:upd (upd H3 q (.lst [.str z])) u (.lst (r.map V.str ++ [.str z])) u=some (lstO (r ++ [z])):=by rw [Ac,lstO,List.map_append];rfl
     have S34:=Sq.trans Su
     have nul:u ≠ l2:=(Af (Sq _ _ e3l) hu).symm
     generalize upd (upd H3 q (.lst [.str z])) u (.lst (r.map V.str ++ [.str z]))=H4 at S34 eu ⊢
     have e4l:=S34 _ _ e3l
     have lg:gs.length <= 2000:=by
      have:=congrArg List.length egs
      rw [List.length_map,List.length_append,Gh,List.length_map,List.length_take,List.length_take] at this
      have h4:=hoke.2.2
      have:min j (Ah (sw.take i)).length * e.2.length <= 256 * 4:=Nat.mul_le_mul (by omega) h4
      omega
     refine ⟨l2,_,_,rfl,rfl,e4l,by rw [List.length_map];exact Nat.lt_of_le_of_lt lg (by decide),⟨_,rfl⟩,(S3.trans S34).set hl2,gs ++ [(r ++ [z],u)],?_,?_,?_⟩
     ·rw [List.map_append,egs,Cf hz,List.append_assoc];rfl
     ·rw [Ac,List.map_append];rfl
     ·intro x hx
      rcases List.mem_append.mp hx with hx | hx
      ·exact ⟨(hg x hx).1,by rw [Ad (hg x hx).1];exact S34 _ _ (hg x hx).2⟩
      ·have:x=(r ++ [z],u):=by simpa using hx
       subst this
       exact ⟨nul,by rw [Ad nul];exact eu⟩
    ·rintro σ H3 ⟨⟨v6,rfl⟩,S3,gs,egs,e3l,hg⟩
     rw [List.length_map,List.take_length,<- Le hj2] at egs
     exact .inl ⟨⟨_,_,rfl⟩,S3,gs,egs,e3l,hg⟩
   ·rintro σ H2 ⟨⟨v5,v6,rfl⟩,S2,fs,efs,e2l,hf⟩
    rw [List.length_map,lenr,List.take_length] at efs
    refine .inl ⟨⟨_,_,_,_,_,_,rfl,fs,?_,⟨trivial,e2l⟩,fun x hx=>⟨trivial,(hf x hx).2⟩⟩,S1.trans S2⟩
    rw [efs]
    exact (Cl hi2 _ _).symm
  ·rintro σ H1 ⟨⟨l1,v2,v3,v4,v5,v6,rfl,T1⟩,S1⟩
   rw [len,List.take_length] at T1
   exact .inl (k _ l1 (S0.trans S1) T1)
def fN (sw b:Sw):Nat -> Nat
 | 0=>0
 | n + 1=>if inB sw b n=true then fN sw b n ||| 2 ^ n else fN sw b n
theorem Wg (sw b:Sw):∀ N k,(fN sw b N).testBit k=(decide (k < N) && inB sw b k)
 | 0,k=>by simp [fN]
 | N + 1,k=>by
  have ih:=Wg sw b N k
  unfold fN
  by_cases h:N=k
  ·subst h
   rw [decide_eq_false (Nat.lt_irrefl N),Bool.false_and] at ih
   cases e:inB sw b N with
   | true=>rw [if_pos rfl,Nat.testBit_or,Nat.testBit_two_pow,ih];simp
   | false=>rw [if_neg Bool.false_ne_true,ih];simp
  ·have d:decide (k < N + 1)=decide (k < N):=decide_eq_decide.mpr (by omega)
   rw [d]
   cases e:inB sw b N with
   | true=>rw [if_pos rfl,Nat.testBit_or,Nat.testBit_two_pow,ih,decide_eq_false h,Bool.or_false]
   | false=>rw [if_neg Bool.false_ne_true,ih]
theorem aj0 (sw b:Sw):((fN sw b (Ah sw).length:Nat):Int)=boxM sw b:=by
 rw [Hy]
 congr 1
 refine Nat.eq_of_testBit_eq fun k=>?_
 rw [Wg,E6]
 rfl
theorem Wr (z:Str) (l:List Str):inV (.str z) (l.map V.str)=decide (z ∈ l):=by
 unfold inV
 rw [List.any_map,Bool.eq_iff_iff,decide_eq_true_iff,List.any_eq_true]
 constructor
 ·rintro ⟨y,hy,e⟩
  have e:(y == z)=true:=e
  rw [<- eq_of_beq e]
  exact hy
 ·intro h
  exact ⟨z,h,beq_self_eq_true z⟩
theorem aj5 {sw:Sw} {n:Nat} {e:Str × List Str} {z:Str} (h:((Ah sw)[n]?.bind fun r=>r[C1 sw e.1]?)=some z):hitB sw n e=decide (z ∈ e.2):=by
 unfold hitB hasB
 rw [h,Bool.eq_iff_iff,decide_eq_true_iff,List.any_eq_true]
 constructor
 ·rintro ⟨y,hy,q⟩
  have q:some z=some y:=by simpa using q
  rw [Option.some.inj q]
  exact hy
 ·exact fun hz=>⟨z,hz,by simp⟩
theorem Zj {sw:Sw} {n i:Nat} {r:List Str} {x e:Str × List Str} {z:Str} (nd:(sw.map (·.1)).Nodup) (hn:(Ah sw)[n]? = some r) (hi:sw[i]? = some x) (ee:e.1=x.1) (hz:r[i]? = some z):hitB sw n e=decide (z ∈ e.2):=by
 refine aj5 ?_
 rw [ee,Iv hi nd,hn]
 exact hz
theorem Ml {sw:Sw} {n:Nat} {r:List Str} (hw:okSw sw) (hn:(Ah sw)[n]? = some r):r.length=sw.length:=(Ej hw.sets).2.1 r (List.mem_of_getElem? hn)
theorem al0 {f:Addr} {fd:FuncData} (Z:Al K t) (F:FunD K "_law_hits" "_law_hits" Jh f fd .none) (T:Tab P w K mg base 0 (gb_0 K t) bl):FnOk P w K mg base CX0 1 f fd M3 (Ju K t):=by
 refine F.okW0 au5 aw8 T (as4 K t) (fun vs H Q E h=>?_) (fun vs H Q E h=>?_)
 ·obtain ⟨d,l,a,n,r,sw,rule,rfl,_⟩:=h;rfl
 ·obtain ⟨d,l,a,n,r,sw,rule,rfl,⟨es,ee,⟨_,od⟩,he⟩,⟨ds,ed,⟨_,ol⟩,hd⟩,hw,hb,ha,hn,k⟩:=h
  have nds:=hw.2.2.1
  have len:ds.length=sw.length:=by rw [<- ed];simp
  refine .inl ⟨⟨_,SqL.of ol⟩,?_⟩
  refine Cr (Cg (ds.map fun x=>V.ref x.2)) (fun i σ H'=>(∃ v3 v4,σ=[some (.ref d),some (.ref l),some (.ref a),v3,v4]) /\ Same H H' /\ ∀ (j:Nat) x e,j < i -> sw[j]? = some x -> e ∈ rule -> e.1=x.1 -> hitB sw n e=true) ⟨⟨_,_,rfl⟩,Same.refl _,fun j x e hj=>by omega⟩ (fun i σ H' _ q=>q.2.1.seqL (SqL.of ol)) ?_ ?_
  ·rintro i x y T σ H1 hx hT ⟨⟨v3,v4,rfl⟩,S1,pre⟩
   obtain ⟨⟨⟨x',la⟩,ta⟩,hi,rfl,rfl⟩:=Ef hx
   have hi2:sw[i]? = some x':=by rw [<- ed,List.getElem?_map,hi];rfl
   obtain ⟨⟨_,h1⟩,_,h2⟩:=hd _ (List.mem_of_getElem? hi)
   have ST:=Same.upd (o:=.tup [.int (i:Int),.ref ta]) hT
   refine ⟨_,SqT.of Ac,rfl,?_⟩
   have S2:=S1.trans ST
   generalize upd H1 T (.tup [.int (i:Int),.ref ta])=H2 at S2 ⊢
   have qt:=SqT.of (K:=K) (S2 _ _ h1)
   refine ⟨_,.str x'.1,.inr qt,rfl,.inr ⟨_,DGet.k (k:=.inr x'.1) (S2 _ _ od),?_⟩⟩
   by_cases hin:x'.1 ∈ rule.map (·.1)
   ·obtain ⟨e,hee,en⟩:=List.mem_map.mp hin
    rw [<- ee] at hee
    obtain ⟨⟨e',le⟩,hes,rfl⟩:=List.mem_map.mp hee
    obtain ⟨j,hj⟩:=List.mem_iff_getElem?.mp hes
    have hv:valV (es.map kR) (.inr x'.1)=some (.ref le):=by
     rw [<- en]
     exact Az (Bx ee hb.2.1) (by rw [List.getElem?_map,hj];rfl)
    rw [hv]
    have hir:i < r.length:=by rw [Ml hw hn];exact Aj hi2
    have hz:r[i]? = some r[i]:=List.getElem?_eq_getElem hir
    have hh:=Zj (e:=e') nds hn hi2 en hz
    have el:=S2 _ _ (he _ hes).2
    refine ⟨_,.str r[i],.inl (SqL.of (S2 _ _ ha)),B6 (j:=i) (by rw [List.getElem?_map,hz];rfl),_,.str x'.1,.inr qt,rfl,.ref le,.inl ⟨_,.inr x'.1,.inl (S2 _ _ od),rfl,hv.symm⟩,.inl ⟨le,_,rfl,.inl (SqL.of el),rfl,Fx _,?_⟩⟩
    rw [Wr,<- hh]
    have em:e' ∈ rule:=by rw [<- ee];exact hee
    cases hc:hitB sw n e' with
    | true=>
     refine ⟨⟨_,_,rfl⟩,S2,fun j x e hj hx2 hm en2=>?_⟩
     by_cases ej:j=i
     ·subst ej
      rw [hi2] at hx2
      cases hx2
      have:e=e':=by
       obtain ⟨a1,q1⟩:=List.mem_iff_getElem?.mp hm
       obtain ⟨a2,q2⟩:=List.mem_iff_getElem?.mp em
       have l1:=Aj q1
       have l2:=Aj q2
       rw [List.getElem?_eq_getElem l1] at q1
       rw [List.getElem?_eq_getElem l2] at q2
       have:=(List.getElem_inj (i:=a1) (j:=a2) (h₀:=by rw [List.length_map];exact l1) (h₁:=by rw [List.length_map];exact l2) hb.2.1).mp (by rw [List.getElem_map,List.getElem_map,Option.some.inj q1,Option.some.inj q2,en2,en])
       subst this
       exact (Option.some.inj q1).symm.trans (Option.some.inj q2)
      rw [this];exact hc
     ·exact pre j x e (by omega) hx2 hm en2
    | false=>
     have nb:inB sw rule n=false:=by
      unfold inB
      rw [List.all_eq_false]
      exact ⟨e',em,by rw [hc];decide⟩
     have:=k H2 S2
     rw [nb] at this
     exact this
   ·have hv:valV (es.map kR) (.inr x'.1)=none:=by
     refine Bu fun q=>hin ?_
     rw [Dg,ee] at q
     obtain ⟨y,hy,e⟩:=List.mem_map.mp q
     cases e
     exact hy
    rw [hv]
    refine ⟨⟨_,_,rfl⟩,S2,fun j x e hj hx2 hm en2=>?_⟩
    by_cases ej:j=i
    ·subst ej
     rw [hi2] at hx2
     cases hx2
     exact absurd (List.mem_map.mpr ⟨e,hm,en2⟩) hin
    ·exact pre j x e (by omega) hx2 hm en2
  ·rintro σ H1 ⟨⟨v3,v4,rfl⟩,S1,pre⟩
   rw [Ap,List.length_map,len] at pre
   have yes:inB sw rule n=true:=by
    unfold inB
    rw [List.all_eq_true]
    intro e hm
    obtain ⟨_,_,x,hx,ex,_⟩:=hb.2.2 e hm
    obtain ⟨j,hj⟩:=List.mem_iff_getElem?.mp hx
    exact pre j x e (Aj hj) hj hm ex.symm
   have:=k H1 S1
   rw [yes] at this
   exact .inl this
theorem al7 {f:Addr} {fd:FuncData} (Z:Al K t) (F:FunD K "_law_set" "_law_set" Jo f fd .none) (T:Tab P w K mg base 1 (gb_1 K t) bl):FnOk P w K mg base CX0 2 f fd Na (Qk K t):=by
 refine F.okW0 av2 ax5 T (at3 K t) (fun vs H Q E h=>?_) (fun vs H Q E h=>?_)
 ·obtain ⟨l,r,d,sw,rule,rfl,_⟩:=h;rfl
 ·obtain ⟨l,r,d,sw,rule,rfl,hsw,hw,⟨rs,er,⟨_,orr⟩,hr⟩,hrl,hb,k⟩:=h
  have few:=hw.len
  have lenr:(rs.map fun x=>V.ref x.2).length=(Ah sw).length:=by rw [<- er];simp
  refine .inl ⟨⟨_,SqL.of orr⟩,?_⟩
  refine Cr (Cg (rs.map fun x=>V.ref x.2)) (fun n σ H'=>(∃ v4 v5,σ=[some (.ref l),some (.ref r),some (.ref d),some (.int (fN sw rule n:Nat)),v4,v5]) /\ Same H H') ⟨⟨_,_,rfl⟩,Same.refl _⟩ (fun i σ H' _ q=>q.2.seqL (SqL.of orr)) ?_ ?_
  ·rintro n x y T σ H1 hx hT ⟨⟨v4,v5,rfl⟩,S1⟩
   obtain ⟨⟨row,ra⟩,hi,rfl,rfl⟩:=Ef hx
   have hi2:(Ah sw)[n]? = some row:=by rw [<- er,List.getElem?_map,hi];rfl
   have ST:=Same.upd (o:=.tup [.int (n:Int),.ref ra]) hT
   refine ⟨_,SqT.of Ac,rfl,?_⟩
   have S2:=S1.trans ST
   generalize upd H1 T (.tup [.int (n:Int),.ref ra])=H2 at S2 ⊢
   refine ⟨d,l,ra,n,row,sw,rule,rfl,hrl.mono (Kp.same S2),hsw.mono (Kp.same S2),hw,hb,S2 _ _ (hr _ (List.mem_of_getElem? hi)).2,hi2,fun H3 S3=>?_⟩
   have hn:=Aj hi2
   have sl:∀ {c c':Int},c=c' -> [some (V.ref l),some (V.ref r),some (V.ref d),some (V.int c),some (V.int (n:Int)),some (V.ref ra)]=[some (V.ref l),some (V.ref r),some (V.ref d),some (V.int c'),some (V.int (n:Int)),some (V.ref ra)]:=fun e=>by rw [e]
   have f1:fN sw rule (n + 1)=if inB sw rule n=true then fN sw rule n ||| 2 ^ n else fN sw rule n:=rfl
   cases hh:inB sw rule n with
   | true=>
    rw [hh,if_pos rfl] at f1
    exact ⟨⟨by omega,by omega,by decide⟩,⟨_,_,sl (by rw [f1,Int.one_mul,Int.toNat_natCast,D9,C3])⟩,S2.trans S3⟩
   | false=>
    rw [hh,if_neg Bool.false_ne_true] at f1
    exact ⟨⟨_,_,sl (by rw [f1])⟩,S2.trans S3⟩
  ·rintro σ H1 ⟨⟨v4,v5,rfl⟩,S1⟩
   rw [Ap,lenr]
   have:=k H1 S1
   rw [<- aj0] at this
   exact .inl this
def Lb (n:Int) (ss:List Str) (m:Nat):List Str:=(List.range m).filterMap fun k=>if Builtin.bitAnd (n / 3 / 2 ^ k) 1=1 then ss[k]? else none
theorem Gc {n:Int} {ss:List Str} {m:Nat} {z:Str} (h:ss[m]? = some z):Lb n ss (m + 1)=Lb n ss m ++ (if Builtin.bitAnd (n / 3 / 2 ^ m) 1=1 then [z] else []):=by
 unfold Lb
 rw [List.range_succ,List.filterMap_append]
 congr 1
 rw [List.filterMap_cons,List.filterMap_nil]
 by_cases hb:Builtin.bitAnd (n / 3 / 2 ^ m) 1=1
 ·rw [if_pos hb,if_pos hb,h]
 ·rw [if_neg hb,if_neg hb]
theorem Iu (n:Int) (ss:List Str):∀ m,m <= ss.length -> (Lb n ss m).Sublist (ss.take m)
 | 0,_=>List.Sublist.refl _
 | m + 1,h=>by
  have hm:ss[m]? = some ss[m]:=List.getElem?_eq_getElem (by omega)
  rw [Gc hm,List.take_add_one,hm]
  refine (Iu n ss m (by omega)).append ?_
  split
  ·exact List.Sublist.refl _
  ·exact List.nil_sublist _
theorem Us (n:Int) (ss:List Str):(D4 n ss).Sublist ss:=by
 have:=Iu n ss ss.length (Nat.le_refl _)
 rwa [List.take_length] at this
theorem E0 {c:Int} {sw:Sw} {j:Nat} {x:Str × List Str} (h:sw[j]? = some x):Dl c sw (j + 1)=Dl c sw j ++ (entF c j x).toList:=by
 unfold Dl
 rw [List.range_succ,List.filterMap_append]
 congr 1
 rw [List.filterMap_cons,List.filterMap_nil,h,Option.bind_some]
 cases entF c j x <;> rfl
theorem Wa {c:Int} {j:Nat} {x e:Str × List Str} (h:entF c j x=some e):e.1=x.1 /\ e.2 ≠ [] /\ e.2.Sublist x.2:=by
 unfold entF at h
 split at h
 ·rename_i hh
  cases h
  exact ⟨rfl,hh.2,Us _ _⟩
 ·cases h
theorem Cw (c:Int) (sw:Sw):∀ j,j <= sw.length -> ((Dl c sw j).map (·.1)).Sublist ((sw.take j).map (·.1))
 | 0,_=>List.Sublist.refl _
 | j + 1,h=>by
  have hj:sw[j]? = some sw[j]:=List.getElem?_eq_getElem (by omega)
  rw [E0 hj,List.take_add_one,hj,List.map_append,List.map_append]
  refine (Cw c sw j (by omega)).append ?_
  cases e:entF c j sw[j] with
  | none=>exact List.nil_sublist _
  | some q=>
   show [q.1].Sublist [sw[j].1]
   rw [(Wa e).1]
   exact List.Sublist.refl _
theorem U6 {c:Int} {sw:Sw} {j:Nat} {e:Str × List Str} (h:e ∈ Dl c sw j):∃ i x,sw[i]? = some x /\ entF c i x=some e:=by
 unfold Dl at h
 obtain ⟨i,_,q⟩:=List.mem_filterMap.mp h
 cases hx:sw[i]? with
 | none=>rw [hx] at q;cases q
 | some x=>rw [hx] at q;exact ⟨i,x,hx,q⟩
theorem ai9 {sw:Sw} {x e:Str × List Str} (hw:okSw sw) (hx:x ∈ sw) (h:e.1=x.1 /\ e.2 ≠ [] /\ e.2.Sublist x.2):Bi sw e:=by
 have ox:=hw.sets x hx
 refine ⟨h.2.1,⟨fun z hz=>ox.1.1 z (h.2.2.subset hz),ox.1.2.1.sublist h.2.2,?_⟩,x,hx,h.1.symm,fun z hz=>h.2.2.subset hz⟩
 have:=h.2.2.length_le
 have:=ox.2.2
 omega
theorem Jx {sw:Sw} (hw:okSw sw) (c:Int):La sw (D8 c sw):=by
 have s:=Cw c sw sw.length (Nat.le_refl _)
 rw [List.take_length] at s
 refine ⟨?_,hw.2.2.1.sublist s,fun e he=>?_⟩
 ·have:=s.length_le
  rw [List.length_map,List.length_map] at this
  have:=hw.2.1
  unfold D8
  omega
 ·obtain ⟨i,x,hx,q⟩:=U6 he
  exact ai9 hw (List.mem_of_getElem? hx) (Wa q)
theorem ac2 {sw:Sw} (hw:okSw sw) (c:Int):La sw (Gv c sw):=by
 have h:=Jx hw (c / 4)
 unfold Gv
 split
 ·refine ⟨by rw [List.length_map];exact h.1,by rw [List.map_map];exact h.2.1,fun e he=>?_⟩
  obtain ⟨q,hq,rfl⟩:=List.mem_map.mp he
  obtain ⟨a,b,x,hx,ex,hin⟩:=h.2.2 q hq
  exact ⟨by simpa using a,⟨fun z hz=>b.1 z (by simpa using hz),List.pairwise_reverse.mpr (b.2.1.imp fun h=>Ne.symm h),by simpa using b.2.2⟩,x,hx,ex,fun z hz=>hin z (by simpa using hz)⟩
 ·exact h
theorem ak6 {f:Addr} {fd:FuncData} (Z:Al K t) (F:FunD K "_law_terms" "_law_terms" Jd f fd .none) (T:Tab P w K mg base 1 (gb_1 K t) bl):FnOk P w K mg base CX0 2 f fd Mz (Mn K t):=by
 refine F.okW0 au1 aw4 T (as0 K t) (fun vs H Q E h=>?_) (fun vs H Q E h=>?_)
 ·obtain ⟨c,l,sw,rfl,_⟩:=h;rfl
 ·obtain ⟨c,l,sw,rfl,⟨ds,ed,⟨_,ol⟩,hd⟩,hw,k⟩:=h
  have len:ds.length=sw.length:=by rw [<- ed];simp
  have l5:=hw.2.1
  intro d hd0
  refine .inl (.inl ⟨⟨_,(Same.upd hd0).seqL (SqL.of ol)⟩,?_⟩)
  have S0:=Same.upd (o:=.dK []) hd0
  have e0:upd H d (.dK []) d=some (.dK []):=Ac
  show ForW (Ite K l) _ _ _ [some (.int c),some (.ref l),some (.ref d),none,none,none,none] (upd H d (.dK []))
  generalize upd H d (.dK [])=H0 at S0 e0 ⊢
  refine Cr (Cg (ds.map fun x=>V.ref x.2)) (fun i σ H'=>(∃ v3 v4 v5 v6,σ=[some (.int c),some (.ref l),some (.ref d),v3,v4,v5,v6]) /\ Same H H' /\ ∃ es:List ((Str × List Str) × Addr),es.map (·.1)=Dl c sw i /\ H' d=some (.dK (es.map kR)) /\ (∀ x ∈ es,H x.2=none /\ H' x.2=some (lstO x.1.2)) /\ (es.map (·.2)).Nodup)
   ⟨⟨_,_,_,_,rfl⟩,S0,[],rfl,e0,(fun x hx=>by cases hx),List.nodup_nil⟩ (fun i σ H' _ q=>q.2.1.seqL (SqL.of ol)) ?_ ?_
  ·rintro i x y T σ H1 hx hT ⟨⟨v3,v4,v5,v6,rfl⟩,S1,es,ee,e1,he,nd⟩
   obtain ⟨⟨⟨x',la⟩,ta⟩,hi,rfl,rfl⟩:=Ef hx
   have hi2:sw[i]? = some x':=by rw [<- ed,List.getElem?_map,hi];rfl
   have il:=Aj hi2
   obtain ⟨⟨_,h1⟩,_,h2⟩:=hd _ (List.mem_of_getElem? hi)
   have h2:H la=some (lstO x'.2):=h2
   have o4:=(hw.sets x' (List.mem_of_getElem? hi2)).2.2
   have ST:=Same.upd (o:=.tup [.int (i:Int),.ref ta]) hT
   refine ⟨_,SqT.of Ac,rfl,?_⟩
   generalize upd H1 T (.tup [.int (i:Int),.ref ta])=H2 at ST ⊢
   refine ⟨c,10 + (i:Int),rfl,by omega,by omega,fun H3 S3=>?_⟩
   have S13:=ST.trans S3
   have S03:=S1.trans S13
   have hent:entF c i x' = if mixF c (10 + (i:Int)) % 3=0 /\ D4 (mixF c (10 + (i:Int))) x'.2 ≠ [] then some (x'.1,D4 (mixF c (10 + (i:Int))) x'.2) else none:=rfl
   generalize mixF c (10 + (i:Int))=N at hent ⊢
   refine ⟨_,.ref la,.inr (SqT.of (S03 _ _ h1)),rfl,.inl ⟨⟨_,SqL.of (S03 _ _ h2)⟩,fun D hD=>?_⟩⟩
   refine Q6 (Cg (x'.2.map V.str)) (fun m σ H'=>(∃ v0 v1,σ=[v0,v1,some (.int N)]) /\ Same H3 H' /\ H' D=some (lstO (Lb N x'.2 m))) ⟨⟨_,_,rfl⟩,Same.upd hD,Ac⟩ (fun m σ H' _ q=>(S03.trans q.2.1).seqL (SqL.of h2)) ?_ ?_
   ·rintro m u y T2 σ H4 hx4 hT2 ⟨⟨v0,v1,rfl⟩,S4,eD⟩
    obtain ⟨rfl,hy⟩:=Np hx4
    obtain ⟨z,hz,rfl⟩:=Ak hy
    have ST2:=Same.upd (o:=.tup [.int (m:Int),.str z]) hT2
    refine ⟨_,SqT.of Ac,rfl,⟨by decide,by decide⟩,by omega,?_⟩
    have ml:=Aj hz
    have pl:(Lb N x'.2 m).length <= 4:=by
     have:=(Iu N x'.2 m (by omega)).length_le
     rw [List.length_take] at this
     omega
    by_cases hb:Builtin.bitAnd (N / 3 / 2 ^ m) 1=1
    ·refine Ff (decide_eq_true (by rw [Int.toNat_natCast];exact hb)) ?_
     refine ⟨_,ST2 _ _ eD,by rw [List.length_map];exact Nat.lt_of_le_of_lt pl (by decide),⟨_,_,rfl⟩,(S4.trans ST2).set hD,?_⟩
     rw [Ac,lstO,Gc hz,if_pos hb,List.map_append];rfl
    ·refine Ce (decide_eq_false (by rw [Int.toNat_natCast];exact hb)) ?_
     refine ⟨⟨_,_,rfl⟩,S4.trans ST2,?_⟩
     rw [Gc hz,if_neg hb,List.append_nil]
     exact ST2 _ _ eD
   ·rintro σ H4 ⟨_,S4,eD⟩
    rw [Ap,List.length_map] at eD
    have eD:H4 D=some (lstO (D4 N x'.2)):=eD
    have S14:=S13.trans S4
    have S04:=S1.trans S14
    have fD:H D=none:=S03.free hD
    have stay:∀ H5,Same H1 H5 -> entF c i x' = none -> (∃ v3 v4 v5 v6,[some (V.int c),some (.ref l),some (.ref d),some (.int (i:Int)),some (.ref ta),some (.int N),some (.ref D)]=[some (.int c),some (.ref l),some (.ref d),v3,v4,v5,v6]) /\ Same H H5 /\ ∃ es:List ((Str × List Str) × Addr),es.map (·.1)=Dl c sw (i + 1) /\ H5 d=some (.dK (es.map kR)) /\ (∀ x ∈ es,H x.2=none /\ H5 x.2=some (lstO x.1.2)) /\ (es.map (·.2)).Nodup:=fun H5 S5 hn=>
     ⟨⟨_,_,_,_,rfl⟩,S1.trans S5,es,by rw [E0 hi2,hn,ee];simp,S5 _ _ e1,fun x hx=>⟨(he x hx).1,S5 _ _ (he x hx).2⟩,nd⟩
    refine ⟨by decide,?_⟩
    by_cases h3:N % 3=0
    ·refine Ff (decide_eq_true h3) ?_
     refine ⟨(show 0 <= sizeLine by decide),fun q hq=>.inl ⟨D,q,_,_,rfl,rfl,SqL.of ((Same.upd hq) _ _ eD),SqL.of Ac,Fx _,rfl,?_⟩⟩
     have Sq:=Same.upd (o:=.lst []) hq
     generalize upd H4 q (.lst [])=H5 at Sq ⊢
     have S15:=S14.trans Sq
     by_cases hp:D4 N x'.2=[]
     ·rw [hp]
      exact stay H5 S15 (by rw [hent,if_neg (fun z=>z.2 hp)])
     ·refine Ff (by rw [Fd (by rw [List.length_map];intro z;exact hp (List.length_eq_zero_iff.mp z))];rfl) ?_
      have hs:entF c i x' = some (x'.1,D4 N x'.2):=by rw [hent,if_pos ⟨h3,hp⟩]
      have nk:valV (es.map kR) (.inr x'.1)=none:=by
       refine Bu fun q=>?_
       rw [Dg,ee] at q
       obtain ⟨y,hy,e⟩:=List.mem_map.mp q
       cases e
       have hm:=(Cw c sw i (by omega)).subset hy
       rw [List.map_take] at hm
       exact Jv hw.2.2.1 (show (sw.map (·.1))[i]? = some x'.1 by rw [List.getElem?_map,hi2];rfl) hm
      have el:es.length <= 5:=by
       have:=(Cw c sw i (by omega)).length_le
       rw [<- ee,List.length_map,List.length_map,List.length_map,List.length_take] at this
       omega
      have e5D:=Sq _ _ eD
      have ndD:d ≠ D:=Af (S13 _ _ e1) hD
      refine ⟨_,_,.inr (SqT.of ((S1.trans S15) _ _ h1)),rfl,_,DPut.k (k:=.inr x'.1) (S15 _ _ e1) (by rw [List.length_map];exact Nat.lt_of_le_of_lt el (by decide)),?_⟩
      rw [Fh (e:=(x'.1,D4 N x'.2)) nk]
      refine ⟨⟨_,_,_,_,rfl⟩,(S1.trans S15).set hd0,es ++ [((x'.1,D4 N x'.2),D)],?_,Ac,fun x hx=>?_,?_⟩
      ·rw [List.map_append,ee,E0 hi2,hs];rfl
      ·rcases List.mem_append.mp hx with hx | hx
       ·obtain ⟨a1,a2⟩:=he x hx
        exact ⟨a1,by rw [Ad (fun z=>by rw [z,e1] at a2;cases a2)];exact S15 _ _ a2⟩
       ·have:x=((x'.1,D4 N x'.2),D):=by simpa using hx
        subst this
        exact ⟨fD,by rw [Ad (Ne.symm ndD)];exact e5D⟩
      ·rw [List.map_append]
       refine List.nodup_append.mpr ⟨nd,by simp,fun a ha b hb e=>?_⟩
       have:b=D:=by simpa using hb
       obtain ⟨x,hx,rfl⟩:=List.mem_map.mp ha
       have:=S13 _ _ (he x hx).2
       rw [e,‹b=D›,hD] at this
       cases this
    ·refine Ce (decide_eq_false h3) ?_
     exact stay H4 S14 (by rw [hent,if_neg (fun z=>h3 z.1)])
  ·rintro σ H1 ⟨⟨v3,v4,v5,v6,rfl⟩,S1,es,ee,e1,he,nd⟩
   rw [Ap,List.length_map,len] at ee
   exact .inl (k H1 d S1 ⟨es,ee,⟨hd0,e1⟩,he,nd⟩)
theorem al2 {f:Addr} {fd:FuncData} (Z:Al K t) (F:FunD K "_law_some" "_law_some" Jj f fd .none) (T:Tab P w K mg base 2 (gb_2 K t) bl):FnOk P w K mg base CX0 3 f fd M5 (Mp K t):=by
 refine F.okW0 au7 ax0 T (as6 K t) (fun vs H Q E h=>?_) (fun vs H Q E h=>?_)
 ·obtain ⟨c,l,sw,rfl,_⟩:=h;rfl
 ·obtain ⟨c,l,sw,rfl,hsw,hw,k⟩:=h
  refine ⟨⟨by decide,by decide⟩,c / 4,l,sw,rfl,hsw,hw,fun H1 d S1 ⟨es,ee,⟨fd,od⟩,he,nd⟩=>⟨by decide,?_⟩⟩
  have tok:=Jx hw (c / 4)
  refine ite2 (fun e=>?_) (fun e=>?_)
  ·have e:3 < c % 8:=by simpa using e
   have sf:Gv c sw=(D8 (c / 4) sw).map fun e=>(e.1,e.2.reverse):=by unfold Gv;rw [if_pos e]
   refine .inr (.inr (.inl ⟨_,od,fun o=>?_⟩))
   have ef:upd H1 d (.frz o (.dK (es.map kR))) d=some (.frz o (.dK (es.map kR))):=Ac
   have nld:∀ x ∈ es,x.2 ≠ d:=fun x hx z=>by have:=(he x hx).2;rw [z,od] at this;cases this
   have Of:Same H (upd H1 d (.frz o (.dK (es.map kR)))):=S1.set fd
   have hl0:∀ x ∈ es,upd H1 d (.frz o (.dK (es.map kR))) x.2=some (lstO x.1.2):=fun x hx=>by rw [Ad (nld x hx)];exact (he x hx).2
   show ForW (Itd d o (es.map kR)) _ _ _ [some (.int c),some (.ref l),some (.ref d),none] _
   generalize upd H1 d (.frz o (.dK (es.map kR)))=Hf at ef Of hl0 ⊢
   refine Av (Dm (es.map kR)) (fun i σ H'=>(∃ v3,σ=[some (.int c),some (.ref l),some (.ref d),v3]) /\ Same H H' /\ H' d=some (.frz o (.dK (es.map kR))) /\ ∀ (j:Nat) x,es[j]? = some x -> H' x.2=some (lstO (if j < i then x.1.2.reverse else x.1.2))) ⟨⟨_,rfl⟩,Of,ef,fun j x hj=>by rw [if_neg (Nat.not_lt_zero j)];exact hl0 x (List.mem_of_getElem? hj)⟩ (fun i σ H' _ q=>q.2.2.1) ?_ ?_
   ·rintro i x σ H2 hx ⟨⟨v3,rfl⟩,S2,e2,hl⟩
    obtain ⟨kv,hi0,rfl⟩:=Ak hx
    obtain ⟨⟨en,la⟩,hi,rfl⟩:=Ak hi0
    have hv:valV (es.map kR) (.inr en.1)=some (.ref la):=Az (Bx ee tok.2.1) hi0
    have el:=hl i _ hi
    rw [if_neg (Nat.lt_irrefl i)] at el
    have el:H2 la=some (lstO en.2):=el
    refine ⟨.ref la,.inl ⟨_,.inr en.1,.inr ⟨o,e2⟩,rfl,hv.symm⟩,.inl ⟨rfl,_,SqL.of el⟩,la,_,rfl,rfl,el,⟨_,rfl⟩,S2.set (he _ (List.mem_of_getElem? hi)).1,?_,fun j x hj=>?_⟩
    ·rw [Ad (nld _ (List.mem_of_getElem? hi)).symm];exact e2
    ·by_cases ej:j=i
     ·subst ej
      rw [hi] at hj
      cases hj
      rw [if_pos (Nat.lt_succ_self j)]
      show upd H2 la (.lst (en.2.map V.str).reverse) la=_
      rw [Ac,lstO,List.map_reverse]
     ·have ne:x.2 ≠ la:=fun z=>by
       have l1:=Aj hj
       have l2:=Aj hi
       have q1:(es.map (·.2))[j]? = some la:=by rw [List.getElem?_map,hj,<- z];rfl
       have q2:(es.map (·.2))[i]? = some la:=by rw [List.getElem?_map,hi];rfl
       rw [List.getElem?_eq_getElem (by rw [List.length_map];exact l1)] at q1
       rw [List.getElem?_eq_getElem (by rw [List.length_map];exact l2)] at q2
       exact ej ((List.getElem_inj nd).mp ((Option.some.inj q1).trans (Option.some.inj q2).symm))
      rw [Ad ne]
      have:=hl j x hj
      by_cases lt:j < i
      ·rw [if_pos lt] at this
       rw [if_pos (by omega)];exact this
      ·rw [if_neg lt] at this
       rw [if_neg (by omega)];exact this
   ·rintro σ H2 ⟨⟨v3,rfl⟩,S2,e2,hl⟩
    refine .inr ⟨d,o,_,od,e2,?_⟩
    refine k _ d (S2.set fd) ⟨es.map fun x=>((x.1.1,x.1.2.reverse),x.2),?_,⟨fd,?_⟩,fun x hx=>?_⟩
    ·rw [sf,<- ee,List.map_map,List.map_map];rfl
    ·rw [Ac,List.map_map];rfl
    ·obtain ⟨y,hy,rfl⟩:=List.mem_map.mp hx
     obtain ⟨j,hj⟩:=List.mem_iff_getElem?.mp hy
     have:=hl j y hj
     rw [if_pos (by rw [List.length_map,List.length_map];exact Aj hj)] at this
     exact ⟨(he y hy).1,by rw [Ad (nld y hy)];exact this⟩
  ·have e:¬ 3 < c % 8:=by simpa using e
   have sf:Gv c sw=D8 (c / 4) sw:=by unfold Gv;rw [if_neg e]
   rw [sf] at k
   exact k H1 d S1 ⟨es,ee,⟨fd,od⟩,he⟩
theorem Ee:∀ r:List Str,deps (r.map strD)=0
 | []=>rfl
 | z :: r=>by rw [List.map_cons,deps,Ee r];rfl
def Ve (sw:Sw) (rules:List Sw) (H:Hp) (a:Addr) (ls:List (Nat × Addr)):Prop:=H a=some (.lst (ls.map fun x=>.ref x.2)) /\ ∀ x ∈ ls,∃ row,(Ah sw)[x.1]? = some row /\ H x.2=some (lstO row) /\ ∀ r ∈ rules,inB sw r x.1=false
theorem Es {sw:Sw} {rules:List Sw} {H:Hp}:∀ {ls:List (Nat × Addr)},(∀ x ∈ ls,∃ row,(Ah sw)[x.1]? = some row /\ H x.2=some (lstO row) /\ ∀ r ∈ rules,inB sw r x.1=false) -> ∃ ds,AtL K H ds (ls.map fun x=>V.ref x.2) /\ ds.length=ls.length /\ deps ds <= 1
 | [],_=>⟨[],Dd,rfl,by decide⟩
 | x :: ls,h=>by
  obtain ⟨row,_,e,_⟩:=h x List.mem_cons_self
  obtain ⟨ds,a,b,c⟩:=Es fun y hy=>h y (List.mem_cons_of_mem _ hy)
  refine ⟨.lst (row.map strD) :: ds,Ch (G3 (SqL.of e)) a,by rw [List.length_cons,List.length_cons,b],?_⟩
  have d1:dep (.lst (row.map strD))=1:=by rw [dep,Ee]
  rw [deps,d1]
  exact Nat.max_le.mpr ⟨Nat.le_refl _,c⟩
theorem at7 {sw:Sw} {n:Nat} {row:List Str} (hw:okSw sw) (h:(Ah sw)[n]? = some row):row ≠ []:=fun e=>by
 have:=Ml hw h
 rw [e] at this
 have:=hw.1
 simp at *
 omega
theorem Ip {α:Type} {row:List Str} {gs:List (α × Addr)} (h:row ≠ []):(lstO row) ≠ .lst (gs.map fun x=>V.ref x.2):=fun e=>by
 cases row with
 | nil=>exact h rfl
 | cons z r=>
  cases gs with
  | nil=>simp [lstO] at e
  | cons g gs=>
   simp only [lstO,List.map_cons] at e
   injection e with e
   injection e with e _
   cases e
theorem Tp {sw:Sw} {rules:List Sw} {n:Nat} (hn:n < (Ah sw).length) (h:∀ r ∈ rules,inB sw r n=false):Dv sw rules ≠ 0:=by
 have bit:(Kt sw rules).testBit n=true:=by
  rw [Ku,decide_eq_true hn,Bool.true_and]
  have:(rules.any fun r=>(boxN sw r).testBit n)=false:=by
   rw [List.any_eq_false]
   intro r hr
   rw [E6,decide_eq_true hn,Bool.true_and]
   have:=h r hr
   unfold inB at this
   rw [show (r.all fun e=>e.2.any fun z=>hasB (Ah sw) (C1 sw e.1) z n)=r.all (hitB sw n) from rfl,this]
   decide
  rw [this]
  rfl
 rw [Ks]
 intro q
 have q:Kt sw rules=0:=by omega
 rw [q,Nat.zero_testBit] at bit
 cases bit
theorem RuleNd.ruleAt {ok:Addr -> Prop} {H:Hp} {d:Addr} {rule:Sw} (h:RuleNd ok H d rule):RuleAt ok H d rule:=by
 obtain ⟨ds,a,b,c,_⟩:=h
 exact ⟨ds,a,b,c⟩
theorem To {α:Type} {l:List α} {m:Nat} {x:α} {p:α -> Bool} (h:l[m]? = some x):(l.take (m + 1)).filter p=(l.take m).filter p ++ (if p x=true then [x] else []):=by
 rw [List.take_add_one,h,Option.toList_some,List.filter_append]
 congr 1
 cases e:p x <;> simp [e]
theorem ak5 {f:Addr} {fd:FuncData} (Z:Al K t) (F:FunD K "_law_rules" "_law_rules" Jc f fd .none) (T:Tab P w K mg base 2 (gb_2 K t) bl):FnOk P w K mg base CX0 3 f fd Mx (Qh K t):=by
 refine F.okW0 au0 aw3 T (ar9 K t) (fun vs H Q E h=>?_) (fun vs H Q E h=>?_)
 ·obtain ⟨c,l,sw,rfl,_⟩:=h;rfl
 ·obtain ⟨c,l,sw,rfl,hsw,hw,k⟩:=h
  refine ⟨(show 0 <= sizeLine by decide),fun kk hkk=>?_⟩
  have S0:=Same.upd (o:=.lst []) hkk
  have ek0:upd H kk (.lst []) kk=some (.lst []):=Ac
  generalize upd H kk (.lst [])=H0 at S0 ek0 ⊢
  refine ⟨l,sw,rfl,hsw.mono (Kp.same S0),hw,fun H1 r S1 ⟨rs,er,⟨_,orr⟩,hr⟩=>?_⟩
  refine ⟨c,1,rfl,by decide,by decide,fun H2 S2=>⟨by decide,?_⟩⟩
  have S02:=S0.trans (S1.trans S2)
  have hM:0 <= mixF c 1 % 4 /\ mixF c 1 % 4 < 4:=by omega
  refine ⟨⟨by omega,by omega⟩,?_⟩
  have few:=hw.len
  have pos:=hw.pos
  refine Av (Ec 0 (mixF c 1 % 4).toNat) (fun i σ H'=>∃ (gs:List (Sw × Addr)) (ls:List (Nat × Addr)) (lf:Addr),(∃ v4 v5 v6,σ=[some (.int c),some (.ref l),some (.ref kk),some (.ref lf),v4,v5,v6]) /\ Same H H' /\ H' kk=some (.lst (gs.map fun x=>.ref x.2)) /\ (∀ x ∈ gs,RuleAt (fun a=>H a=none /\ a ≠ kk) H' x.2 x.1) /\ (∀ r ∈ gs.map (·.1),Co sw r) /\ gs.length <= i /\
    Ve sw (gs.map (·.1)) H' lf ls /\ ls ≠ [] /\ ls.length <= 256) ?_ (fun _ _ _ _ _=>True.intro) ?_ ?_
  ·refine ⟨[],(List.range (Ah sw).length).zip (rs.map (·.2)),r,⟨_,_,_,rfl⟩,S02,(S1.trans S2) _ _ ek0,(fun x hx=>by cases hx),(fun x hx=>by cases hx),Nat.le_refl _,⟨?_,fun x hx=>?_⟩,?_,?_⟩
   ·have lr:rs.length=(Ah sw).length:=by rw [<- er,List.length_map]
    rw [S2 _ _ orr]
    have e2:((List.range (Ah sw).length).zip (rs.map (·.2))).map (·.2)=rs.map (·.2):=List.map_snd_zip (by rw [List.length_map,List.length_range];omega)
    have:(((List.range (Ah sw).length).zip (rs.map (·.2))).map fun x=>V.ref x.2)=rs.map fun x=>V.ref x.2:=by
     rw [show (((List.range (Ah sw).length).zip (rs.map (·.2))).map fun x=>V.ref x.2)=(((List.range (Ah sw).length).zip (rs.map (·.2))).map (·.2)).map V.ref by rw [List.map_map];rfl,e2,List.map_map]
     rfl
    rw [this]
   ·obtain ⟨j,hj,e⟩:=List.mem_iff_getElem.mp hx
    have e2:((List.range (Ah sw).length).zip (rs.map (·.2)))[j]? = some x:=by rw [List.getElem?_eq_getElem hj,e]
    obtain ⟨x1,x2⟩:=x
    rw [List.getElem?_zip_eq_some] at e2
    obtain ⟨e3,e4⟩:=e2
    obtain ⟨⟨row,ra⟩,hra,rfl⟩:=Ak e4
    have:x1=j:=by
     have hl:=Aj e3
     rw [List.getElem?_eq_getElem hl,List.getElem_range] at e3
     exact (Option.some.inj e3).symm
    subst this
    exact ⟨row,by rw [<- er,List.getElem?_map,hra];rfl,S2 _ _ (hr _ (List.mem_of_getElem? hra)).2,fun r hr=>by cases hr⟩
   ·intro e
    have:=congrArg List.length e
    rw [List.length_zip,List.length_range,List.length_map,List.length_nil] at this
    have lr:rs.length=(Ah sw).length:=by rw [<- er,List.length_map]
    omega
   ·rw [List.length_zip,List.length_range];omega
  ·rintro i x σ H3 hx ⟨gs,ls,lf,⟨v4,v5,v6,rfl⟩,S3,ek,hg,okg,gl,⟨elf,hls⟩,lne,l256⟩
   obtain ⟨hi,rfl⟩:=Iz hx
   refine ⟨.inl ⟨by decide,by decide⟩,c + 101 * (i:Int),l,sw,rfl,hsw.mono (Kp.same S3),hw,fun H4 d S4 R4=>?_⟩
   have hb:=Jx hw (c + 101 * (i:Int))
   generalize D8 (c + 101 * (i:Int)) sw=rule at R4 hb
   obtain ⟨es,ee,⟨fd,od⟩,he,nd⟩:=id R4
   have S04:=S3.trans S4
   refine .inl ⟨⟨_,SqL.of (S4 _ _ elf)⟩,fun D hD=>?_⟩
   refine De (Au (ls.map fun x=>V.ref x.2)) (fun m σ H'=>(∃ v,σ=[v,some (.ref d),some (.ref l)]) /\ Same H4 H' /\ H' D=some (.lst (((ls.take m).filter fun x=>!inB sw rule x.1).map fun x=>.ref x.2))) ⟨⟨_,rfl⟩,Same.upd hD,Ac⟩ (fun m σ H' _ q=>(S4.trans q.2.1).seqL (SqL.of elf)) ?_ ?_
   ·rintro m x σ H5 hx5 ⟨⟨v,rfl⟩,S5,eD⟩
    obtain ⟨⟨n,ra⟩,hm,rfl⟩:=Ak hx5
    obtain ⟨row,hrow,era,_⟩:=hls _ (List.mem_of_getElem? hm)
    have S45:=S4.trans S5
    refine ⟨d,l,ra,n,row,sw,rule,rfl,R4.ruleAt.mono ((Kp.same S5).trans Kp.any),hsw.mono (Kp.same (S3.trans S45)),hw,hb,S45 _ _ era,hrow,fun H6 S6=>?_⟩
    have fs:=To (p:=fun x:Nat × Addr=>!inB sw rule x.1) hm
    cases hc:inB sw rule n with
    | true=>
     have hc':(!inB sw rule (n,ra).1)=false:=by show (!inB sw rule n)=false;rw [hc];rfl
     rw [hc',if_neg Bool.false_ne_true,List.append_nil] at fs
     exact ⟨⟨_,rfl⟩,S5.trans S6,by rw [fs];exact S6 _ _ eD⟩
    | false=>
     have hc':(!inB sw rule (n,ra).1)=true:=by show (!inB sw rule n)=true;rw [hc];rfl
     rw [hc',if_pos rfl] at fs
     refine ⟨_,S6 _ _ eD,?_,⟨_,rfl⟩,(S5.trans S6).set hD,?_⟩
     ·rw [List.length_map]
      have:=List.length_filter_le (fun x:Nat × Addr=>!inB sw rule x.1) (ls.take m)
      rw [List.length_take] at this
      exact Nat.lt_of_le_of_lt (show _ <= 256 by omega) (by decide)
     ·rw [Ac,fs,List.map_append];rfl
   ·rintro σ H5 ⟨_,S5,eD⟩
    rw [List.length_map,List.take_length] at eD
    have S45:=S4.trans S5
    have S05:=S3.trans S45
    have hle:=List.length_filter_le (fun x:Nat × Addr=>!inB sw rule x.1) ls
    have hms:∀ x ∈ ls.filter (fun x=>!inB sw rule x.1),∃ row,(Ah sw)[x.1]? = some row /\ H5 x.2=some (lstO row) /\ ∀ r ∈ gs.map (·.1) ++ [rule],inB sw r x.1=false:=fun x hx=>by
     obtain ⟨hx1,hx2⟩:=List.mem_filter.mp hx
     obtain ⟨row,a1,a2,a3⟩:=hls x hx1
     refine ⟨row,a1,S45 _ _ a2,fun r hr=>?_⟩
     rcases List.mem_append.mp hr with h | h
     ·exact a3 r h
     ·have:r=rule:=by simpa using h
      rw [this];simpa using hx2
    generalize ls.filter (fun x=>!inB sw rule x.1)=ms at eD hle hms
    have stay:∀ H6,Same H5 H6 -> ∃ (gs:List (Sw × Addr)) (ls:List (Nat × Addr)) (lf':Addr),(∃ v4 v5 v6,[some (V.int c),some (.ref l),some (.ref kk),some (.ref lf),some (.int (i:Int)),some (.ref d),some (.ref D)]=[some (.int c),some (.ref l),some (.ref kk),some (.ref lf'),v4,v5,v6]) /\ Same H H6 /\ H6 kk=some (.lst (gs.map fun x=>.ref x.2)) /\ (∀ x ∈ gs,RuleAt (fun a=>H a=none /\ a ≠ kk) H6 x.2 x.1) /\ (∀ r ∈ gs.map (·.1),Co sw r) /\ gs.length <= i + 1 /\
      Ve sw (gs.map (·.1)) H6 lf' ls /\ ls ≠ [] /\ ls.length <= 256:=fun H6 S6=>
     ⟨gs,ls,lf,⟨_,_,_,rfl⟩,S05.trans S6,(S45.trans S6) _ _ ek,fun x hx=>(hg x hx).mono (Kp.same (S45.trans S6)),okg,by omega,⟨(S45.trans S6) _ _ elf,fun x hx=>by obtain ⟨row,a1,a2,a3⟩:=hls x hx;exact ⟨row,a1,(S45.trans S6) _ _ a2,a3⟩⟩,lne,l256⟩
    intro q hq
    refine .inl (.inr (.inr (.inr (.inl ⟨_,.inl ((Same.upd hq) _ _ (S5 _ _ od)),.inl Ac,?_⟩))))
    have Sq:=Same.upd (o:=.dK []) hq
    generalize upd H5 q (.dK [])=H6 at Sq ⊢
    by_cases hr0:rule=[]
    ·have:es=[]:=by rw [hr0] at ee;exact List.map_eq_nil_iff.mp ee
     subst this
     exact stay H6 Sq
    have ene:(es.map kR).isEmpty=false:=by
     cases es with
     | nil=>exact absurd ee.symm hr0
     | cons e es=>rfl
    refine Ff (by rw [ene];rfl) ?_
    obtain ⟨ds,at1,dl,dd⟩:=Es (K:=K) hms
    refine ⟨(show 0 <= sizeLine by decide),fun q2 hq2=>.inr (.inl ⟨.lst ds,.lst [],O3 (SqL.of (((Sq.trans (Same.upd hq2))) _ _ eD)) ?_,O3 (SqL.of Ac) Dd,?_,?_⟩)⟩
    ·obtain ⟨ds2,at2,dl2,dd2⟩:=Es (K:=K) (H:=upd H6 q2 (.lst [])) (sw:=sw) (rules:=gs.map (·.1) ++ [rule]) (ls:=ms) fun x hx=>by obtain ⟨row,a1,a2,a3⟩:=hms x hx;exact ⟨row,a1,(Sq.trans (Same.upd hq2)) _ _ a2,a3⟩
     exact Lo (Sq.trans (Same.upd hq2)) at1
    ·rw [dep];omega
    have Sq2:=Same.upd (o:=.lst []) hq2
    generalize upd H6 q2 (.lst [])=H7 at Sq2 ⊢
    have S57:=Sq.trans Sq2
    by_cases hm0:ms=[]
    ·have:ds=[]:=List.length_eq_zero_iff.mp (by rw [dl,hm0];rfl)
     rw [this]
     exact stay H7 S57
    have dne:deq (.lst ds) (.lst [])=false:=by
     cases ds with
     | nil=>exact absurd (List.length_eq_zero_iff.mp dl.symm) hm0
     | cons e es=>rfl
    refine Ff (by rw [dne];rfl) ?_
    have S47:=S5.trans S57
    have S37:=S45.trans S57
    have S07:=S05.trans S57
    have ek7:=S37 _ _ ek
    have ko:Kp (fun a=>H a=none /\ a ≠ kk) H7 (fun a=>H a=none /\ a ≠ kk) (upd H7 kk (.lst ((gs.map fun x=>V.ref x.2) ++ [.ref d]))):=Kp.off (fun e=>e.2 rfl)
    have nDk:D ≠ kk:=(Af (S4 _ _ ek) hD).symm
    refine ⟨.inl ⟨rfl,_,SqL.of ek7⟩,kk,_,_,rfl,rfl,ek7,?_,?_⟩
    ·rw [List.length_map];exact Nat.lt_of_le_of_lt (show gs.length <= 3 by omega) (by decide)
    refine ⟨gs ++ [(rule,d)],ms,D,⟨_,_,_,rfl⟩,S07.set hkk,by rw [Ac,List.map_append];rfl,fun x hx=>?_,fun r hr=>?_,by rw [List.length_append];show gs.length + 1 <= _;omega,⟨by rw [Ad nDk];exact S57 _ _ eD,fun x hx=>?_⟩,hm0,by omega⟩
    ·rcases List.mem_append.mp hx with hx | hx
     ·exact (hg x hx).mono ((Kp.same S37).trans ko)
     ·have:x=(rule,d):=by simpa using hx
      subst this
      exact R4.ruleAt.mono (((Kp.weak fun a h=>⟨S3.free h,(Af ek h).symm⟩).trans (Kp.same S47)).trans ko)
    ·rw [List.map_append] at hr
     rcases List.mem_append.mp hr with h | h
     ·exact okg r h
     ·have:r=rule:=by simpa using h
      subst this
      exact ⟨hr0,by have:=hb.1;omega,hb.2.1,hb.2.2⟩
    ·obtain ⟨row,a1,a2,a3⟩:=hms x hx
     have nx:x.2 ≠ kk:=fun z=>by
      have e1:=S57 _ _ a2
      rw [z,ek7] at e1
      exact Ip (gs:=gs) (at7 hw a1) (Option.some.inj e1).symm
     rw [List.map_append]
     exact ⟨row,a1,by rw [Ad nx];exact S57 _ _ a2,a3⟩
  ·rintro σ H3 ⟨gs,ls,lf,⟨v4,v5,v6,rfl⟩,S3,ek,hg,okg,gl,⟨elf,hls⟩,lne,l256⟩
   rw [B1] at gl
   cases ls with
   | nil=>exact absurd rfl lne
   | cons x ls=>
    obtain ⟨row,a1,_,a3⟩:=hls x List.mem_cons_self
    exact .inl (k H3 kk (gs.map (·.1)) S3 ⟨gs,rfl,⟨hkk,ek⟩,fun x hx=>(hg x hx).mono (Kp.weak fun a h=>h.1)⟩ okg (by rw [List.length_map];omega) (Tp (Aj a1) a3))
theorem ak4 {f:Addr} {fd:FuncData} (Z:Al K t) (F:FunD K "_law_boxed" "_law_boxed" Jb f fd .none) (T:Tab P w K mg base 5 (gb_5 K t) bl):FnOk P w K mg base CX0 6 f fd Mw (Qg K t):=by
 refine F.okW0 at9 aw2 T (ar8 K t) (fun vs H Q E h=>?_) (fun vs H Q E h=>?_)
 ·obtain ⟨p,v,sw,rules,rfl,_⟩:=h;rfl
 ·obtain ⟨p,v,sw,rules,rfl,hw,hz⟩:=h
  rcases hz with ⟨hn,⟨dx,d,l,n,s,kk,b,h⟩,k⟩ | ⟨r,kvs,os,rfl,⟨dx,d,l,n,s,kk,b,h⟩,B,k⟩
  ·exact ⟨p,dx,_,⟨t.c_zba,i_zx K t⟩,rfl,.head _,h.ins.2,rfl,⟨Nat.le_of_ble_eq_true rfl,Nat.le_of_ble_eq_true rfl⟩,p,l,s,v,sw,rfl,hw,.inl ⟨hn,fun H' e S fl=>⟨e,rfl,t.c_zaz,none,fl,Z.ec,true,Z.mc,k H' S⟩⟩⟩
  ·refine ⟨p,dx,_,⟨t.c_zba,i_zx K t⟩,rfl,.head _,h.ins.2,rfl,⟨Nat.le_of_ble_eq_true rfl,Nat.le_of_ble_eq_true rfl⟩,p,l,s,.ref r,sw,rfl,hw,.inr ⟨r,kvs,os,rfl,h.self,h.tps,h.sts,B,?_⟩⟩
   rcases k with ⟨rule,er,okr,k⟩ | ⟨hb,k⟩
   ·exact .inl ⟨rule,er,okr,fun H' S=>k H' S⟩
   ·exact .inr ⟨hb,fun H' e O R fl=>⟨e,rfl,t.c_zaz,none,fl,Z.ec,true,Z.mc,k H' O R⟩⟩
theorem a17 {f:Addr} {fd:FuncData} (Z:Al K t) (F:FunD K "_law_copied" "_law_copied" s_zw f fd .none) (T:Tab P w K mg base 0 (gb_0 K t) bl):FnOk P w K mg base CX0 1 f fd P_zw (Yk K t):=by
 refine F.okW0 a90 be0 T (a64 K t) (fun vs H Q E h=>?_) (fun vs H Q E h=>?_)
 ·obtain ⟨k,rules,rfl,_⟩:=h;rfl
 ·obtain ⟨kk,rules,rfl,⟨ds,ed,⟨_,ok1⟩,hd⟩,hr,h8,k⟩:=h
  have len:(ds.map fun x=>V.ref x.2).length=rules.length:=by rw [<- ed];simp
  refine ⟨(show 0 <= sizeLine by decide),fun f hf=>?_⟩
  have S0:=Same.upd (o:=.lst []) hf
  have ef0:upd H f (.lst []) f=some (.lst []):=Ac
  generalize upd H f (.lst [])=H0 at S0 ef0 ⊢
  refine .inl ⟨⟨_,S0.seqL (SqL.of ok1)⟩,?_⟩
  refine Av (Au (ds.map fun x=>V.ref x.2)) (fun i σ H'=>(∃ v2 v3,σ=[some (.ref kk),some (.ref f),v2,v3]) /\ Same H H' /\ ∃ gs:List (Sw × Addr),gs.map (·.1)=rules.take i /\ H' f=some (.lst (gs.map fun x=>.ref x.2)) /\ ∀ x ∈ gs,RuleAt (fun a=>H a=none /\ a ≠ f) H' x.2 x.1)
   ⟨⟨_,_,rfl⟩,S0,[],rfl,ef0,fun x hx=>by cases hx⟩ (fun i σ H' _ q=>q.2.1.seqL (SqL.of ok1)) ?_ ?_
  ·rintro i x σ H1 hx ⟨⟨v2,v3,rfl⟩,S1,gs,eg,e1,hg⟩
   obtain ⟨⟨rule,r⟩,hi,rfl⟩:=Ak hx
   have hi2:rules[i]? = some rule:=by rw [<- ed,List.getElem?_map,hi];rfl
   obtain ⟨hnd,h100⟩:=hr rule (List.mem_of_getElem? hi2)
   obtain ⟨xs,ex,⟨_,od⟩,hxs⟩:=hd _ (List.mem_of_getElem? hi)
   have ex:xs.map (·.1)=rule:=ex
   have od:H r=some (.dK (xs.map kR)):=od
   have lenx:xs.length=rule.length:=by rw [<- ex];simp
   have gl:gs.length <= 8:=by
    have:=Fw eg
    omega
   refine ⟨.inl ⟨rfl,_,SqL.of e1⟩,fun q hq=>.inl ⟨f,_,_,rfl,rfl,(Same.upd hq) _ _ e1,by rw [List.length_map];exact Nat.lt_of_le_of_lt gl (by decide),?_⟩⟩
   have Sq:=Same.upd (o:=.dK []) hq
   have eq0:upd H1 q (.dK []) q=some (.dK []):=Ac
   have nqf:q ≠ f:=(Af e1 hq).symm
   have fq:H q=none:=S1.free hq
   have hg1:∀ x ∈ gs,RuleAt (fun a=>H a=none /\ a ≠ f /\ a ≠ q) (upd H1 q (.dK [])) x.2 x.1:=fun x hx=>(hg x hx).mono (fun a o z=>⟨⟨z.1.1,z.1.2,Af z.2 hq⟩,Sq _ _ z.2⟩)
   generalize upd H1 q (.dK [])=H2 at Sq eq0 hg1 ⊢
   have S2:=S1.trans Sq
   have e2f:upd H2 f (.lst ((gs.map fun x=>V.ref x.2) ++ [.ref q])) f=some (.lst ((gs.map fun x=>V.ref x.2) ++ [.ref q])):=Ac
   have e2q:upd H2 f (.lst ((gs.map fun x=>V.ref x.2) ++ [.ref q])) q=some (.dK []):=by rw [Ad nqf];exact eq0
   have S3:Same H (upd H2 f (.lst ((gs.map fun x=>V.ref x.2) ++ [.ref q]))):=S2.set hf
   have hg3:∀ x ∈ gs,RuleAt (fun a=>H a=none /\ a ≠ f /\ a ≠ q) (upd H2 f (.lst ((gs.map fun x=>V.ref x.2) ++ [.ref q]))) x.2 x.1:=fun x hx=>(hg1 x hx).mono (Kp.off fun e=>e.2.1 rfl)
   generalize upd H2 f (.lst ((gs.map fun x=>V.ref x.2) ++ [.ref q]))=H3 at e2f e2q S3 hg3 ⊢
   have nrf:f ≠ r:=(Af od hf).symm
   have nrq:q ≠ r:=(Af od fq).symm
   refine .inr (.inr (.inl ⟨_,S3 _ _ od,fun o=>?_⟩))
   have O4:Off r H (upd H3 r (.frz o (.dK (xs.map kR)))):=fun b u n e=>by rw [Ad n];exact S3 _ _ e
   have e4r:upd H3 r (.frz o (.dK (xs.map kR))) r=some (.frz o (.dK (xs.map kR))):=Ac
   have e4f:upd H3 r (.frz o (.dK (xs.map kR))) f=some (.lst ((gs.map fun x=>V.ref x.2) ++ [.ref q])):=by rw [Ad nrf];exact e2f
   have e4q:upd H3 r (.frz o (.dK (xs.map kR))) q=some (.dK []):=by rw [Ad nrq];exact e2q
   have hg4:∀ x ∈ gs,RuleAt (fun a=>H a=none /\ a ≠ f /\ a ≠ q) (upd H3 r (.frz o (.dK (xs.map kR)))) x.2 x.1:=fun x hx=>(hg3 x hx).mono (Kp.off fun e=>by rw [od] at e;cases e.1)
   show ForW (Itd r o (xs.map kR)) _ _ _ [some (.ref kk),some (.ref f),some (.ref r),v3] _
   generalize upd H3 r (.frz o (.dK (xs.map kR)))=Hf at O4 e4r e4f e4q hg4 ⊢
   refine Av (Dm (xs.map kR)) (fun j σ H'=>(∃ v3,σ=[some (.ref kk),some (.ref f),some (.ref r),v3]) /\ Off r H H' /\ H' r=some (.frz o (.dK (xs.map kR))) /\ H' f=some (.lst ((gs.map fun x=>V.ref x.2) ++ [.ref q])) /\ (∀ x ∈ gs,RuleAt (fun a=>H a=none /\ a ≠ f /\ a ≠ q) H' x.2 x.1) /\
     ∃ es:List ((Str × List Str) × Addr),es.map (·.1)=rule.take j /\ H' q=some (.dK (es.map kR)) /\ ∀ x ∈ es,(H x.2=none /\ x.2 ≠ f) /\ H' x.2=some (lstO x.1.2))
    ⟨⟨_,rfl⟩,O4,e4r,e4f,hg4,[],rfl,e4q,fun x hx=>by cases hx⟩ (fun j σ H' _ z=>z.2.2.1) ?_ ?_
   ·rintro j y σ H5 hy ⟨⟨v3,rfl⟩,O5,e5r,e5f,hg5,es,ee,e5q,he⟩
    obtain ⟨kv,hj0,rfl⟩:=Ak hy
    obtain ⟨⟨e,la⟩,hj,rfl⟩:=Ak hj0
    have hj2:rule[j]? = some e:=by rw [<- ex,List.getElem?_map,hj];rfl
    have hla:=(hxs _ (List.mem_of_getElem? hj)).2
    have hla:H la=some (lstO e.2):=hla
    have nla:la ≠ r:=fun z=>by rw [z,od] at hla;cases hla
    have e5l:=O5 _ _ nla hla
    have hv:valV (xs.map kR) (.inr e.1)=some (.ref la):=Az (Bx ex hnd) hj0
    refine ⟨.ref la,.inl ⟨_,.inr e.1,.inr ⟨o,e5r⟩,rfl,hv.symm⟩,⟨_,.inl (SqL.of e5l),fun L hL=>?_⟩⟩
    have SL:=Same.upd (o:=lstO e.2) hL
    have eL:upd H5 L (lstO e.2) L=some (lstO e.2):=Ac
    have nLq:q ≠ L:=Af e5q hL
    have nLf:L ≠ f:=(Af e5f hL).symm
    have nLr:L ≠ r:=(Af e5r hL).symm
    have fL:H L=none:=O5.free nLr hL
    show Cm K (dBin (rIxD K) (dVar 1) (dUn Fl (dC (.int 1)))) (dVar 3) (.ref L) [some (.ref kk),some (.ref f),some (.ref r),some (.str e.1)] (upd H5 L (lstO e.2)) _
    generalize upd H5 L (lstO e.2)=H6 at SL eL ⊢
    have el:es.length <= 100:=by
     have:=Fw ee
     omega
    refine ⟨_,.ref q,.inl (SqL.of (SL _ _ e5f)),Vy _ _,_,DPut.k (k:=.inr e.1) (SL _ _ e5q) (by rw [List.length_map];exact Nat.lt_of_le_of_lt el (by decide)),?_⟩
    rw [Fh (e:=e) (Hn ee hj2 hnd)]
    have up:∀ {b u},b ≠ q -> H5 b=some u -> upd H6 q (.dK ((es ++ [(e,L)]).map kR)) b=some u:=fun n z=>by rw [Ad n];exact SL _ _ z
    refine ⟨⟨_,rfl⟩,fun b u n z=>up (Af z fq) (O5 b u n z),up (Ne.symm nrq) e5r,up (Ne.symm nqf) e5f,fun x hx=>(hg5 x hx).mono (fun a o z=>⟨z.1,up z.1.2.2 z.2⟩),es ++ [(e,L)],Cq ee hj2,Ac,fun x hx=>?_⟩
    rcases List.mem_append.mp hx with hx | hx
    ·obtain ⟨a1,a2⟩:=he x hx
     exact ⟨a1,up (fun z=>by rw [z,e5q] at a2;cases a2) a2⟩
    ·have:x=(e,L):=by simpa using hx
     subst this
     exact ⟨⟨fL,nLf⟩,by rw [Ad (Ne.symm nLq)];exact eL⟩
   ·rintro σ H5 ⟨⟨v3,rfl⟩,O5,e5r,e5f,hg5,es,ee,e5q,he⟩
    rw [List.length_map,List.length_map,lenx,List.take_length] at ee
    refine .inr ⟨r,o,_,S3 _ _ od,e5r,⟨_,_,rfl⟩,O5.thaw od,gs ++ [(rule,q)],Cq eg hi2,?_,fun x hx=>?_⟩
    ·rw [Ad nrf,e5f,List.map_append];rfl
    ·have ko:∀ {ok:Addr -> Prop},(∀ a,ok a -> H a=none) -> Kp ok H5 ok (upd H5 r (.dK (xs.map kR))):=fun h=>Kp.off fun z=>by have:=h _ z;rw [od] at this;cases this
     rcases List.mem_append.mp hx with hx | hx
     ·exact (hg5 x hx).mono ((ko fun a z=>z.1).trans (Kp.weak fun a z=>⟨z.1,z.2.1⟩))
     ·have:x=(rule,q):=by simpa using hx
      subst this
      exact RuleAt.mono (ok:=fun a=>H a=none /\ a ≠ f) ⟨es,ee,⟨⟨fq,nqf⟩,e5q⟩,he⟩ (ko fun a z=>z.1)
  ·rintro σ H1 ⟨⟨v2,v3,rfl⟩,S1,gs,eg,e1,hg⟩
   rw [len,List.take_length] at eg
   exact .inl (k H1 f S1 ⟨gs,eg,⟨hf,e1⟩,fun x hx=>(hg x hx).mono (Kp.weak fun a h=>h.1)⟩)
theorem Ez {H:Hp}:∀ {xs:List ((Str × List Str) × Addr)},(∀ x ∈ xs,H x.2=some (lstO x.1.2)) -> AtL K H ((xs.map (·.1)).map fun e:Str × List Str=>Dt.lst (e.2.map strD)) ((xs.map kR).map (·.2))
 | [],_=>Dd
 | x :: xs,h=>Ch (G3 (SqL.of (h x List.mem_cons_self))) (Ez fun y hy=>h y (List.mem_cons_of_mem _ hy))
theorem Jr {H:Hp} {a b:Addr} {rule:Sw} (h1:RuleAt any H a rule) (h2:RuleAt any H b rule):Kb K H a b:=by
 obtain ⟨xs,ex,⟨_,oa⟩,hx⟩:=h1
 obtain ⟨ys,ey,⟨_,ob⟩,hy⟩:=h2
 refine ⟨_,_,rule.map fun e:Str × List Str=>Dt.lst (e.2.map strD),.inl oa,.inl ob,by rw [Dg,Dg,ex,ey],?_,?_,?_⟩
 ·rw [<- ex];exact Ez fun x hx'=>(hx x hx').2
 ·rw [<- ey];exact Ez fun x hx'=>(hy x hx').2
 ·exact Nat.le_trans (Cj (n:=1) (fun e:Str × List Str=>by rw [dep,Ee];exact Nat.le_refl _) rule) (by decide)
theorem Ja {H:Hp} {a b:Addr} {rules:List Sw} {neg:Bool} {Q:VK} (h1:RulesAt any H a rules) (h2:RulesAt any H b rules) (q:Q (.bl (!neg)) H):rEqC K neg (.ref a) (.ref b) H Q:=by
 obtain ⟨gs,eg,⟨_,oa⟩,hg⟩:=h1
 obtain ⟨ds,ed,⟨_,ob⟩,hd⟩:=h2
 refine .inr (.inr ⟨_,_,SqL.of oa,SqL.of ob,?_,fun i x y hx hy=>?_,q⟩)
 ·have e1:=congrArg List.length eg
  have e2:=congrArg List.length ed
  rw [List.length_map] at e1 e2
  rw [List.length_map,List.length_map,e1,e2]
 ·obtain ⟨⟨r1,a1⟩,hi,rfl⟩:=Ak hx
  obtain ⟨⟨r2,a2⟩,hj,rfl⟩:=Ak hy
  have e1:rules[i]? = some r1:=by rw [<- eg,List.getElem?_map,hi];rfl
  have e2:rules[i]? = some r2:=by rw [<- ed,List.getElem?_map,hj];rfl
  rw [e1] at e2
  cases e2
  exact ⟨a1,a2,rfl,rfl,Jr (hg _ (List.mem_of_getElem? hi)) (hd _ (List.mem_of_getElem? hj))⟩
def Lj (H H1:Hp) (f la:Addr):Prop:=la ≠ f /\ H la=none /\ ∃ zs,H1 la=some (.lst zs) /\ zs.length <= 8
def G0 (H H1 H':Hp) (f:Addr) (N:Nat):Prop:=∀ la,Lj H H1 f la -> ∃ zs,H' la=some (.lst zs) /\ zs.length <= N
def Li (H H1 H':Hp) (f a:Addr):Prop:=∃ kvs,H' a=some (.dK kvs) /\ (kvs.map (·.1)).Nodup /\ kvs.length <= 100 /\ ∀ p ∈ kvs,∃ w la,p=(.inr w,.ref la) /\ Lj H H1 f la
theorem a04 {f:Addr} {fd:FuncData} (Z:Al K t) (F:FunD K "_law_rules_stand" "_law_rules_stand" s_zj f fd .none) (T:Tab P w K mg base 2 (gb_2 K t) bl):FnOk P w K mg base CX0 3 f fd P_zj (Ye K t):=by
 refine F.okW0 a77 bc7 T (a51 K t) (fun vs H Q E h=>?_) (fun vs H Q E h=>?_)
 ·obtain ⟨p,kk,sw,rules,rfl,_⟩:=h;rfl
 ·obtain ⟨p,kk,sw,rules,rfl,hP,hR,hw,hr,h8,k⟩:=h
  obtain ⟨dx,d,l,n,s,kr,b,h⟩:=id hP
  refine ⟨p,dx,_,⟨t.c_zba,i_zo K t⟩,rfl,.head _,h.ins.2,rfl,⟨Nat.le_of_ble_eq_true rfl,Nat.le_of_ble_eq_true rfl⟩,p,sw,rules,rfl,hP,hr,h8,fun H1 f S1 R1=>?_⟩
  obtain ⟨gs,eg,⟨ff,ef⟩,hg⟩:=id R1
  refine ⟨_,true,.sqL rfl (SqL.of ef) rfl,rfl,?_⟩
  refine .inr (.inr (Ja (R1.mono Kp.any) (hR.mono (Kp.same S1)) ?_))
  have gl:gs.length <= 8:=by
   have:=congrArg List.length eg
   rw [List.length_map] at this
   omega
  refine .inl ⟨⟨_,SqL.of ef⟩,?_⟩
  refine Av (Au (gs.map fun x=>V.ref x.2)) (fun i σ H'=>(∃ v3 v4,σ=[some (.ref p),some (.ref kk),some (.ref f),v3,v4]) /\ Same H H' /\ H' f=some (.lst (gs.map fun x=>.ref x.2)) /\ G0 H H1 H' f (8 + 100 * i) /\ ∀ x ∈ gs,H x.2=none /\ Li H H1 H' f x.2) ?_ (fun i σ H' _ q=>SqL.of q.2.2.1) ?_ ?_
  ·refine ⟨⟨_,_,rfl⟩,S1,ef,fun la hl=>hl.2.2,fun x hx=>?_⟩
   obtain ⟨xs,ex,⟨fx,ox⟩,hxs⟩:=hg x hx
   have hok:=hr x.1 (by rw [<- eg];exact List.mem_map.mpr ⟨x,hx,rfl⟩)
   refine ⟨fx,_,ox,Bx ex hok.2.2.1,?_,fun q hq=>?_⟩
   ·have:=congrArg List.length ex
    rw [List.length_map] at this
    rw [List.length_map,this]
    exact hok.2.1
   ·obtain ⟨y,hy,rfl⟩:=List.mem_map.mp hq
    obtain ⟨fy,oy⟩:=hxs y hy
    have hm:y.1 ∈ x.1:=by rw [<- ex];exact List.mem_map.mpr ⟨y,hy,rfl⟩
    obtain ⟨ne,ol,_⟩:=hok.2.2.2 y.1 hm
    refine ⟨y.1.1,y.2,rfl,fun z=>?_,fy,_,oy,by rw [List.length_map];exact ol.2.2⟩
    rw [z,ef] at oy
    exact Ip (gs:=gs) ne (Option.some.inj oy).symm
  ·rintro i x σ H2 hx ⟨⟨v3,v4,rfl⟩,S2,e2,L2',D2⟩
   obtain ⟨⟨rule,r⟩,hi,rfl⟩:=Ak hx
   have il:=Aj hi
   obtain ⟨fr,kvs,er,nd,l100,hk⟩:=D2 _ (List.mem_of_getElem? hi)
   have er:H2 r=some (.dK kvs):=er
   refine .inr (.inr (.inl ⟨_,er,fun o=>?_⟩))
   have nfr:f ≠ r:=fun z=>by rw [<- z,e2] at er;cases er
   have frr:H r=none:=fr
   have gr:∀ {la},Lj H H1 f la -> la ≠ r:=fun {la} hl z=>by
    obtain ⟨zs,q,_⟩:=L2' la hl
    rw [z,er] at q
    cases q
   show ForW (Itd r o kvs) _ _ _ [some (.ref p),some (.ref kk),some (.ref f),some (.ref r),v4] (upd H2 r (.frz o (.dK kvs)))
   refine Av (Dm kvs) (fun j σ H'=>(∃ v4,σ=[some (.ref p),some (.ref kk),some (.ref f),some (.ref r),v4]) /\ Same H H' /\ H' f=some (.lst (gs.map fun x=>.ref x.2)) /\ H' r=some (.frz o (.dK kvs)) /\ G0 H H1 H' f (8 + 100 * i + j) /\ ∀ x ∈ gs,x.2 ≠ r -> H x.2=none /\ Li H H1 H' f x.2) ?_ (fun j σ H' _ q=>q.2.2.2.1) ?_ ?_
   ·refine ⟨⟨_,rfl⟩,S2.set frr,by rw [Ad nfr];exact e2,Ac,fun la hl=>?_,fun x hx nx=>?_⟩
    ·rw [Ad (gr hl)];exact L2' la hl
    ·obtain ⟨a1,kv,a2,a3⟩:=D2 x hx
     exact ⟨a1,kv,by rw [Ad nx];exact a2,a3⟩
   ·rintro j y σ H3 hy ⟨⟨v4,rfl⟩,S3,e3,e3r,L3,D3⟩
    obtain ⟨⟨kx,vx⟩,hj,rfl⟩:=Ak hy
    have jl:=Aj hj
    obtain ⟨wd,la,epq,hl⟩:=hk _ (List.mem_of_getElem? hj)
    cases epq
    have hv:valV kvs (.inr wd)=some (.ref la):=Az nd hj
    obtain ⟨zs,ez,lz⟩:=L3 la hl
    refine ⟨.ref la,.inl ⟨_,.inr wd,.inr ⟨o,e3r⟩,rfl,hv.symm⟩,.inl ⟨rfl,_,SqL.of ez⟩,la,_,_,rfl,rfl,ez,Nat.lt_of_le_of_lt (show zs.length <= 908 by omega) (by decide),⟨_,rfl⟩,S3.set hl.2.1,by rw [Ad (Ne.symm hl.1)];exact e3,by rw [Ad (Ne.symm (gr hl))];exact e3r,fun lb hb=>?_,fun x hx nx=>?_⟩
    ·by_cases e:lb=la
     ·subst e
      exact ⟨_,Ac,by rw [List.length_append];show zs.length + 1 <= _;omega⟩
     ·obtain ⟨zs',a1,a2⟩:=L3 lb hb
      exact ⟨zs',by rw [Ad e];exact a1,by omega⟩
    ·obtain ⟨a1,kv,a2,a3⟩:=D3 x hx nx
     exact ⟨a1,kv,by rw [Ad (fun z=>by rw [z,ez] at a2;cases a2)];exact a2,a3⟩
   ·rintro σ H3 ⟨⟨v4,rfl⟩,S3,e3,e3r,L3,D3⟩
    rw [List.length_map] at L3
    refine .inr ⟨r,o,_,er,e3r,?_⟩
    refine .inr ⟨.inr (.inr (.inl ⟨rfl,.inl ⟨_,Ac⟩⟩)),r,_,rfl,rfl,Ac,⟨_,_,rfl⟩,(S3.set frr).set frr,?_,fun la hl=>?_,fun x hx=>?_⟩
    ·rw [Ad nfr,Ad nfr];exact e3
    ·obtain ⟨zs,a1,a2⟩:=L3 la hl
     exact ⟨zs,by rw [Ad (gr hl),Ad (gr hl)];exact a1,by omega⟩
    ·by_cases nx:x.2=r
     ·rw [nx]
      exact ⟨frr,[],Ac,List.nodup_nil,by decide,fun q hq=>by cases hq⟩
     ·obtain ⟨a1,kv,a2,a3⟩:=D3 x hx nx
      exact ⟨a1,kv,by rw [Ad nx,Ad nx];exact a2,a3⟩
  ·rintro σ H2 ⟨⟨v3,v4,rfl⟩,S2,e2,_,_⟩
   refine .inl ⟨p,dx,_,⟨t.c_zba,i_zo K t⟩,rfl,.head _,S2 _ _ h.ins.2,rfl,⟨Nat.le_of_ble_eq_true rfl,Nat.le_of_ble_eq_true rfl⟩,p,sw,rules,rfl,hP.mono (Kp.same S2),hr,h8,fun H3 f3 S3 R3=>?_⟩
   exact .inr (.inr (Ja (neg:=false) (R3.mono Kp.any) (hR.mono (Kp.same (S2.trans S3))) (k H3 (S2.trans S3))))
def gN (sw:Sw) (rules:List Sw):Nat -> Nat
 | 0=>0
 | n + 1=>if (rules.any fun r=>inB sw r n)=true then gN sw rules n else gN sw rules n ||| 2 ^ n
theorem Wj (sw:Sw) (rules:List Sw):∀ N k,(gN sw rules N).testBit k=(decide (k < N) && !rules.any fun r=>inB sw r k)
 | 0,k=>by simp [gN]
 | N + 1,k=>by
  have ih:=Wj sw rules N k
  unfold gN
  by_cases h:N=k
  ·subst h
   rw [decide_eq_false (Nat.lt_irrefl N),Bool.false_and] at ih
   cases e:(rules.any fun r=>inB sw r N) with
   | false=>rw [if_neg Bool.false_ne_true,Nat.testBit_or,Nat.testBit_two_pow,ih];simp
   | true=>rw [if_pos rfl,ih];simp
  ·have d:decide (k < N + 1)=decide (k < N):=decide_eq_decide.mpr (by omega)
   rw [d]
   cases e:(rules.any fun r=>inB sw r N) with
   | false=>rw [if_neg Bool.false_ne_true,Nat.testBit_or,Nat.testBit_two_pow,ih,decide_eq_false h,Bool.or_false]
   | true=>rw [if_pos rfl,ih]
theorem Zg (sw:Sw) (rules:List Sw):((gN sw rules (Ah sw).length:Nat):Int)=Dv sw rules:=by
 rw [Ks]
 congr 1
 refine Nat.eq_of_testBit_eq fun k=>?_
 rw [Wj,Ku]
 by_cases h:k < (Ah sw).length
 ·rw [decide_eq_true h,Bool.true_and,Bool.true_and]
  congr 1
  congr 1
  funext r
  rw [E6,decide_eq_true h,Bool.true_and]
  rfl
 ·rw [decide_eq_false h,Bool.false_and,Bool.false_and]
theorem O7 (sw:Sw) (rules:List Sw) (n:Nat):(barF sw rules n = .non /\ (rules.any fun r=>inB sw r n)=false) \/ ∃ m:Nat,barF sw rules n = .int (m:Int) /\ (rules.any fun r=>inB sw r n)=true:=by
 unfold barF
 cases h:rules.findIdx? fun r=>inB sw r n with
 | none=>
  refine .inl ⟨rfl,?_⟩
  rw [List.findIdx?_eq_none_iff] at h
  rw [List.any_eq_false]
  intro r hr
  rw [h r hr]
  decide
 | some m=>
  refine .inr ⟨m,rfl,?_⟩
  rw [List.findIdx?_eq_some_iff_getElem] at h
  obtain ⟨hm,hp,_⟩:=h
  rw [List.any_eq_true]
  exact ⟨_,List.getElem_mem hm,hp⟩
theorem So {sw:Sw} {rules:List Sw} {n m:Nat} {r:Sw} (hm:rules[m]? = some r):(barF sw (rules.take m) n = .non -> barF sw (rules.take (m + 1)) n=if inB sw r n=true then .int (m:Int) else .non) /\ (barF sw (rules.take m) n ≠ .non -> barF sw (rules.take (m + 1)) n=barF sw (rules.take m) n):=by
 have hl:=Aj hm
 have lt:(rules.take m).length=m:=by rw [List.length_take];omega
 unfold barF
 rw [List.take_add_one,hm,Option.toList_some,List.findIdx?_append]
 cases h:(rules.take m).findIdx? fun r=>inB sw r n with
 | none=>
  refine ⟨fun _=>?_,fun z=>absurd rfl z⟩
  cases hb:inB sw r n with
  | true=>
   have:[r].findIdx? (fun r=>inB sw r n)=some 0:=by simp [List.findIdx?_cons,hb]
   rw [this,if_pos rfl,lt]
   simp
  | false=>
   have:[r].findIdx? (fun r=>inB sw r n)=none:=by simp [List.findIdx?_cons,hb]
   rw [this,if_neg Bool.false_ne_true]
   rfl
 | some j=>
  refine ⟨fun z=>(by cases z),fun _=>?_⟩
  rfl
theorem ak9 {f:Addr} {fd:FuncData} (Z:Al K t) (F:FunD K "_law_bars" "_law_bars" Jg f fd .none) (T:Tab P w K mg base 3 (gb_3 K t) bl):FnOk P w K mg base CX0 4 f fd M2 (Qj K t):=by
 refine F.okW0 au4 aw7 T (as3 K t) (fun vs H Q E h=>?_) (fun vs H Q E h=>?_)
 ·obtain ⟨p,l,r,kk,sw,rules,rfl,_⟩:=h;rfl
 ·obtain ⟨p,l,r,kk,sw,rules,rfl,hP,hsw,hw,⟨rs,er,⟨_,orr⟩,hr⟩,⟨gs,eg,⟨_,okk⟩,hg⟩,hok,h8,k⟩:=h
  obtain ⟨dx,d,pl,pn,s,kr,b,h⟩:=id hP
  have few:=hw.len
  have lenr:(rs.map fun x=>V.ref x.2).length=(Ah sw).length:=by rw [<- er];simp
  have leng:(gs.map fun x=>V.ref x.2).length=rules.length:=by rw [<- eg];simp
  refine .inl ⟨⟨_,SqL.of orr⟩,?_⟩
  refine Cr (Cg (rs.map fun x=>V.ref x.2)) (fun n σ H'=>(∃ v5 v6 v7 v8 v9 v10,σ=[some (.ref p),some (.ref l),some (.ref r),some (.ref kk),some (.int (gN sw rules n:Nat)),v5,v6,v7,v8,v9,v10]) /\ Same H H') ⟨⟨_,_,_,_,_,_,rfl⟩,Same.refl _⟩ (fun i σ H' _ q=>q.2.seqL (SqL.of orr)) ?_ ?_
  ·rintro n x y T σ H1 hx hT ⟨⟨v5,v6,v7,v8,v9,v10,rfl⟩,S1⟩
   obtain ⟨⟨row,ra⟩,hi,rfl,rfl⟩:=Ef hx
   have hi2:(Ah sw)[n]? = some row:=by rw [<- er,List.getElem?_map,hi];rfl
   have hn:=Aj hi2
   have era:=(hr _ (List.mem_of_getElem? hi)).2
   have era:H ra=some (lstO row):=era
   have rl:row.length <= 5:=by rw [Ml hw hi2];exact hw.2.1
   have ST:=Same.upd (o:=.tup [.int (n:Int),.ref ra]) hT
   refine ⟨_,SqT.of Ac,rfl,?_⟩
   have S2:=S1.trans ST
   generalize upd H1 T (.tup [.int (n:Int),.ref ra])=H2 at S2 ⊢
   refine .inl ⟨⟨_,S2.seqL (SqL.of okk)⟩,?_⟩
   refine Cr (Cg (gs.map fun x=>V.ref x.2)) (fun m σ H'=>(∃ v8 v9,σ=[some (.ref p),some (.ref l),some (.ref r),some (.ref kk),some (.int (gN sw rules n:Nat)),some (.int (n:Int)),some (.ref ra),some (barF sw (rules.take m) n),v8,v9,v10]) /\ Same H H') ⟨⟨_,_,rfl⟩,S2⟩ (fun i σ H' _ q=>q.2.seqL (SqL.of okk)) ?_ ?_
   ·rintro m x y T2 σ H3 hx3 hT2 ⟨⟨v8,v9,rfl⟩,S3⟩
    obtain ⟨⟨rule,da⟩,hm,rfl,rfl⟩:=Ef hx3
    have hm2:rules[m]? = some rule:=by rw [<- eg,List.getElem?_map,hm];rfl
    obtain ⟨st1,st2⟩:=So (sw:=sw) (n:=n) hm2
    have ST2:=Same.upd (o:=.tup [.int (m:Int),.ref da]) hT2
    refine ⟨_,SqT.of Ac,rfl,?_⟩
    have S4:=S3.trans ST2
    generalize upd H3 T2 (.tup [.int (m:Int),.ref da])=H4 at S4 ⊢
    by_cases hb:barF sw (rules.take m) n = .non
    ·refine Ff (decide_eq_true hb) ?_
     refine ⟨da,l,ra,n,row,sw,rule,rfl,(hg _ (List.mem_of_getElem? hm)).mono (Kp.same S4),hsw.mono (Kp.same S4),hw,(hok rule (List.mem_of_getElem? hm2)).2,S4 _ _ era,hi2,fun H5 S5=>?_⟩
     have e:=st1 hb
     cases hc:inB sw rule n with
     | true=>
      rw [hc,if_pos rfl] at e
      exact ⟨⟨_,_,by rw [e];rfl⟩,S4.trans S5⟩
     | false=>
      rw [hc,if_neg Bool.false_ne_true] at e
      exact ⟨⟨_,_,by rw [e,hb];rfl⟩,S4.trans S5⟩
    ·refine Ce (decide_eq_false hb) ?_
     exact ⟨⟨_,_,by rw [st2 hb];rfl⟩,S4⟩
   ·rintro σ H3 ⟨⟨v8,v9,rfl⟩,S3⟩
    rw [Ap,leng,List.take_length]
    refine .inl ⟨p,dx,_,⟨t.c_zba,i_zm K t⟩,rfl,.head _,S3 _ _ h.ins.2,rfl,⟨Nat.le_of_ble_eq_true rfl,Nat.le_of_ble_eq_true rfl⟩,p,n,sw,rules,rfl,hP.mono (Kp.same S3),h8,hn,fun H4 S4=>?_⟩
    have S04:=S3.trans S4
    have told_ok:∀ {v:V} {Q':Bool -> Hp -> Prop} {E':EK},(∀ H9,Same H4 H9 -> Q' false H9) -> dTst (dBin (rEqD K true) (dOwn "told" 1 (Hm K t) (dVar 0) (Ab (dVar 5) dNil)) (dFn (fun vs H Q _=>(Cb K) vs H Q) (Ab (dVar 6) dNil))) [some (.ref p),some (.ref l),some (.ref r),some (.ref kk),some (.int (gN sw rules n:Nat)),some (.int (n:Int)),some (.ref ra),some v,v8,v9,some v] H4 Q' E':=fun {v} {Q'} {E'} fin=>by
     refine ⟨p,dx,_,⟨t.c_zba,i_zu K t⟩,rfl,.head _,S04 _ _ h.ins.2,rfl,⟨Nat.le_of_ble_eq_true rfl,Nat.le_of_ble_eq_true rfl⟩,p,n,row,sw,rules,rfl,hP.mono (Kp.same S04),hi2,fun a ea=>⟨_,.inl ⟨SqL.of (S04 _ _ era),fun u hu=>?_⟩⟩⟩
     have Su:=Same.upd (o:=.tup (row.map V.str)) hu
     have at1:At K (upd H4 u (.tup (row.map V.str))) (.tup (row.map strD)) (.ref a):=Lp (SqT.of (Su _ _ ea))
     have at2:At K (upd H4 u (.tup (row.map V.str))) (.tup (row.map strD)) (.ref u):=Lp (SqT.of Ac)
     refine .inr (.inl ⟨_,_,at1,at2,by rw [dep,Ee];decide,?_⟩)
     rw [C5 at1]
     exact fin _ Su
    have num_ok:∀ {v:V} {H5:Hp} {Q':Bool -> Hp -> Prop} {E':EK},Same H H5 -> (∀ H9,Same H5 H9 -> Q' false H9) -> dOr (dTst (dBin (rEqD K true) (dOwn "number_of" 1 (Bk K t) (dVar 0) (Ab (dFn (fun vs H Q _=>(Cb K) vs H Q) (Ab (dVar 6) dNil)) dNil)) (dVar 5))) (dTst (dBin (rEqD K true) (dOwn "number_of" 1 (Bk K t) (dVar 0) (Ab (dFn (fun vs H Q _=>(A5 K) vs H Q) (Ab (dVar 6) dNil)) dNil)) (dVar 5))) [some (.ref p),some (.ref l),some (.ref r),some (.ref kk),some (.int (gN sw rules n:Nat)),some (.int (n:Int)),some (.ref ra),some v,v8,v9,some v] H5 Q' E':=fun {v} {H5} {Q'} {E'} S5 fin=>by
     refine ⟨p,dx,_,⟨t.c_zba,i_zh K t⟩,rfl,.head _,S5 _ _ h.ins.2,rfl,⟨Nat.le_of_ble_eq_true rfl,Nat.le_of_ble_eq_true rfl⟩,_,.inl ⟨SqL.of (S5 _ _ era),fun u hu=>?_⟩⟩
     have Su:=Same.upd (o:=.tup (row.map V.str)) hu
     refine ⟨p,u,n,row,sw,rules,rfl,hP.mono (Kp.same (S5.trans Su)),hw,.inr Ac,by omega,hi2,fun H6 S6=>?_⟩
     have S56:=Su.trans S6
     have S06:=S5.trans S56
     refine Ce (by simp) ?_
     refine ⟨p,dx,_,⟨t.c_zba,i_zh K t⟩,rfl,.head _,S06 _ _ h.ins.2,rfl,⟨Nat.le_of_ble_eq_true rfl,Nat.le_of_ble_eq_true rfl⟩,_,.inl (SqL.of (S06 _ _ era)),fun u2 hu2=>?_⟩
     have Su2:=Same.upd (o:=.lst (row.map V.str)) hu2
     refine ⟨p,u2,n,row,sw,rules,rfl,hP.mono (Kp.same (S06.trans Su2)),hw,.inl Ac,by omega,hi2,fun H7 S7=>?_⟩
     have:=fin H7 (S56.trans (Su2.trans S7))
     have e:(if true=true then !decide ((n:Int)=(n:Int)) else decide ((n:Int)=(n:Int)))=false:=by simp
     rw [<- e] at this
     exact this
    have g1:gN sw rules (n + 1)=if (rules.any fun r=>inB sw r n)=true then gN sw rules n else gN sw rules n ||| 2 ^ n:=rfl
    have sl:∀ {v:V} {c c':Int},c=c' -> [some (V.ref p),some (V.ref l),some (V.ref r),some (V.ref kk),some (V.int c),some (V.int (n:Int)),some (V.ref ra),some v,v8,v9,some v]=[some (V.ref p),some (V.ref l),some (V.ref r),some (V.ref kk),some (V.int c'),some (V.int (n:Int)),some (V.ref ra),some v,v8,v9,some v]:=fun e=>by rw [e]
    rcases O7 sw rules n with ⟨hv,hany⟩ | ⟨m,hv,hany⟩
    ·rw [hv]
     rw [hany,if_neg Bool.false_ne_true] at g1
     refine ⟨rfl,rfl,told_ok fun H5 S5=>?_⟩
     refine iteF ?_
     refine num_ok (S04.trans S5) fun H6 S6=>?_
     refine iteF ?_
     exact ⟨⟨by omega,by omega,by decide⟩,⟨_,_,_,_,_,_,sl (by rw [g1,Int.one_mul,Int.toNat_natCast,D9,C3])⟩,S04.trans (S5.trans S6)⟩
    ·rw [hv]
     rw [hany,if_pos rfl] at g1
     refine Ce (by simp) ?_
     refine ⟨rfl,told_ok fun H5 S5=>?_⟩
     refine iteF ?_
     refine num_ok (S04.trans S5) fun H6 S6=>?_
     refine iteF ?_
     exact ⟨⟨_,_,_,_,_,_,sl (by rw [g1])⟩,S04.trans (S5.trans S6)⟩
  ·rintro σ H1 ⟨⟨v5,v6,v7,v8,v9,v10,rfl⟩,S1⟩
   rw [Ap,lenr]
   refine .inl ⟨p,dx,_,⟨t.c_zba,i_zk K t⟩,rfl,.head _,S1 _ _ h.ins.2,rfl,⟨Nat.le_of_ble_eq_true rfl,Nat.le_of_ble_eq_true rfl⟩,p,sw,rules,rfl,hP.mono (Kp.same S1),?_⟩
   have e:decide (Dv sw rules=((gN sw rules (Ah sw).length:Nat):Int))=true:=decide_eq_true (Zg sw rules).symm
   have:=k H1
   rw [<- e] at this
   exact this
theorem BtAt.up {H H':Hp} (S:Same H H'):∀ {b:Bt} {x:V},BtAt H b x -> BtAt H' b x
 | .at_ _,_,h=>h
 | .lst _,_,⟨a,e,h⟩=>⟨a,e,S _ _ h⟩
 | .tup _,_,⟨a,e,h⟩=>⟨a,e,S _ _ h⟩
theorem BtAt.off {H H':Hp} {r:Addr} {kvs:List (Key × V)} (hr:H r=some (.dK kvs)) (O:∀ b u,b ≠ r -> H b=some u -> H' b=some u):∀ {b:Bt} {x:V},BtAt H b x -> BtAt H' b x
 | .at_ _,_,h=>h
 | .lst _,_,⟨a,e,h⟩=>⟨a,e,O _ _ (fun z=>by rw [z,hr] at h;cases h) h⟩
 | .tup _,_,⟨a,e,h⟩=>⟨a,e,O _ _ (fun z=>by rw [z,hr] at h;cases h) h⟩
theorem ThingN.up {H0 H H':Hp} (S:Same H H') {v:V}:∀ {th:Sum (List (Key × Bt)) Dt},ThingN K H0 H v th -> ThingN K H0 H' v th
 | .inl _,⟨r,kvs,e,f,h,l,q⟩=>⟨r,kvs,e,f,S _ _ h,l,fun i k x hx=>by obtain ⟨b,e1,e2⟩:=q i k x hx;exact ⟨b,e1,e2.up S⟩⟩
 | .inr _,⟨h,q⟩=>⟨Q0 S h,fun r e=>by obtain ⟨f,xs,z⟩:=q r e;exact ⟨f,xs,S _ _ z⟩⟩
def GV (H:Hp) (σ:St) (E:EK) (de:DE) (b:Bt):Prop:=∀ H1 (Q:VK),Same H H1 -> (∀ x H2,Same H1 H2 -> BtAt H2 b x -> Q x H2) -> de σ H1 Q E
def GT (K:PySem.W.Frag) (H:Hp) (σ:St) (E:EK) (de:DE) (th:Sum (List (Key × Bt)) Dt):Prop:=∀ H1 (Q:VK),Same H H1 -> (∀ x H2,Same H1 H2 -> ThingN K H H2 x th -> Q x H2) -> de σ H1 Q E
def Things (K:PySem.W.Frag) (H H2:Hp) (xs:List V) (ths:List (Sum (List (Key × Bt)) Dt)):Prop:=xs.length=ths.length /\ ∀ (i:Nat) x th,xs[i]? = some x -> ths[i]? = some th -> ThingN K H H2 x th
theorem Things.up {H0 H H':Hp} {xs:List V} {ths:List (Sum (List (Key × Bt)) Dt)} (S:Same H H') (h:Things K H0 H xs ths):Things K H0 H' xs ths:=⟨h.1,fun i x th e1 e2=>(h.2 i x th e1 e2).up S⟩
theorem Things.app {H0 H:Hp} {xs ys:List V} {ths ts:List (Sum (List (Key × Bt)) Dt)} (h:Things K H0 H xs ths) (g:Things K H0 H ys ts):Things K H0 H (xs ++ ys) (ths ++ ts):=by
 refine ⟨by rw [List.length_append,List.length_append,h.1,g.1],fun i x th e1 e2=>?_⟩
 by_cases hi:i < xs.length
 ·rw [List.getElem?_append_left hi] at e1
  rw [List.getElem?_append_left (h.1 ▸ hi)] at e2
  exact h.2 i x th e1 e2
 ·have hi:xs.length <= i:=by omega
  rw [List.getElem?_append_right hi] at e1
  rw [List.getElem?_append_right (h.1 ▸ hi),<- h.1] at e2
  exact g.2 _ x th e1 e2
def GTs (K:PySem.W.Frag) (H:Hp) (σ:St) (E:EK) (da:DA) (ths:List (Sum (List (Key × Bt)) Dt)):Prop:=∀ H1 (Q:List V -> Hp -> Prop),Same H H1 -> (∀ xs H2,Same H1 H2 -> Things K H H2 xs ths -> Q xs H2) -> da σ H1 Q E
theorem Lz {H:Hp} {σ:St} {E:EK}:GTs K H σ E dNil []:=fun H1 Q S q=>q [] H1 (fun _ _ e=>e) ⟨rfl,fun i x th e=>by simp at e⟩
theorem Bb {H:Hp} {σ:St} {E:EK} {de:DE} {da:DA} {th:Sum (List (Key × Bt)) Dt} {ths:List (Sum (List (Key × Bt)) Dt)} (h:GT K H σ E de th) (g:GTs K H σ E da ths):GTs K H σ E (Ab de da) (th :: ths):=fun H1 Q S q=>
 h H1 _ S fun x H2 S2 a=>g H2 _ (S.trans S2) fun xs H3 S3 b=>q (x :: xs) H3 (S2.trans S3) ⟨by rw [List.length_cons,List.length_cons,b.1],fun i y th' e1 e2=>by
  cases i with
  | zero=>simp at e1 e2;subst e1 e2;exact a.up S3
  | succ i=>rw [List.getElem?_cons_succ] at e1 e2;exact b.2 i y th' e1 e2⟩
theorem Cn {H:Hp} {σ:St} {E:EK} {kd vd:DE} {k:Key} {b:Bt} (hk:∀ H1 (Q:VK),Q (kV k) H1 -> kd σ H1 Q E) (hv:GV H σ E vd b):GT K H σ E (Bq [(kd,vd)]) (.inl [(k,b)]):=by
 intro H1 Q S q p hp
 have S1:=Same.upd (o:=.dK []) hp
 have e1:upd H1 p (.dK []) p=some (.dK []):=Ac
 refine hk _ _ (hv _ _ (S.trans S1) fun x H2 S2 a=>?_)
 refine ⟨S2 _ _ e1,[(k,x)],rfl,Nat.le_of_ble_eq_true rfl,?_⟩
 refine q _ _ ((S1.trans S2).set hp) ⟨p,[(k,x)],rfl,S.free hp,Ac,rfl,fun i k' x' e=>?_⟩
 have a':BtAt (upd H2 p (.dK [(k,x)])) b x:=a.off (S2 _ _ e1) fun c u n e=>by rw [Ad n];exact e
 cases i with
 | zero=>cases e;exact ⟨b,rfl,a'⟩
 | succ i=>simp at e
theorem Wn {H:Hp} {σ:St} {E:EK} {kd vd kd' vd':DE} {k k':Key} {b b':Bt} (hk:∀ H1 (Q:VK),Q (kV k) H1 -> kd σ H1 Q E) (hv:GV H σ E vd b) (hk':∀ H1 (Q:VK),Q (kV k') H1 -> kd' σ H1 Q E) (hv':GV H σ E vd' b') (ne:k ≠ k'):GT K H σ E (Bq [(kd,vd),(kd',vd')]) (.inl [(k,b),(k',b')]):=by
 intro H1 Q S q p hp
 have S1:=Same.upd (o:=.dK []) hp
 have e1:upd H1 p (.dK []) p=some (.dK []):=Ac
 refine hk _ _ (hv _ _ (S.trans S1) fun x H2 S2 a=>hk' _ _ (hv' _ _ ((S.trans S1).trans S2) fun y H3 S3 a3=>?_))
 have S23:=S2.trans S3
 refine ⟨S23 _ _ e1,[(k,x),(k',y)],rfl,Nat.le_of_ble_eq_true rfl,?_⟩
 have em:Eu [] [(k,x),(k',y)]=[(k,x),(k',y)]:=by
  show putK [(k,x)] k' y=_
  unfold putK
  rw [if_neg]
  ·rfl
  ·simpa using ne
 rw [em]
 have O:∀ c u,c ≠ p -> H3 c=some u -> upd H3 p (.dK [(k,x),(k',y)]) c=some u:=fun c u n e=>by rw [Ad n];exact e
 refine q _ _ ((S1.trans S23).set hp) ⟨p,[(k,x),(k',y)],rfl,S.free hp,Ac,rfl,fun i k2 x2 e=>?_⟩
 match i,e with
 | 0,e=>cases e;exact ⟨b,rfl,(a.up S3).off (S23 _ _ e1) O⟩
 | 1,e=>cases e;exact ⟨b',rfl,a3.off (S23 _ _ e1) O⟩
 | i + 2,e=>simp at e
section
variable {H:Hp} {σ:St} {E:EK} {ss:List Str} {la:Addr} {de:DE}
theorem gv_c {v:V} (f:A7 v=true):GV H σ E (dC v) (.at_ v):=fun H1 Q S q=>q v H1 (fun _ _ e=>e) ⟨rfl,f⟩
theorem Zi:GV H σ E (dLst dNil) (.lst []):=fun H1 Q S q=>⟨Nat.zero_le _,fun p hp=>q _ _ (Same.upd hp) ⟨p,rfl,Ac⟩⟩
theorem Rc {z:Str}:GV H σ E (dLst (Ab (dC (.str z)) dNil)) (.lst [z]):=fun H1 Q S q=>⟨(show 1 <= sizeLine by decide),fun p hp=>q _ _ (Same.upd hp) ⟨p,rfl,Ac⟩⟩
variable (h3:∀ H1 (Q:VK),Q (.ref la) H1 -> dVar 3 σ H1 Q E) (hl:H la=some (lstO ss))
include h3 hl
theorem Rb:GV H σ E (dFn (fun vs H Q _=>(A5 K) vs H Q) (Ab (dVar 3) dNil)) (.lst ss):=fun H1 Q S q=>h3 _ _ ⟨_,.inl (SqL.of (S _ _ hl)),fun p hp=>q _ _ (Same.upd hp) ⟨p,rfl,Ac⟩⟩
theorem aj2:GV H σ E (dFn (fun vs H Q _=>(Cb K) vs H Q) (Ab (dVar 3) dNil)) (.tup ss):=fun H1 Q S q=>h3 _ _ ⟨_,.inl ⟨SqL.of (S _ _ hl),fun p hp=>q _ _ (Same.upd hp) ⟨p,rfl,Ac⟩⟩⟩
theorem Wo (h0:0 < ss.length):GV H σ E (dBin (rIxD K) (dVar 3) (dC (.int 0))) (.at_ (.str (ss.getD 0 Str.empty))):=fun H1 Q S q=>h3 _ _ ⟨_,.str (ss.getD 0 Str.empty),.inl (SqL.of (S _ _ hl)),B6 (j:=0) (by rw [List.getElem?_map,List.getElem?_eq_getElem h0,List.getD_eq_getElem?_getD,List.getElem?_eq_getElem h0];rfl),q _ _ (fun _ _ e=>e) ⟨rfl,rfl⟩⟩
theorem Wp (h0:0 < ss.length) (h9:ss.length <= 100):GV H σ E (dBin (Aq K) (dVar 3) (dSl K (dVar 3) (Fb (dUn Fl (dC (.int 1)))) En)) (.lst (ss ++ ss.drop (ss.length - 1))):=fun H1 Q S q=>h3 _ _ (h3 _ _ (by
 have ec:cutV (ss.map V.str) (some (-1)) none=(ss.drop (ss.length - 1)).map V.str:=by
  unfold cutV
  rw [HT.sIx_none,List.length_map]
  have:HT.sIx ss.length 0 (some (-1))=ss.length - 1:=by
   unfold HT.sIx
   simp
   omega
  rw [this,<- List.map_drop,<- List.map_take,List.take_of_length_le (by rw [List.length_drop];omega)]
 refine .inl ⟨_,SqL.of (S _ _ hl),fun p hp=>?_⟩
 have Sp:=Same.upd (o:=.lst (cutV (ss.map V.str) (some (-1)) none)) hp
 have ep:upd H1 p (.lst (cutV (ss.map V.str) (some (-1)) none)) p=some (lstO (ss.drop (ss.length - 1))):=by rw [Ac,ec]
 show Aq K (.ref la) (.ref p) (upd H1 p (.lst (cutV (ss.map V.str) (some (-1)) none))) Q
 generalize upd H1 p (.lst (cutV (ss.map V.str) (some (-1)) none))=H2 at Sp ep ⊢
 refine .inl ⟨la,p,_,_,rfl,rfl,Sp _ _ (S _ _ hl),ep,?_,fun p2 hp2=>?_⟩
 ·rw [List.length_map,List.length_map,List.length_drop]
  exact Nat.le_trans (show _ <= 200 by omega) (by decide)
 ·exact q _ _ (Sp.trans (Same.upd hp2)) ⟨p2,rfl,by rw [Ac,<- List.map_append]⟩))
end
theorem Ly {H:Hp} {σ:St} {E:EK} {de:DE} {v:V} (f:A7 v=true) (h:∀ H1 (Q:VK),Q v H1 -> de σ H1 Q E):GT K H σ E de (.inr (.at_ v)):=fun H1 Q S q=>h _ _ (q v H1 (fun _ _ e=>e) ⟨Qy f,fun r e=>by subst e;cases f⟩)
theorem Zh {H:Hp} {E:EK} {ss:List Str} {wd:Str} {l la:Addr} {c:Int} {v4:Option V} (hl:H la=some (lstO ss)) :
  GT K H [some (.ref l),some (.int c),some (.str wd),some (.ref la),v4] E (dLst (Ab (dTup (Ab (dVar 2) (Ab (dFn (fun vs H Q _=>(A5 K) vs H Q) (Ab (dVar 3) dNil)) dNil))) dNil)) (.inr (.lst [.tup [strD wd,.lst (ss.map strD)]])):=by
 intro H1 Q S q
 refine ⟨_,.inl (SqL.of (S _ _ hl)),fun p hp=>⟨(show 2 <= sizeLine by decide),fun p2 hp2=>⟨(show 1 <= sizeLine by decide),fun p3 hp3=>?_⟩⟩⟩
 have S1:=Same.upd (o:=lstO ss) hp
 have e1:upd H1 p (lstO ss) p=some (lstO ss):=Ac
 have S2:=Same.upd (o:=.tup [.str wd,.ref p]) hp2
 have e2:upd (upd H1 p (lstO ss)) p2 (.tup [.str wd,.ref p]) p2=some (.tup [.str wd,.ref p]):=Ac
 have S3:=Same.upd (o:=.lst [.ref p2]) hp3
 have e3:upd (upd (upd H1 p (lstO ss)) p2 (.tup [.str wd,.ref p])) p3 (.lst [.ref p2]) p3=some (.lst [.ref p2]):=Ac
 refine q (.ref p3) _ (S1.trans (S2.trans S3)) ⟨O3 (SqL.of e3) (Ch (ai0 (SqT.of (S3 _ _ e2)) (Ch Qz (Ch (G3 (SqL.of (S3 _ _ (S2 _ _ e1)))) Dd))) Dd),fun r e=>?_⟩
 cases e
 exact ⟨S.free (S1.free (S2.free hp3)),_,e3⟩
theorem ai1 {ss:List Str} {wd:Str} {i:Nat} (h:i < 12):((List.range 12).map fun i=>badD i wd ss)[i]? = some (badD i wd ss):=by rw [List.getElem?_map,List.getElem?_range h];rfl
end
section
variable {P:Program} {w:World} {K:PySem.W.Frag} {mg:Str -> Option Value} {base:Heap} {t:Adr}
def entO:Key × Bt -> Option (Str × List Str)
 | (.inr w,.lst l)=>some (w,l)
 | _=>none
def okBt:Key × Bt -> Prop
 | (.inr _,.lst l)=>fewS l
 | (.inr _,.at_ v)=>v = .non \/ ∃ z,v = .str z
 | (.inr _,.tup _)=>True
 | (.inl i,_)=>∃ n:Nat,i=(n:Int)
theorem Zc {H:Hp} {k:Key} {b:Bt} {x:V} (h:BtAt H b x) (o:okBt (k,b)):EntV H k x (entO (k,b)):=by
 cases k with
 | inl i=>obtain ⟨n,rfl⟩:∃ n:Nat,i=(n:Int):=(by cases b <;> exact o);exact .inl ⟨n,rfl⟩
 | inr wd=>
  cases b with
  | lst l=>obtain ⟨a,e,h⟩:=h;exact ⟨rfl,o,a,e,h⟩
  | tup l=>obtain ⟨a,rfl,h⟩:=h;exact .inr ⟨wd,rfl,.inr (.inr ⟨a,_,rfl,h⟩)⟩
  | at_ v=>
   obtain ⟨rfl,_⟩:=h
   refine .inr ⟨wd,rfl,?_⟩
   rcases (show x = .non \/ ∃ z,x = .str z from o) with e | e
   ·exact .inl e
   ·exact .inr (.inl e)
theorem L9 {H:Hp} {kvs:List (Key × V)} {kbs:List (Key × Bt)} (l:kvs.length=kbs.length) (q:∀ (i:Nat) k x,kvs[i]? = some (k,x) -> ∃ b,kbs[i]? = some (k,b) /\ BtAt H b x):kvs.map (·.1)=kbs.map (·.1):=by
 refine List.ext_getElem? fun i=>?_
 rw [List.getElem?_map,List.getElem?_map]
 cases e:kvs[i]? with
 | none=>rw [List.getElem?_eq_none (by have:=List.getElem?_eq_none_iff.mp e;omega)];rfl
 | some kx=>
  obtain ⟨k,x⟩:=kx
  obtain ⟨b,e2,_⟩:=q i k x e
  rw [e2]
  rfl
theorem ai4 {H0 H:Hp} {v:V} {kbs:List (Key × Bt)} (h:ThingN K H0 H v (.inl kbs)) (ok:∀ kb ∈ kbs,okBt kb) (nd:(kbs.map (·.1)).Nodup) (l:kbs.length <= 1000):∃ r kvs,v = .ref r /\ H0 r=none /\ BoxV H r kvs (kbs.map entO):=by
 obtain ⟨r,kvs,rfl,f,hr,len,q⟩:=h
 refine ⟨r,kvs,rfl,f,hr,by rw [len,List.length_map],by omega,by rw [L9 len q];exact nd,fun i k x o e1 e2=>?_⟩
 obtain ⟨b,e3,hb⟩:=q i k x e1
 rw [List.getElem?_map,e3] at e2
 cases e2
 exact Zc hb (ok _ (List.mem_of_getElem? e3))
def Vd (sw:Sw):Sum (List (Key × Bt)) Dt -> Prop
 | .inl kbs=>kbs.length <= 1000 /\ (kbs.map (·.1)).Nodup /\ (∀ kb ∈ kbs,okBt kb) /\ ∃ o ∈ kbs.map entO,∀ e,o=some e -> ¬ Bi sw e
 | .inr d=>dep d <= 40 /\ (d = .at_ .non \/ (∃ i,d = .at_ (.int i)) \/ (∃ z,d = .at_ (.str z)) \/ ∃ l,d = .lst l)
theorem Ew {sw:Sw} {kb:Key × Bt} (h:okBt kb) (n:∀ e,entO kb=some e -> ¬ Bi sw e):Vd sw (.inl [kb]):=⟨Nat.le_of_ble_eq_true rfl,by simp,fun x hx=>by
 have:x=kb:=by simpa using hx
 subst this
 exact h,_,List.mem_singleton.mpr rfl,n⟩
theorem aj1 {ss:List Str} (h:D0 ss):fewS ss:=⟨by have:=h.2.2;omega,fun z hz=>by have:=(h.1.1 z hz).2.1;omega⟩
theorem Rj {z:Str} (h:z.cps.toList.all By=false):¬ okW z:=fun o=>by rw [o.2.2] at h;cases h
theorem Sm {sw:Sw} {wd:Str} {ss:List Str} (hw:okSw sw) (hx:(wd,ss) ∈ sw):∀ i,Vd sw (badD i wd ss):=by
 have hs:D0 ss:=hw.sets _ hx
 have f:=aj1 hs
 intro i
 match i with
 | 0=>exact Ew (kb:=(.inr wd,.lst [])) ⟨by decide,fun z hz=>by cases hz⟩ fun e he o=>by cases he;exact o.1 rfl
 | 1=>exact Ew (kb:=(.inr wd,.at_ (.str (ss.getD 0 Str.empty)))) (.inr ⟨_,rfl⟩) fun e he o=>by cases he
 | 2=>exact Ew (kb:=(.inr wd,.tup ss)) trivial fun e he o=>by cases he
 | 3=>
  refine Ew (kb:=(.inr wd,.lst (ss ++ ss.drop (ss.length - 1)))) ⟨?_,fun z hz=>?_⟩ fun e he o=>?_
  ·rw [List.length_append,List.length_drop]
   have:=hs.2.2
   omega
  ·rcases List.mem_append.mp hz with h | h
   ·exact f.2 z h
   ·exact f.2 z (List.mem_of_mem_drop h)
  ·cases he
   have nd:=o.2.1.2.1
   have h2:=hs.2.1
   have hl:ss.length - 1 < ss.length:=by omega
   have hm:ss[ss.length - 1] ∈ ss.drop (ss.length - 1):=by
    rw [List.drop_eq_getElem_cons hl]
    exact List.mem_cons_self
   exact (List.nodup_append.mp nd).2.2 _ (List.getElem_mem hl) _ hm rfl
 | 4=>
  refine Ew (kb:=(.inr wd,.lst ["No"])) ⟨by decide,fun z hz=>?_⟩ fun e he o=>?_
  ·have:z = "No" := by simpa using hz
   subst this
   decide
  ·cases he
   exact Rj (z := "No") rfl (o.2.1.1 _ (List.mem_singleton.mpr rfl))
 | 5=>
  refine Ew (kb:=(.inr "no.", .lst ss)) f fun e he o=>?_
  cases he
  obtain ⟨x,hx,e,_⟩:=o.2.2
  have:=(hw.2.2.2.1 x hx).1
  rw [e] at this
  exact Rj (z := "no.") rfl this
 | 6=>
  refine ⟨Nat.le_of_ble_eq_true rfl,by simp,fun x hx=>?_,none,List.mem_cons_of_mem _ (List.mem_singleton.mpr rfl),fun e he=>by cases he⟩
  have hx:x=(.inr wd,.lst ss) \/ x=(.inl 1,.lst ["a"]):=by simpa using hx
  rcases hx with rfl | rfl
  ·exact f
  ·exact ⟨1,rfl⟩
 | 7=>exact Ew (kb:=(.inr wd,.at_ .non)) (.inl rfl) fun e he o=>by cases he
 | 8=>exact ⟨Nat.le_of_ble_eq_true rfl,.inl rfl⟩
 | 9=>
  refine ⟨?_,.inr (.inr (.inr ⟨_,rfl⟩))⟩
  have h1:dep (Dt.lst (ss.map strD)) <= 1:=by rw [dep];have:=Cj (f:=strD) C4 ss;omega
  have h0:=C4 wd
  have h2:=Cj (f:=strD) C4 ss
  have g:dep (Dt.lst [.tup [strD wd,.lst (ss.map strD)]])=max (max (dep (strD wd)) (max (deps (ss.map strD) + 1) 0) + 1) 0 + 1:=by simp only [dep,deps]
  rw [g]
  omega
 | 10=>exact ⟨Nat.le_trans (C4 wd) (by decide),.inr (.inr (.inl ⟨_,rfl⟩))⟩
 | n + 11=>exact ⟨Nat.le_of_ble_eq_true rfl,.inr (.inl ⟨_,rfl⟩)⟩
theorem Ul {H0 H:Hp} {v:V} {d:Dt} (h:ThingN K H0 H v (.inr d)) (o:d = .at_ .non \/ (∃ i,d = .at_ (.int i)) \/ (∃ z,d = .at_ (.str z)) \/ ∃ l,d = .lst l):P0 H v:=by
 obtain ⟨a,q⟩:=h
 rcases o with rfl | ⟨i,rfl⟩ | ⟨z,rfl⟩ | ⟨l,rfl⟩ <;> unfold At at a
 ·exact .inl a.1
 ·exact .inr (.inl ⟨i,a.1⟩)
 ·exact .inr (.inr (.inl ⟨z,a.1⟩))
 ·obtain ⟨b,xs,rfl,_⟩:=a
  obtain ⟨_,ys,e⟩:=q b rfl
  exact .inr (.inr (.inr ⟨b,ys,rfl,e⟩))
def btD:Bt -> Dt
 | .at_ v=>.at_ v
 | .lst l=>.lst (l.map strD)
 | .tup l=>.tup (l.map strD)
theorem ay2 {H:Hp}:∀ {b:Bt} {x:V},BtAt H b x -> At K H (btD b) x
 | .at_ _,_,⟨e,f⟩=>by subst e;exact Qy f
 | .lst _,_,⟨a,e,h⟩=>by subst e;exact G3 (SqL.of h)
 | .tup _,_,⟨a,e,h⟩=>by subst e;exact Lp (SqT.of h)
theorem Vz {H:Hp}:∀ {ds:List Dt} {xs:List V},xs.length=ds.length -> (∀ (i:Nat) x,xs[i]? = some x -> ∃ d,ds[i]? = some d /\ At K H d x) -> AtL K H ds xs
 | [],[],_,_=>Dd
 | [],_ :: _,l,_=>by simp at l
 | _ :: _,[],l,_=>by simp at l
 | d :: ds,x :: xs,l,q=>by
  refine Ch ?_ (Vz (by simpa using l) fun i y e=>?_)
  ·obtain ⟨d',e,h⟩:=q 0 x rfl
   cases e
   exact h
  ·obtain ⟨d',e',h⟩:=q (i + 1) y (by rw [List.getElem?_cons_succ];exact e)
   rw [List.getElem?_cons_succ] at e'
   exact ⟨d',e',h⟩
theorem Si {H:Hp} {kvs:List (Key × V)} {kbs:List (Key × Bt)} (l:kvs.length=kbs.length) (q:∀ (i:Nat) k x,kvs[i]? = some (k,x) -> ∃ b,kbs[i]? = some (k,b) /\ BtAt H b x):AtL K H (kbs.map fun kb=>btD kb.2) (kvs.map (·.2)):=by
 refine Vz (by rw [List.length_map,List.length_map,l]) fun i x e=>?_
 obtain ⟨⟨k,y⟩,e1,ey⟩:=Ak e
 have ey:x=y:=ey
 subst ey
 obtain ⟨b,e2,h⟩:=q i k x e1
 exact ⟨btD b,by rw [List.getElem?_map,e2];rfl,ay2 h⟩
theorem ai7:∀ b:Bt,dep (btD b) <= 1
 | .at_ v=>by unfold btD dep;decide
 | .lst l=>by unfold btD;rw [dep];have:=Cj (f:=strD) C4 l;omega
 | .tup l=>by unfold btD;rw [dep];have:=Cj (f:=strD) C4 l;omega
theorem Om {H:Hp} {r r':Addr} {kvs kvs':List (Key × V)} {kbs:List (Key × Bt)} (h:Rd H r (.dK kvs)) (h':Rd H r' (.dK kvs')) (l:kvs.length=kbs.length) (q:∀ (i:Nat) k x,kvs[i]? = some (k,x) -> ∃ b,kbs[i]? = some (k,b) /\ BtAt H b x) (l':kvs'.length=kbs.length) (q':∀ (i:Nat) k x,kvs'[i]? = some (k,x) -> ∃ b,kbs[i]? = some (k,b) /\ BtAt H b x):Kb K H r r':=
 ⟨kvs,kvs',_,h,h',(L9 l q).trans (L9 l' q').symm,Si l q,Si l' q',Nat.le_trans (Cj (n:=1) (fun kb:Key × Bt=>ai7 kb.2) kbs) (by decide)⟩
theorem Zd {H:Hp} {d:Dt} {x y:V} {Q:VK} (h:At K H d x) (h':At K H d y) (hd:dep d <= 40) (q:Q (.bl false) H):rEqD K true x y H Q:=by
 have e:=C5 h
 cases d with
 | at_ v=>
  unfold At at h h'
  obtain ⟨ex,f⟩:=h
  obtain ⟨ey,_⟩:=h'
  subst ex
  subst ey
  cases y with
  | int i=>show Q (.bl (!decide (i=i))) H;rw [decide_eq_true rfl];exact q
  | str i=>show Q (.bl (!decide (i=i))) H;rw [decide_eq_true rfl];exact q
  | bl i=>show Q (.bl (!(i == i))) H;rw [beq_self_eq_true];exact q
  | non=>exact ⟨rfl,by rw [decide_eq_true rfl];exact q⟩
  | _=>cases f
 | lst l=>
  have h0:=h
  have h0':=h'
  unfold At at h0 h0'
  obtain ⟨a,_,rfl,_⟩:=h0
  obtain ⟨b,_,rfl,_⟩:=h0'
  exact .inr (.inl ⟨_,_,h,h',hd,by rw [e];exact q⟩)
 | tup l=>
  have h0:=h
  have h0':=h'
  unfold At at h0 h0'
  obtain ⟨a,_,rfl,_⟩:=h0
  obtain ⟨b,_,rfl,_⟩:=h0'
  exact .inr (.inl ⟨_,_,h,h',hd,by rw [e];exact q⟩)
theorem X6 {sw rule:Sw} (hw:okSw sw) (h:Co sw rule):La sw rule:=by
 refine ⟨?_,h.2.2.1,h.2.2.2⟩
 have:=Os (l:=rule.map (·.1)) (x:=sw.map (·.1)) h.2.2.1 fun z hz=>by
  obtain ⟨e,he,rfl⟩:=List.mem_map.mp hz
  obtain ⟨x,hx,ex,_⟩:=(h.2.2.2 e he).2.2
  exact List.mem_map.mpr ⟨x,hx,ex⟩
 rw [List.length_map,List.length_map] at this
 exact Nat.le_trans this hw.2.1
theorem Y1 {sw:Sw} (hw:okSw sw) (c:Int):∃ i wd ss,badF c sw=badD i wd ss /\ (wd,ss) ∈ sw:=by
 have hpos:0 < (sw.length:Int):=by have:=hw.1;omega
 have h0:=Int.emod_nonneg c (show (sw.length:Int) ≠ 0 by omega)
 have h1:=Int.emod_lt_of_pos c hpos
 have jl:(c % (sw.length:Int)).toNat < sw.length:=by omega
 refine ⟨_,_,_,rfl,?_⟩
 rw [List.getD_eq_getElem?_getD,List.getElem?_eq_getElem jl]
 exact List.getElem_mem jl
theorem Y2 {sw:Sw} (hw:okSw sw) (c:Int):Vd sw (badF c sw):=by
 obtain ⟨i,wd,ss,e,hm⟩:=Y1 hw c
 rw [e]
 exact Sm hw hm i
theorem ab9 {i:Nat} {da:DA} {rest:DS} {D:Outs} {σ:St} {H:Hp} (h:da σ H (fun xs H1=>xs.length <= sizeLine /\ ∀ p,H1 p=none -> rest D (σ.set i (some (.ref p))) (upd H1 p (.lst xs))) (D.ex σ)):dSeq (dSet i (dLst da)) rest D σ H:=h
theorem ab8 {i:Nat} {da:DA} {rest:DS} {D:Outs} {a b c d:Option V} {v:V} {H:Hp} (h:da [a,b,c,d,some v] H (fun xs H1=>xs.length <= sizeLine /\ ∀ p,H1 p=none -> Aq K v (.ref p) (upd H1 p (.lst xs)) fun y H2=>rest D ([a,b,c,d,some v].set i (some y)) H2) (D.ex [a,b,c,d,some v])):dSeq (dSet i (dBin (Aq K) (dVar 4) (dLst da))) rest D [a,b,c,d,some v] H:=h
theorem ab6 {da:DA} {ix:DE} {rest:DS} {D:Outs} {a b c d:Option V} {v:V} {H:Hp} (h:da [a,b,c,d,some v] H (fun xs H1=>xs.length <= sizeLine /\ ∀ p,H1 p=none -> Aq K v (.ref p) (upd H1 p (.lst xs)) fun y H2=>ix [a,b,c,d,some v] H2 (fun z H3=>rIxD K y z H3 D.rt) (D.ex [a,b,c,d,some v])) (D.ex [a,b,c,d,some v])):dSeq (dRet (dBin (rIxD K) (dBin (Aq K) (dVar 4) (dLst da)) ix)) rest D [a,b,c,d,some v] H:=h
section
variable {H:Hp} {E:EK} {ss:List Str} {wd:Str} {l la:Addr} {c:Int} {v4:Option V}
theorem Gw:∀ H1 (Q:VK),Q (.str wd) H1 -> dVar 2 [some (.ref l),some (.int c),some (.str wd),some (.ref la),v4] H1 Q E:=fun _ _ q=>q
theorem Ov:∀ H1 (Q:VK),Q (.ref la) H1 -> dVar 3 [some (.ref l),some (.int c),some (.str wd),some (.ref la),v4] H1 Q E:=fun _ _ q=>q
variable (h2:H la=some (lstO ss))
include h2
theorem ac8 (h0:0 < ss.length) (h9:ss.length <= 100):GTs K H [some (.ref l),some (.int c),some (.str wd),some (.ref la),v4] E (Ab (Bq [((dVar 2),(dLst dNil))]) (Ab (Bq [((dVar 2),(dBin (rIxD K) (dVar 3) (dC (.int 0))))]) (Ab (Bq [((dVar 2),(dFn (fun vs H Q _=>(Cb K) vs H Q) (Ab (dVar 3) dNil)))]) (Ab (Bq [((dVar 2),(dBin (Aq K) (dVar 3) (dSl K (dVar 3) (Fb (dUn Fl (dC (.int 1)))) En)))]) dNil)))) [badD 0 wd ss,badD 1 wd ss,badD 2 wd ss,badD 3 wd ss]:=
 Bb (Cn (k:=.inr wd) Gw Zi) (Bb (Cn (k:=.inr wd) Gw (Wo Ov h2 h0)) (Bb (Cn (k:=.inr wd) Gw (aj2 Ov h2)) (Bb (Cn (k:=.inr wd) Gw (Wp Ov h2 h0 h9)) Lz)))
theorem ac9:GTs K H [some (.ref l),some (.int c),some (.str wd),some (.ref la),v4] E (Ab (Bq [((dVar 2),(dLst (Ab (dC (.str "No")) dNil)))]) (Ab (Bq [((dC (.str "no.")),(dFn (fun vs H Q _=>(A5 K) vs H Q) (Ab (dVar 3) dNil)))]) (Ab (Bq [((dVar 2),(dFn (fun vs H Q _=>(A5 K) vs H Q) (Ab (dVar 3) dNil))),((dC (.int 1)),(dLst (Ab (dC (.str "a")) dNil)))]) (Ab (Bq [((dVar 2),(dC .non))]) dNil)))) [badD 4 wd ss,badD 5 wd ss,badD 6 wd ss,badD 7 wd ss]:=
 Bb (Cn (k:=.inr wd) Gw Rc) (Bb (Cn (k:=.inr "no.") (fun _ _ q=>q) (Rb Ov h2)) (Bb (Wn (k:=.inr wd) (k':=.inl 1) Gw (Rb Ov h2) (fun _ _ q=>q) Rc (fun e=>by cases e)) (Bb (Cn (k:=.inr wd) Gw (gv_c rfl)) Lz)))
theorem ad0:GTs K H [some (.ref l),some (.int c),some (.str wd),some (.ref la),v4] E (Ab (dC .non) (Ab (dLst (Ab (dTup (Ab (dVar 2) (Ab (dFn (fun vs H Q _=>(A5 K) vs H Q) (Ab (dVar 3) dNil)) dNil))) dNil)) (Ab (dVar 2) (Ab (dC (.int 0)) dNil)))) [badD 8 wd ss,badD 9 wd ss,badD 10 wd ss,badD 11 wd ss]:=
 Bb (Ly rfl fun _ _ q=>q) (Bb (Zh h2) (Bb (Ly rfl Gw) (Bb (Ly rfl fun _ _ q=>q) Lz)))
end
theorem al5 {f:Addr} {fd:FuncData} (Z:Al K t) (F:FunD K "_law_bad" "_law_bad" Jm f fd .none) (T:Tab P w K mg base 0 (gb_0 K t) bl):FnOk P w K mg base CX0 1 f fd M8 (Ms K t):=by
 refine F.okW0 av0 ax3 T (as9 K t) (fun vs H Q E h=>?_) (fun vs H Q E h=>?_)
 ·obtain ⟨c,l,sw,rfl,_⟩:=h;rfl
 ·obtain ⟨c,l,sw,rfl,hsw,hw,k⟩:=h
  obtain ⟨ds,ed,⟨_,ol⟩,hd⟩:=id hsw
  have len:(ds.map fun x=>V.ref x.2).length=sw.length:=by rw [<- ed];simp
  have hpos:0 < (sw.length:Int):=by have:=hw.1;omega
  obtain ⟨j,ej⟩:∃ j:Nat,c % (sw.length:Int)=(j:Int):=⟨_,(Int.toNat_of_nonneg (Int.emod_nonneg c (by omega))).symm⟩
  have jl:j < sw.length:=by have:=Int.emod_lt_of_pos c hpos;omega
  have jl2:j < ds.length:=by rw [List.length_map] at len;omega
  obtain ⟨⟨⟨⟨wd,ss⟩,la⟩,ta⟩,hj⟩:∃ d,ds[j]? = some d:=⟨_,List.getElem?_eq_getElem jl2⟩
  have hj2:sw[j]? = some (wd,ss):=by rw [<- ed,List.getElem?_map,hj];rfl
  obtain ⟨⟨_,h1⟩,_,h2⟩:=hd _ (List.mem_of_getElem? hj)
  have h1:H ta=some (.tup [.str wd,.ref la]):=h1
  have h2:H la=some (lstO ss):=h2
  have hss:=(hw.sets _ (List.mem_of_getElem? hj2)).2
  have hss:2 <= ss.length /\ ss.length <= 4:=hss
  have eb:badF c sw=badD (c / 5 % 12).toNat wd ss:=by
   unfold badF
   rw [ej,Int.toNat_natCast,List.getD_eq_getElem?_getD,hj2]
   rfl
  rw [eb] at k
  obtain ⟨i,ei⟩:∃ i:Nat,c / 5 % 12=(i:Int):=⟨_,(Int.toNat_of_nonneg (Int.emod_nonneg _ (by omega))).symm⟩
  have il:i < 12:=by have:=Int.emod_lt_of_pos (c / 5) (show (0:Int) < 12 by decide);omega
  rw [ei,Int.toNat_natCast] at k
  refine .inl ⟨_,.inl (SqL.of ol),?_⟩
  show 0 < ((ds.map fun x=>V.ref x.2).length:Int) /\ _
  rw [len,ej]
  refine ⟨hpos,_,.ref ta,.inl (SqL.of ol),B6 (j:=j) (by rw [List.getElem?_map,hj];rfl),_,SqT.of h1,rfl,?_⟩
  have h0:0 < ss.length:=by omega
  refine ab9 (ac8 h2 h0 (by omega) H _ (fun _ _ e=>e) fun xs H1 S1 T1=>⟨Nat.le_trans (Nat.le_of_eq T1.1) (show 4 <= sizeLine by decide),fun l1 hl1=>?_⟩)
  have S2:=Same.upd (o:=.lst xs) hl1
  have e2:upd H1 l1 (.lst xs) l1=some (.lst xs):=Ac
  have T2:=T1.up S2
  generalize upd H1 l1 (.lst xs)=H2 at S2 e2 T2 ⊢
  have S02:=S1.trans S2
  refine ab8 (ac9 h2 H2 _ S02 fun ys H3 S3 T3=>⟨Nat.le_trans (Nat.le_of_eq T3.1) (show 4 <= sizeLine by decide),fun l3 hl3=>?_⟩)
  have S4:=Same.upd (o:=.lst ys) hl3
  have e4:upd H3 l3 (.lst ys) l3=some (.lst ys):=Ac
  have T4:=(T2.up (S3.trans S4)).app (T3.up S4)
  have e41:=S4 _ _ (S3 _ _ e2)
  generalize upd H3 l3 (.lst ys)=H4 at S4 e4 T4 e41 ⊢
  refine .inl ⟨l1,l3,xs,ys,rfl,rfl,e41,e4,?_,fun l5 hl5=>?_⟩
  ·rw [T1.1,T3.1];exact (show 8 <= sizeLine by decide)
  have S5:=Same.upd (o:=.lst (xs ++ ys)) hl5
  have e5:upd H4 l5 (.lst (xs ++ ys)) l5=some (.lst (xs ++ ys)):=Ac
  have T5:=T4.up S5
  generalize upd H4 l5 (.lst (xs ++ ys))=H5 at S5 e5 T5 ⊢
  have S05:=S02.trans (S3.trans (S4.trans S5))
  refine ab6 (ad0 h2 H5 _ S05 fun zs H6 S6 T6=>⟨Nat.le_trans (Nat.le_of_eq T6.1) (show 4 <= sizeLine by decide),fun l6 hl6=>?_⟩)
  have S7:=Same.upd (o:=.lst zs) hl6
  have e7:upd H6 l6 (.lst zs) l6=some (.lst zs):=Ac
  have T7:=(T5.up (S6.trans S7)).app (T6.up S7)
  have e75:=S7 _ _ (S6 _ _ e5)
  generalize upd H6 l6 (.lst zs)=H7 at S7 e7 T7 e75 ⊢
  refine .inl ⟨l5,l6,_,zs,rfl,rfl,e75,e7,?_,fun l8 hl8=>?_⟩
  ·rw [List.length_append,T1.1,T3.1,T6.1];exact (show 12 <= sizeLine by decide)
  have S8:=Same.upd (o:=.lst ((xs ++ ys) ++ zs)) hl8
  have e8:upd H7 l8 (.lst ((xs ++ ys) ++ zs)) l8=some (.lst ((xs ++ ys) ++ zs)):=Ac
  have T8:=T7.up S8
  generalize upd H7 l8 (.lst ((xs ++ ys) ++ zs))=H8 at S8 e8 T8 ⊢
  have ln:((xs ++ ys) ++ zs).length=12:=T8.1
  obtain ⟨v,hv⟩:∃ v,((xs ++ ys) ++ zs)[i]? = some v:=⟨_,List.getElem?_eq_getElem (by omega)⟩
  refine ⟨⟨by decide,by decide⟩,by decide,_,v,.inl (SqL.of e8),by rw [ei];exact B6 (j:=i) hv,?_⟩
  exact k H8 v (S05.trans (S6.trans (S7.trans S8))) (T8.2 i v _ hv (ai1 il))
end
section
variable {P:Program} {w:World} {K:PySem.W.Frag} {mg:Str -> Option Value} {base:Heap} {t:Adr}
theorem SwL.swIn {H H':Hp} {ls:Addr} {ds:List (((Str × List Str) × Addr) × Addr)} (h:SwL H H' ls ds):SwIn any H' ls (ds.map (·.1.1)):=⟨ds,rfl,⟨trivial,h.at_⟩,fun x hx=>⟨⟨trivial,h.tup x hx⟩,trivial,h.lst x hx⟩⟩
theorem W0 {H:Hp} {R:Addr -> Hp -> Prop} {E:EK} {a:Addr} {sw:Sw} {rules:List Sw} {v:V} (hs:SwIn any H a sw) (hw:okSw sw) (hr:E4 any H v rules) (ho:∀ r ∈ rules,Co sw r) (h8:rules.length <= 8) (hf:Dv sw rules ≠ 0)
  (k:∀ H' p,Same H H' -> PanelAt t.c_zba (fresh H) H' p sw rules -> R p H') :
  ∀ p dx,H p=none -> H dx=none -> dx ≠ p -> Yh K t [.ref p,.ref a,v] (upd (upd H dx (.own p)) p (.ins t.c_zba dx [])) (fun v H2=>v = .non /\ R p H2) (fun v _ H'=>∃ b,v = .ref b /\ E b H'):=by
 intro p dx hp hd ne
 have S1:Same H (upd (upd H dx (.own p)) p (.ins t.c_zba dx [])):=fun b o e=>by rw [Ad (Af e hp),Ad (Af e hd)];exact e
 have ep:upd (upd H dx (.own p)) p (.ins t.c_zba dx []) p=some (.ins t.c_zba dx []):=Ac
 generalize upd (upd H dx (.own p)) p (.ins t.c_zba dx [])=H1 at S1 ep ⊢
 have kp:Kp any H (· ≠ p) H1:=fun b o q=>⟨Af q.2 hp,S1 _ _ q.2⟩
 have RI:E4 (· ≠ p) H1 v rules:=hr.imp id fun ⟨k,e,R⟩=>⟨k,e,R.mono kp⟩
 refine ⟨p,a,dx,v,sw,rules,rfl,ep,hs.mono kp,hw,RI,ho,h8,hf,fun H2 O2 P2=>⟨rfl,k H2 p (fun b o e=>O2 b o (Af e hp) (S1 _ _ e)) (P2.mono (Kp.weak fun b h=>?_))⟩⟩
 rcases h with rfl | h
 ·exact hp
 ·exact S1.free h
theorem V6 (ns:List Int) (i j:Nat):∃ ms:List Int,cutV (ns.map V.int) (some (i:Int)) (some (j:Int))=ms.map V.int:=by
 unfold cutV
 rw [HT.sIx_nat,HT.sIx_nat,List.length_map,<- List.map_drop,<- List.map_take]
 exact ⟨_,rfl⟩
theorem Ut (b:Bool):∃ m:Int,atI [V.int 24,V.int 256] (if b then 1 else 0)=some (.int m) /\ 4 <= m /\ m <= 256:=by
 cases b
 ·exact ⟨24,rfl,by decide,by decide⟩
 ·exact ⟨256,rfl,by decide,by decide⟩
theorem am0 {f:Addr} {fd:FuncData} (Z:Al K t) (F:FunD K "law" "law" C8 f fd .none) (T:Tab P w K mg base 9 (gb_9 K t) bl):FnOk P w K mg base CX0 10 f fd Nd (Mt K t):=by
 refine F.okW0 av5 ax8 T (at6 K t) (fun vs H Q E h=>?_) (fun vs H Q E h=>?_)
 ·obtain ⟨a,ns,rfl,_⟩:=h;rfl
 ·obtain ⟨a,ns,rfl,hS,k⟩:=h
  refine ⟨a,ns,0,rfl,hS,(show 2 <= sizeLine by decide),fun l0 hl0=>?_⟩
  have S0:=Same.upd (o:=.lst [.int 24,.int 256]) hl0
  have e0:upd H l0 (.lst [.int 24,.int 256]) l0=some (.lst [.int 24,.int 256]):=Ac
  generalize upd H l0 (.lst [.int 24,.int 256])=H0 at S0 e0 ⊢
  obtain ⟨m,hm,m4,m256⟩:=Ut (decide (Ki ns 1 % 8=1))
  refine ⟨a,ns,1,rfl,S0.seqL hS,by decide,_,.int m,.inl (SqL.of e0),hm,?_⟩
  refine ⟨_,m,rfl,m4,m256,fun H1 l sw S1 W1 hw=>⟨l,sw,rfl,W1,hw,fun H2 r S2 R2=>?_⟩⟩
  have S02:=S0.trans (S1.trans S2)
  refine ⟨a,ns,1,rfl,S02.seqL hS,⟨by decide,by decide⟩,_,l,sw,rfl,W1.mono (Kp.same S2),hw,fun H3 kr rules S3 U3 hok h3 hfree=>?_⟩
  have S03:=S02.trans S3
  have W3:=W1.mono (Kp.same (S2.trans S3))
  have R3:=R2.mono (Kp.same S3)
  have U3:RulesAt any H3 kr rules:=U3.mono Kp.any
  have h8:rules.length <= 8:=by omega
  refine ⟨kr,rules,rfl,U3,fun x hx=>⟨(hok x hx).2.2.1,(hok x hx).2.1⟩,h8,fun H4 f S4 F4=>?_⟩
  obtain ⟨gs,eg,⟨ff,ef⟩,hg⟩:=id F4
  obtain ⟨ds,ed,⟨_,ol⟩,hd⟩:=id W3
  have len:(ds.map fun x=>V.ref x.2).length=sw.length:=by rw [<- ed];simp
  refine .inl ⟨⟨_,S4.seqL (SqL.of ol)⟩,fun D hD=>?_⟩
  refine De (Au (ds.map fun x=>V.ref x.2)) (fun m σ H'=>(∃ v0 v1,σ=[v0,v1]) /\ Same H4 H' /\ ∃ es:List (((Str × List Str) × Addr) × Addr),es.map (·.1.1)=sw.take m /\ SwL H4 H' D es)
   ⟨⟨_,_,rfl⟩,Same.upd hD,[],rfl,Ac,fun x hx=>(by cases hx),fun x hx=>(by cases hx),fun x hx=>(by cases hx)⟩ (fun m σ H' _ q=>(S4.trans q.2.1).seqL (SqL.of ol)) ?_ ?_
  ·rintro m x σ H5 hx ⟨⟨v0,v1,rfl⟩,S5,es,ee,L1⟩
   obtain ⟨⟨⟨e,la⟩,ta⟩,hi,rfl⟩:=Ak hx
   have hi2:sw[m]? = some e:=by rw [<- ed,List.getElem?_map,hi];rfl
   obtain ⟨⟨_,h1⟩,_,h2⟩:=hd _ (List.mem_of_getElem? hi)
   have S45:=S4.trans S5
   refine ⟨_,SqT.of (S45 _ _ h1),rfl,⟨_,.inl (SqL.of (S45 _ _ h2)),fun lb hlb=>⟨(show 2 <= sizeLine by decide),fun tb htb=>?_⟩⟩⟩
   have Sb:=Same.upd (o:=lstO e.2) hlb
   have eb:upd H5 lb (lstO e.2) lb=some (lstO e.2):=Ac
   have fb:=S5.free hlb
   have nb:lb ≠ D:=(Af L1.at_ hlb).symm
   have St:=Same.upd (o:=.tup [.str e.1,.ref lb]) htb
   have et:upd (upd H5 lb (lstO e.2)) tb (.tup [.str e.1,.ref lb]) tb=some (.tup [.str e.1,.ref lb]):=Ac
   have S6:=Sb.trans St
   have eb2:=St _ _ eb
   show ∃ ys,upd (upd H5 lb (lstO e.2)) tb (.tup [.str e.1,.ref lb]) D=some (.lst ys) /\ _
   generalize upd (upd H5 lb (lstO e.2)) tb (.tup [.str e.1,.ref lb])=H6 at S6 et eb2 ⊢
   have L2:=L1.up S6
   refine ⟨_,L2.at_,?_,⟨_,_,rfl⟩,(S5.trans S6).set hD,es ++ [((e,lb),tb)],?_,L2.snoc et eb2 nb fb⟩
   ·rw [List.length_map]
    have:=congrArg List.length ee
    rw [List.length_map,List.length_take] at this
    have:=hw.2.1
    exact Nat.lt_of_le_of_lt (show es.length <= 5 by omega) (by decide)
   ·rw [List.map_append,ee,List.take_add_one,hi2];rfl
  rintro σ Hh ⟨_,Sh,es,ee,Lh⟩
  rw [len,List.take_length] at ee
  refine W0 (K:=K) (E:=fun _ _=>False) (v:=.ref f) (ee ▸ Lh.swIn) hw (.inr ⟨f,rfl,(F4.mono Kp.any).mono (Kp.same Sh)⟩) hok h8 hfree fun H5 p S5 P5=>?_
  have Sf5:=Sh.trans S5
  have S35:=S4.trans Sf5
  refine .inr (.inr (Ja ((F4.mono Kp.any).mono (Kp.same Sf5)) (U3.mono (Kp.same S35)) ?_))
  have efh:=Sh _ _ ef
  refine .inl ⟨⟨_,Sf5.seqL (SqL.of ef)⟩,?_⟩
  refine Av (Au (gs.map fun x=>V.ref x.2)) (fun i σ H'=>(∃ v5 v7,σ=[some (.ref a),some (.ref l),some (.ref r),some (.ref kr),some (.ref f),v5,some (.ref p),v7,none,none,none,none,none]) /\ Same H3 H' /\ PanelAt t.c_zba (fresh Hh) H' p sw rules /\ H' f=some (.lst (gs.map fun x=>.ref x.2)) /\ G0 H3 Hh H' f 8 /\ ∀ x ∈ gs,Li H3 Hh H' f x.2) ?_ (fun i σ H' _ q=>SqL.of q.2.2.2.1) ?_ ?_
  ·refine ⟨⟨_,_,rfl⟩,S35,P5,Sf5 _ _ ef,fun la hl=>?_,fun x hx=>?_⟩
   ·obtain ⟨zs,e1,e2⟩:=hl.2.2
    exact ⟨zs,S5 _ _ e1,e2⟩
   ·obtain ⟨xs,ex,⟨fx,ox⟩,hxs⟩:=hg x hx
    have hokx:=hok x.1 (by rw [<- eg];exact List.mem_map.mpr ⟨x,hx,rfl⟩)
    refine ⟨_,Sf5 _ _ ox,Bx ex hokx.2.2.1,?_,fun q hq=>?_⟩
    ·have:=congrArg List.length ex
     rw [List.length_map] at this
     rw [List.length_map,this]
     exact hokx.2.1
    ·obtain ⟨y,hy,rfl⟩:=List.mem_map.mp hq
     obtain ⟨fy,oy⟩:=hxs y hy
     have hm:y.1 ∈ x.1:=by rw [<- ex];exact List.mem_map.mpr ⟨y,hy,rfl⟩
     obtain ⟨ne,ol,_⟩:=hokx.2.2.2 y.1 hm
     refine ⟨y.1.1,y.2,rfl,fun z=>?_,fy,_,Sh _ _ oy,by rw [List.length_map];exact ol.2.2⟩
     rw [z,ef] at oy
     exact Ip (gs:=gs) ne (Option.some.inj oy).symm
  ·rintro i x σ H6 hx ⟨⟨v5,v7,rfl⟩,S6,P6,e6,L6,D6⟩
   obtain ⟨⟨rule,rd⟩,hi,rfl⟩:=Ak hx
   have him:=List.mem_of_getElem? hi
   obtain ⟨kvs,er,nd,l100,hk⟩:=D6 _ him
   have er:H6 rd=some (.dK kvs):=er
   obtain ⟨_,_,⟨frr,ord⟩,_⟩:=hg _ him
   have frr:H3 rd=none:=frr
   have nfh:¬ fresh Hh rd:=B5 (Sh _ _ ord)
   refine .inr (.inr (.inl ⟨_,er,fun o=>?_⟩))
   have nfr:f ≠ rd:=fun z=>by rw [<- z,e6] at er;cases er
   have gr:∀ {la},Lj H3 Hh f la -> la ≠ rd:=fun {la} hl z=>by
    obtain ⟨zs,q,_⟩:=L6 la hl
    rw [z,er] at q
    cases q
   show ForW (Itd rd o kvs) _ _ _ [some (.ref a),some (.ref l),some (.ref r),some (.ref kr),some (.ref f),v5,some (.ref p),some (.ref rd),none,none,none,none,none] (upd H6 rd (.frz o (.dK kvs)))
   refine Av (Dm kvs) (fun j σ H'=>(∃ v5,σ=[some (.ref a),some (.ref l),some (.ref r),some (.ref kr),some (.ref f),v5,some (.ref p),some (.ref rd),none,none,none,none,none]) /\ Same H3 H' /\ PanelAt t.c_zba (fresh Hh) H' p sw rules /\ H' f=some (.lst (gs.map fun x=>.ref x.2)) /\ H' rd=some (.frz o (.dK kvs)) /\ G0 H3 Hh H' f 8 /\ ∀ x ∈ gs,x.2 ≠ rd -> Li H3 Hh H' f x.2) ?_ (fun j σ H' _ q=>q.2.2.2.2.1) ?_ ?_
   ·refine ⟨⟨_,rfl⟩,S6.set frr,P6.mono (Kp.off nfh),by rw [Ad nfr];exact e6,Ac,fun la hl=>?_,fun x hx nx=>?_⟩
    ·rw [Ad (gr hl)];exact L6 la hl
    ·obtain ⟨kv,a2,a3⟩:=D6 x hx
     exact ⟨kv,by rw [Ad nx];exact a2,a3⟩
   ·rintro j y σ H7 hy ⟨⟨v5,rfl⟩,S7,P7,e7,e7r,L7,D7⟩
    obtain ⟨⟨kx,vx⟩,hj,rfl⟩:=Ak hy
    obtain ⟨wd,la,epq,hl⟩:=hk _ (List.mem_of_getElem? hj)
    cases epq
    have hv:valV kvs (.inr wd)=some (.ref la):=Az nd hj
    obtain ⟨zs,ez,lz⟩:=L7 la hl
    obtain ⟨zh,ezh,_⟩:=hl.2.2
    refine ⟨.ref la,.inl ⟨_,.inr wd,.inr ⟨o,e7r⟩,rfl,hv.symm⟩,.inl ⟨.inl ⟨rfl,_,SqL.of ez⟩,la,_,rfl,rfl,ez,⟨_,rfl⟩,S7.set hl.2.1,P7.mono (Kp.off (B5 ezh)),by rw [Ad (Ne.symm hl.1)];exact e7,by rw [Ad (Ne.symm (gr hl))];exact e7r,fun lb hb=>?_,fun x hx nx=>?_⟩⟩
    ·by_cases e:lb=la
     ·subst e
      exact ⟨_,Ac,by decide⟩
     ·obtain ⟨zs',a1,a2⟩:=L7 lb hb
      exact ⟨zs',by rw [Ad e];exact a1,a2⟩
    ·obtain ⟨kv,a2,a3⟩:=D7 x hx nx
     exact ⟨kv,by rw [Ad (fun z=>by rw [z,ez] at a2;cases a2)];exact a2,a3⟩
   ·rintro σ H7 ⟨⟨v5,rfl⟩,S7,P7,e7,e7r,L7,D7⟩
    refine .inr ⟨rd,o,_,er,e7r,⟨_,_,rfl⟩,S7.set frr,P7.mono (Kp.off nfh),by rw [Ad nfr];exact e7,fun la hl=>?_,fun x hx=>?_⟩
    ·rw [Ad (gr hl)];exact L7 la hl
    ·by_cases nx:x.2=rd
     ·rw [nx]
      exact ⟨kvs,Ac,nd,l100,hk⟩
     ·obtain ⟨kv,a2,a3⟩:=D7 x hx nx
      exact ⟨kv,by rw [Ad nx];exact a2,a3⟩
  rintro σ H6 ⟨⟨v5,v7,rfl⟩,S6,P6,e6,_,_⟩
  refine .inl (.inl ⟨.inl ⟨rfl,_,SqL.of e6⟩,f,_,rfl,rfl,e6,?_⟩)
  have S7:Same H3 (upd H6 f (.lst [])):=S6.set ff
  have P7:PanelAt t.c_zba any (upd H6 f (.lst [])) p sw rules:=(P6.mono (Kp.off (B5 efh))).mono Kp.any
  generalize upd H6 f (.lst [])=H7 at S7 P7 ⊢
  obtain ⟨ms,em⟩:=V6 ns 2 22
  refine .inl ⟨_,(S03.trans S7).seqL hS,fun ls hls=>?_⟩
  have em:cutV (ns.map V.int) (some 2) (some 22)=ms.map V.int:=em
  rw [em]
  have S8:=Same.upd (o:=.lst (ms.map V.int)) hls
  have e8:upd H7 ls (.lst (ms.map V.int)) ls=some (.lst (ms.map V.int)):=Ac
  refine .inl ⟨⟨_,SqL.of e8⟩,?_⟩
  generalize upd H7 ls (.lst (ms.map V.int))=H8 at S8 e8 ⊢
  have S38:=S7.trans S8
  have P8:=P7.mono (Kp.same S8)
  have W8:=W3.mono (Kp.same S38)
  have R8:=R3.mono (Kp.same S38)
  have U8:=U3.mono (Kp.same S38)
  refine Av (Au (ms.map V.int)) (fun i σ H'=>(∃ v8 v9 v10 v11 v12,σ=[some (.ref a),some (.ref l),some (.ref r),some (.ref kr),some (.ref f),v5,some (.ref p),v7,v8,v9,v10,v11,v12]) /\ Same H8 H') ⟨⟨_,_,_,_,_,rfl⟩,fun _ _ e=>e⟩ (fun i σ H' _ q=>q.2.seqL (SqL.of e8)) ?_ ?_
  ·rintro i x σ H9 hx ⟨⟨v8,v9,v10,v11,v12,rfl⟩,S9⟩
   obtain ⟨c,hc,rfl⟩:=Ak hx
   refine ⟨c,l,sw,rfl,W8.mono (Kp.same S9),hw,fun Ha d Sa Ra=>?_⟩
   have Sa8:=S9.trans Sa
   by_cases h4:c % 4=1
   ·refine ⟨by decide,Ff (decide_eq_true h4) ?_⟩
    refine ⟨⟨by decide,by decide⟩,_,l,sw,rfl,W8.mono (Kp.same Sa8),hw,fun Hb v Sb Tb=>?_⟩
    have Sb8:=Sa8.trans Sb
    refine ⟨⟨by decide,by decide⟩,_,l,sw,rfl,W8.mono (Kp.same Sb8),hw,fun Hc v' Sc Tc=>?_⟩
    have Sc8:=Sb8.trans Sc
    have Tv:=Tb.up Sc
    refine ⟨by decide,Ce (by rw [decide_eq_true h4];rfl) ?_⟩
    have bo:=Y2 hw (c / 4)
    generalize badF (c / 4) sw=th at Tb Tc Tv bo
    cases th with
    | inr dt=>
     refine ⟨p,v,sw,rules,rfl,hw,.inl ⟨Ul Tv bo.2,P8.mono (Kp.same Sc8),fun Hd Sd=>?_⟩⟩
     refine Zd (Q0 Sd Tv.1) (Q0 Sd Tc.1) bo.1 ?_
     refine iteF ?_
     exact ⟨⟨_,_,_,_,_,rfl⟩,Sc8.trans Sd⟩
    | inl kbs=>
     obtain ⟨rb,kvs,rfl,fb,B⟩:=ai4 Tv bo.2.2.1 bo.2.1 bo.1
     obtain ⟨rc,kvc,rfl,fc,hrc,lc,qc⟩:=Tc
     obtain ⟨rb',kvb,eb',fb',hrb,lb,qb⟩:=Tv
     cases eb'
     have:kvb=kvs:=by have:=B.at_;rw [hrb] at this;cases this;rfl
     subst this
     have frb:H8 rb=none:=Sa8.free fb
     have kp:Kp any H8 (· ≠ rb) Hc:=fun b o q=>⟨Af q.2 frb,Sc8 _ _ q.2⟩
     have nbc:rc ≠ rb:=fun z=>by
      obtain ⟨r0,kv0,e0,_,h0,_⟩:=Tb
      cases e0
      rw [z,h0] at fc
      cases fc
     refine ⟨p,.ref rb,sw,rules,rfl,hw,.inr ⟨rb,_,_,rfl,P8.mono kp,B,.inr ⟨bo.2.2.2,fun Hd Od Rd'=>?_⟩⟩⟩
     refine .inr (.inr (.inl ⟨Om Rd' (.inl (Od _ _ nbc hrc)) lb (fun i k x e=>?_) lc (fun i k x e=>?_),?_⟩))
     ·obtain ⟨b,e1,e2⟩:=qb i k x e
      exact ⟨b,e1,e2.off hrb Od⟩
     ·obtain ⟨b,e1,e2⟩:=qc i k x e
      exact ⟨b,e1,e2.off hrb Od⟩
     ·refine iteF ?_
      exact ⟨⟨_,_,_,_,_,rfl⟩,fun b o e=>Od b o (Af e frb) (Sc8 _ _ e)⟩
   ·refine ⟨by decide,Ce (decide_eq_false h4) ?_⟩
    refine ⟨⟨by decide,by decide⟩,_,l,sw,rfl,W8.mono (Kp.same Sa8),hw,fun Hb v Sb Tb=>?_⟩
    have Sb8:=Sa8.trans Sb
    refine ⟨by decide,Ff (by rw [decide_eq_false h4];rfl) ?_⟩
    have ok:=ac2 hw c
    have Ra':RuleAt any Ha d (Gv c sw):=Ra.mono Kp.any
    refine ⟨l,r,d,sw,_,rfl,W8.mono (Kp.same Sb8),hw,R8.mono (Kp.same Sb8),Ra'.mono (Kp.same Sb),ok,fun Hc Sc=>?_⟩
    have Sc8:=Sb8.trans Sc
    refine ⟨c,l,sw,rfl,W8.mono (Kp.same Sc8),hw,fun Hd d' Sd Rd'=>?_⟩
    have Sd8:=Sc8.trans Sd
    have Rad:=Ra'.mono (Kp.same (Sb.trans (Sc.trans Sd)))
    obtain ⟨kvs,B⟩:=G4 Rad (Nat.le_trans ok.1 (by decide)) ok.2.1 ok.2.2
    have frd:H8 d=none:=by
     obtain ⟨_,_,⟨fd,_⟩,_⟩:=Ra
     exact S9.free fd
    have kp:Kp any H8 (· ≠ d) Hd:=fun b o q=>⟨Af q.2 frd,Sd8 _ _ q.2⟩
    refine ⟨p,.ref d,sw,rules,rfl,hw,.inr ⟨d,_,_,rfl,P8.mono kp,B,.inl ⟨_,rfl,ok.2.2,fun He Se=>?_⟩⟩⟩
    refine Ce (by simp) ?_
    refine .inr (.inr (.inl ⟨Jr (Rad.mono (Kp.same Se)) ((Rd'.mono Kp.any).mono (Kp.same Se)),?_⟩))
    refine iteF ?_
    exact ⟨⟨_,_,_,_,_,rfl⟩,Sd8.trans Se⟩
  ·rintro σ H9 ⟨⟨v8,v9,v10,v11,v12,rfl⟩,S9⟩
   have P9:=P8.mono (Kp.same S9)
   obtain ⟨dx,d,lt,n,s,kk,b,h⟩:=id P9
   refine .inl ⟨p,dx,_,⟨t.c_zba,i_zx K t⟩,rfl,.head _,h.ins.2,rfl,⟨Nat.le_of_ble_eq_true rfl,Nat.le_of_ble_eq_true rfl⟩,fun q hq=>.inl ?_⟩
   have Sq:=Same.upd (o:=.dK []) hq
   have eq:upd H9 q (.dK []) q=some (.dK []):=Ac
   generalize upd H9 q (.dK [])=Hq at Sq eq ⊢
   have kp:Kp any H9 (· ≠ q) Hq:=fun b o z=>⟨Af z.2 hq,Sq _ _ z.2⟩
   refine ⟨p,lt,s,.ref q,sw,rfl,hw,.inr ⟨q,[],[],rfl,h.self.mono kp,h.tps.mono kp,h.sts.mono kp,⟨eq,rfl,by decide,List.nodup_nil,fun i k v o e=>by simp at e⟩,.inl ⟨[],rfl,fun e he=>(by cases he),fun Hr Sr=>?_⟩⟩⟩
   have S9r:=Sq.trans Sr
   refine ⟨p,dx,_,⟨t.c_zba,i_zc K t⟩,rfl,.head _,S9r _ _ h.ins.2,rfl,⟨Nat.le_of_ble_eq_true rfl,Nat.le_of_ble_eq_true rfl⟩,p,lt,s,sw,rfl,h.self.mono (Kp.same S9r),h.tps.mono (Kp.same S9r),hw.len,?_⟩
   refine Ce (by rw [show boxM sw []=allM sw from rfl];simp) ?_
   have S8r:=S9.trans S9r
   refine ⟨p,kr,sw,rules,rfl,P8.mono (Kp.same S8r),U8.mono (Kp.same S8r),hw,hok,h8,fun Hs Ss=>?_⟩
   have S8s:=S8r.trans Ss
   exact ⟨p,l,r,kr,sw,rules,rfl,P8.mono (Kp.same S8s),W8.mono (Kp.same S8s),hw,R8.mono (Kp.same S8s),U8.mono (Kp.same S8s),fun x hx=>⟨hok x hx,X6 hw (hok x hx)⟩,h8,fun H'=>k H'⟩
end
end K05
namespace K05
open PySem L2
structure ad1 (K:PySem.W.Frag) (mg:Str -> Option Value) (t:Adr):Prop where
 g_zaj:DOk K mg "union_of" Jk t.f_zaj t.d_zaj M6
 g_zs:MOk K "many" "Panel.many" s_zs t.f_zs t.d_zs P_zs
 g_zc:MOk K "all_choices" "Panel.all_choices" s_zc t.f_zc t.d_zc P_zc
 g_zv:DOk K mg "has_length" s_zv t.f_zv t.d_zv P_zv
 g_zy:DOk K mg "is_letter" s_zy t.f_zy t.d_zy P_zy
 g_zak:DOk K mg "is_word" Jl t.f_zak t.d_zak M7
 g_zf:DOk K mg "are_unlike_words" s_zf t.f_zf t.d_zf P_zf
 g_zt:MOk K "term" "Panel.term" s_zt t.f_zt t.d_zt P_zt
 g_zx:MOk K "box" "Panel.box" s_zx t.f_zx t.d_zx P_zx
 g_zp:DOk K mg "copied_rule" s_zp t.f_zp t.d_zp P_zp
 g_zi:MOk K "read_rule" "Panel.read_rule" s_zi t.f_zi t.d_zi P_zi
 g_ze:MOk K "read_rules" "Panel.read_rules" s_ze t.f_ze t.d_ze P_ze
 g_zz:DOk K mg "is_switch" s_zz t.f_zz t.d_zz P_zz
 g_zl:DOk K mg "read_switches" s_zl t.f_zl t.d_zl P_zl
 g_zb:DOk K mg "settings_of_choices" s_zb t.f_zb t.d_zb P_zb
 g_za:DOk K mg "numbers_by_settings" s_za t.f_za t.d_za P_za
 g_zap:DOk K mg "set_of" Jq t.f_zap t.d_zap Nc
 g_zg:DOk K mg "sets_of_settings" s_zg t.f_zg t.d_zg P_zg
 F_zr:FunD K "__init__" "Panel.__init__" s_zr t.f_zr t.d_zr t.dv_zr
 b_zr:∀ j,j <= 1 -> Binds K t.d_zr P_zr (t.du_zr.drop j)
 w_zr:Vals [.non] t.du_zr
 if_zr:PySem.W.isFn K (.ref t.f_zr)=true
 g_zq:DOk K mg "_law_cell_at" s_zq t.f_zq t.d_zq P_zq
 g_zam:DOk K mg "_law_mix" Jn t.f_zam t.d_zam M9
 g_zad:DOk K mg "_law_words" Je t.f_zad t.d_zad M0
 g_zn:DOk K mg "_law_switches" s_zn t.f_zn t.d_zn P_zn
 g_zah:DOk K mg "_law_rows" Ji t.f_zah t.d_zah M4
 g_zag:DOk K mg "_law_hits" Jh t.f_zag t.d_zag M3
 g_zac:DOk K mg "_law_terms" Jd t.f_zac t.d_zac Mz
 g_zab:DOk K mg "_law_rules" Jc t.f_zab t.d_zab Mx
 g_zai:DOk K mg "_law_some" Jj t.f_zai t.d_zai M5
 g_zal:DOk K mg "_law_bad" Jm t.f_zal t.d_zal M8
 g_zaa:DOk K mg "_law_boxed" Jb t.f_zaa t.d_zaa Mw
 g_zan:DOk K mg "_law_set" Jo t.f_zan t.d_zan Na
 g_zw:DOk K mg "_law_copied" s_zw t.f_zw t.d_zw P_zw
 g_zo:MOk K "rules" "Panel.rules" s_zo t.f_zo t.d_zo P_zo
 g_zj:DOk K mg "_law_rules_stand" s_zj t.f_zj t.d_zj P_zj
 g_zh:MOk K "number_of" "Panel.number_of" s_zh t.f_zh t.d_zh P_zh
 g_zae:DOk K mg "is_whole" Jf t.f_zae t.d_zae M1
 g_zd:MOk K "need_number" "Panel.need_number" s_zd t.f_zd t.d_zd P_zd
 g_zu:MOk K "told" "Panel.told" s_zu t.f_zu t.d_zu P_zu
 g_zk:MOk K "allowed" "Panel.allowed" s_zk t.f_zk t.d_zk P_zk
 g_zao:DOk K mg "in_set" Jp t.f_zao t.d_zao Nb
 g_zm:MOk K "barred" "Panel.barred" s_zm t.f_zm t.d_zm P_zm
 g_zaf:DOk K mg "_law_bars" Jg t.f_zaf t.d_zaf M2
 F_zaq:FunD K "law" "law" C8 t.f_zaq t.d_zaq .none
 b_zaq:∀ j,j <= 0 -> Binds K t.d_zaq Nd (([]:List Value).drop j)
 w_zaq:Vals [] ([]:List Value)
 m_zaq:mg "law" = some (.ref t.f_zaq)
 at_zaw:mg "LeafError" = some (.ref t.c_zaw)
 kp_zaw:PySem.W.keepIn K (.ref t.c_zaw)=true
 ec_zaw:ECls K t.c_zaw
 in_zaw:PySem.W.findIn K (.ref t.c_zaw) "__init__" = some (some (.builtin "ValueError.__init__"))
 at_zax:mg "BadPanel" = some (.ref t.c_zax)
 kp_zax:PySem.W.keepIn K (.ref t.c_zax)=true
 ec_zax:ECls K t.c_zax
 in_zax:PySem.W.findIn K (.ref t.c_zax) "__init__" = some (some (.builtin "ValueError.__init__"))
 at_zay:mg "NoChoice" = some (.ref t.c_zay)
 kp_zay:PySem.W.keepIn K (.ref t.c_zay)=true
 ec_zay:ECls K t.c_zay
 in_zay:PySem.W.findIn K (.ref t.c_zay) "__init__" = some (some (.builtin "ValueError.__init__"))
 at_zaz:mg "BadCond" = some (.ref t.c_zaz)
 kp_zaz:PySem.W.keepIn K (.ref t.c_zaz)=true
 ec_zaz:ECls K t.c_zaz
 in_zaz:PySem.W.findIn K (.ref t.c_zaz) "__init__" = some (some (.builtin "ValueError.__init__"))
 at_zba:mg "Panel" = some (.ref t.c_zba)
 kp_zba:PySem.W.keepIn K (.ref t.c_zba)=true
 mk_zba:PySem.W.makesIn K t.c_zba=true
 in_zba:PySem.W.findIn K (.ref t.c_zba) "__init__" = some (some (.ref t.f_zr))
 cl_zba:Cls K t.c_zba
 mt_zc:Meth K t.c_zba "all_choices" t.f_zc
 mt_zk:Meth K t.c_zba "allowed" t.f_zk
 mt_zm:Meth K t.c_zba "barred" t.f_zm
 mt_zx:Meth K t.c_zba "box" t.f_zx
 mt_zs:Meth K t.c_zba "many" t.f_zs
 mt_zd:Meth K t.c_zba "need_number" t.f_zd
 mt_zh:Meth K t.c_zba "number_of" t.f_zh
 mt_zi:Meth K t.c_zba "read_rule" t.f_zi
 mt_ze:Meth K t.c_zba "read_rules" t.f_ze
 mt_zo:Meth K t.c_zba "rules" t.f_zo
 mt_zt:Meth K t.c_zba "term" t.f_zt
 mt_zu:Meth K t.c_zba "told" t.f_zu
 v_zat:mg "MOST_SWITCHES" = some t.u_zat
 r_zat:RelV (.int 5) t.u_zat
 v_zar:mg "LEAST_SETTINGS" = some t.u_zar
 r_zar:RelV (.int 2) t.u_zar
 v_zas:mg "MOST_SETTINGS" = some t.u_zas
 r_zas:RelV (.int 4) t.u_zas
 v_zau:mg "MOST_CHOICES" = some t.u_zau
 r_zau:RelV (.int 256) t.u_zau
 v_zav:mg "MOST_RULES" = some t.u_zav
 r_zav:RelV (.int 8) t.u_zav
 z:∀ x ∈ bl,mg x=none
 Z:Al K t
theorem ak3 {P:Program} {w:World} {K:PySem.W.Frag} {mg:Str -> Option Value} {base:Heap} {t:Adr} (A:ad1 K mg t):FnOk P w K mg base CX0 10 t.f_zaq t.d_zaq Nd (Mt K t):=by
 have T0:Tab P w K mg base 0 (gb_0 K t) bl:=((((((((((Tab.nil A.z).consV A.v_zav A.r_zav).consV A.v_zau A.r_zau).consV A.v_zas A.r_zas).consV A.v_zar A.r_zar).consV A.v_zat A.r_zat).consV (v:=.ref t.c_zba) A.at_zba rfl).consX (oi:=none) ⟨A.at_zaz,A.kp_zaz,A.ec_zaz,A.in_zaz⟩).consX (oi:=none) ⟨A.at_zay,A.kp_zay,A.ec_zay,A.in_zay⟩).consX (oi:=none) ⟨A.at_zax,A.kp_zax,A.ec_zax,A.in_zax⟩).consX (oi:=none) ⟨A.at_zaw,A.kp_zaw,A.ec_zaw,A.in_zaw⟩
 have T1:Tab P w K mg base 1 (gb_1 K t) bl:=((((((((((((((((((T0.mono (show 0 <= 1 by decide)).con (af2 K t) A.g_zao (al8 (t:=t) A.Z A.g_zao.F T0)).con (ae2 K t) A.g_zae (ak8 (t:=t) A.Z A.g_zae.F T0)).con (i_zw K t) A.g_zw (a17 (t:=t) A.Z A.g_zw.F T0)).con (ae9 K t) A.g_zal (al5 (t:=t) A.Z A.g_zal.F T0)).con (ae4 K t) A.g_zag (al0 (t:=t) A.Z A.g_zag.F T0)).con (ae5 K t) A.g_zah (al1 (t:=t) A.Z A.g_zah.F T0)).con (af0 K t) A.g_zam (al6 (t:=t) A.Z A.g_zam.F T0)).con (i_zq K t) A.g_zq (a11 (t:=t) A.Z A.g_zq.F T0)).con (af3 K t) A.g_zap (al9 (t:=t) A.Z A.g_zap.F T0)).con (i_za K t) A.g_za (az5 (t:=t) A.Z A.g_za.F T0)).con (i_zb K t) A.g_zb (az6 (t:=t) A.Z A.g_zb.F T0)).con (i_zp K t) A.g_zp (a10 (t:=t) A.Z A.g_zp.F T0)).con (i_zy K t) A.g_zy (a19 (t:=t) A.Z A.g_zy.F T0)).con (i_zv K t) A.g_zv (a16 (t:=t) A.Z A.g_zv.F T0)).con (ae7 K t) A.g_zaj (al3 (t:=t) A.Z A.g_zaj.F T0)).consM (m := "number_of") (l:=Bk K t) (one ⟨A.cl_zba,A.mt_zh,A.g_zh.fi (i_zh K t) (a02 (t:=t) A.Z A.g_zh.F T0)⟩)).consM (m := "many") (l:=Hk K t) (one ⟨A.cl_zba,A.mt_zs,A.g_zs.fi (i_zs K t) (a13 (t:=t) A.Z A.g_zs.F T0)⟩)).consM (m := "allowed") (l:=Ev K t) (one ⟨A.cl_zba,A.mt_zk,A.g_zk.fi (i_zk K t) (a05 (t:=t) A.Z A.g_zk.F T0)⟩)
 have T2:Tab P w K mg base 2 (gb_2 K t) bl:=((((((((T1.mono (show 1 <= 2 by decide)).con (af1 K t) A.g_zan (al7 (t:=t) A.Z A.g_zan.F T1)).con (ae0 K t) A.g_zac (ak6 (t:=t) A.Z A.g_zac.F T1)).con (ae1 K t) A.g_zad (ak7 (t:=t) A.Z A.g_zad.F T1)).con (i_zg K t) A.g_zg (a01 (t:=t) A.Z A.g_zg.F T1)).con (ae8 K t) A.g_zak (al4 (t:=t) A.Z A.g_zak.F T1)).consM (m := "rules") (l:=Fj K t) (one ⟨A.cl_zba,A.mt_zo,A.g_zo.fi (i_zo K t) (a09 (t:=t) A.Z A.g_zo.F T1)⟩)).consM (m := "need_number") (l:=Bz K t) (one ⟨A.cl_zba,A.mt_zd,A.g_zd.fi (i_zd K t) (az8 (t:=t) A.Z A.g_zd.F T1)⟩)).consM (m := "all_choices") (l:=Bh K t) (one ⟨A.cl_zba,A.mt_zc,A.g_zc.fi (i_zc K t) (az7 (t:=t) A.Z A.g_zc.F T1)⟩)
 have T3:Tab P w K mg base 3 (gb_3 K t) bl:=(((((((T2.mono (show 2 <= 3 by decide)).con (i_zj K t) A.g_zj (a04 (t:=t) A.Z A.g_zj.F T2)).con (ae6 K t) A.g_zai (al2 (t:=t) A.Z A.g_zai.F T2)).con (ad9 K t) A.g_zab (ak5 (t:=t) A.Z A.g_zab.F T2)).con (i_zn K t) A.g_zn (a08 (t:=t) A.Z A.g_zn.F T2)).con (i_zf K t) A.g_zf (a00 (t:=t) A.Z A.g_zf.F T2)).consM (m := "told") (l:=Hm K t) (one ⟨A.cl_zba,A.mt_zu,A.g_zu.fi (i_zu K t) (a15 (t:=t) A.Z A.g_zu.F T2)⟩)).consM (m := "barred") (l:=F0 K t) (one ⟨A.cl_zba,A.mt_zm,A.g_zm.fi (i_zm K t) (a07 (t:=t) A.Z A.g_zm.F T2)⟩)
 have T4:Tab P w K mg base 4 (gb_4 K t) bl:=(((T3.mono (show 3 <= 4 by decide)).con (ae3 K t) A.g_zaf (ak9 (t:=t) A.Z A.g_zaf.F T3)).con (i_zz K t) A.g_zz (a20 (t:=t) A.Z A.g_zz.F T3)).consM (m := "term") (l:=Hl K t) (one ⟨A.cl_zba,A.mt_zt,A.g_zt.fiE (i_zt K t) (a14 (t:=t) A.Z A.g_zt.F T3)⟩)
 have T5:Tab P w K mg base 5 (gb_5 K t) bl:=((T4.mono (show 4 <= 5 by decide)).con (i_zl K t) A.g_zl (a06 (t:=t) A.Z A.g_zl.F T4)).consM (m := "box") (l:=F7 K t) (one ⟨A.cl_zba,A.mt_zx,A.g_zx.fiE (i_zx K t) (a18 (t:=t) A.Z A.g_zx.F T4)⟩)
 have T6:Tab P w K mg base 6 (gb_6 K t) bl:=((T5.mono (show 5 <= 6 by decide)).con (ad8 K t) A.g_zaa (ak4 (t:=t) A.Z A.g_zaa.F T5)).consM (m := "read_rule") (l:=Di K t) (one ⟨A.cl_zba,A.mt_zi,A.g_zi.fi (i_zi K t) (a03 (t:=t) A.Z A.g_zi.F T5)⟩)
 have T7:Tab P w K mg base 7 (gb_7 K t) bl:=(T6.mono (show 6 <= 7 by decide)).consM (m := "read_rules") (l:=Cz K t) (one ⟨A.cl_zba,A.mt_ze,A.g_ze.fi (i_ze K t) (az9 (t:=t) A.Z A.g_ze.F T6)⟩)
 have T8:Tab P w K mg base 8 (gb_8 K t) bl:=T7.mono (show 7 <= 8 by decide)
 have T9:Tab P w K mg base 9 (gb_9 K t) bl:=(T8.mono (show 8 <= 9 by decide)).consC (oi:=some (i_zr K t)) ⟨A.at_zba,A.kp_zba,A.mk_zba,A.in_zba,A.if_zr,⟨A.F_zr.kp,⟨CX0,fun X' _ _=>Ir X',a12 (t:=t) A.Z A.F_zr T7⟩,Nat.le_succ 8,A.b_zr,A.w_zr⟩,Nat.le_refl 9⟩
 exact am0 (t:=t) A.Z A.F_zaq T9
theorem all_mk {l:PySem.W.OpenLaw} {w:World} {K:PySem.W.Frag} {h:Heap} {mg:Str -> Option Value} {fa f_zaj f_zs f_zc f_zv f_zy f_zak f_zf f_zt f_zx f_zp f_zi f_ze f_zz f_zl f_zb f_za f_zap f_zg f_zr f_zq f_zam f_zad f_zn f_zah f_zag f_zac f_zab f_zai f_zal f_zaa f_zan f_zw f_zo f_zj f_zh f_zae f_zd f_zu f_zk f_zao f_zm f_zaf f_zaq c_zaw c_zax c_zay c_zaz c_zba Td_zr:Addr} (X:K.In h) (G:h.Ns mainGlobals mg) (hfa:mg "law" = some (.ref fa))
  {od_zr an_zr od_zaq an_zaq td_zr:Option Addr} {sl_zr sl_zaq ts_zr:Array (Option Value)}
  {oc_zr kV_zr dc_zr pm_zr cd_zr ct_zr oc_zaq kV_zaq dc_zaq pm_zaq cd_zaq ct_zaq tc_zr:Value}
  {tn_zr:Nat}
  {u_zat u_zar u_zas u_zau u_zav:Value}
  (a_zaw:PySem.W.nsIn K mainGlobals "LeafError" = some (some (.ref c_zaw)))
  (a_zax:PySem.W.nsIn K mainGlobals "BadPanel" = some (some (.ref c_zax)))
  (a_zay:PySem.W.nsIn K mainGlobals "NoChoice" = some (some (.ref c_zay)))
  (a_zaz:PySem.W.nsIn K mainGlobals "BadCond" = some (some (.ref c_zaz)))
  (in_zaw:PySem.W.findIn K (.ref c_zaw) "__init__" = some (some (.builtin "ValueError.__init__")))
  (kp_zaw:PySem.W.keepIn K (.ref c_zaw)=true)
  (in_zax:PySem.W.findIn K (.ref c_zax) "__init__" = some (some (.builtin "ValueError.__init__")))
  (kp_zax:PySem.W.keepIn K (.ref c_zax)=true)
  (in_zay:PySem.W.findIn K (.ref c_zay) "__init__" = some (some (.builtin "ValueError.__init__")))
  (kp_zay:PySem.W.keepIn K (.ref c_zay)=true)
  (in_zaz:PySem.W.findIn K (.ref c_zaz) "__init__" = some (some (.builtin "ValueError.__init__")))
  (kp_zaz:PySem.W.keepIn K (.ref c_zaz)=true)
  (a_zba:PySem.W.nsIn K mainGlobals "Panel" = some (some (.ref c_zba)))
  (in_zba:PySem.W.findIn K (.ref c_zba) "__init__" = some (some (.ref f_zr)))
  (kp_zba:PySem.W.keepIn K (.ref c_zba)=true)
  (mk_zba:PySem.W.makesIn K c_zba=true)
  (pg_zba:PySem.W.plainGet K c_zba Str.empty=true)
  (hd_zba:PySem.W.hasDictIn K c_zba=true)
  (po_zba:PySem.W.plainOver K c_zba=true)
  (sa_zba:PySem.W.findIn K (.ref c_zba) "__setattr__" = some (some (.builtin "object.__setattr__")))
  (mt_zc:PySem.W.findIn K (.ref c_zba) "all_choices" = some (some (.ref f_zc)))
  (mt_zk:PySem.W.findIn K (.ref c_zba) "allowed" = some (some (.ref f_zk)))
  (mt_zm:PySem.W.findIn K (.ref c_zba) "barred" = some (some (.ref f_zm)))
  (mt_zx:PySem.W.findIn K (.ref c_zba) "box" = some (some (.ref f_zx)))
  (mt_zs:PySem.W.findIn K (.ref c_zba) "many" = some (some (.ref f_zs)))
  (mt_zd:PySem.W.findIn K (.ref c_zba) "need_number" = some (some (.ref f_zd)))
  (mt_zh:PySem.W.findIn K (.ref c_zba) "number_of" = some (some (.ref f_zh)))
  (mt_zi:PySem.W.findIn K (.ref c_zba) "read_rule" = some (some (.ref f_zi)))
  (mt_ze:PySem.W.findIn K (.ref c_zba) "read_rules" = some (some (.ref f_ze)))
  (mt_zo:PySem.W.findIn K (.ref c_zba) "rules" = some (some (.ref f_zo)))
  (mt_zt:PySem.W.findIn K (.ref c_zba) "term" = some (some (.ref f_zt)))
  (mt_zu:PySem.W.findIn K (.ref c_zba) "told" = some (some (.ref f_zu)))
  (q_zaj:TopD K "union_of" Jk f_zaj)
  (q_zs:MetD K "many" "Panel.many" s_zs f_zs)
  (q_zc:MetD K "all_choices" "Panel.all_choices" s_zc f_zc)
  (q_zv:TopD K "has_length" s_zv f_zv)
  (q_zy:TopD K "is_letter" s_zy f_zy)
  (q_zak:TopD K "is_word" Jl f_zak)
  (q_zf:TopD K "are_unlike_words" s_zf f_zf)
  (q_zt:MetD K "term" "Panel.term" s_zt f_zt)
  (q_zx:MetD K "box" "Panel.box" s_zx f_zx)
  (q_zp:TopD K "copied_rule" s_zp f_zp)
  (q_zi:MetD K "read_rule" "Panel.read_rule" s_zi f_zi)
  (q_ze:MetD K "read_rules" "Panel.read_rules" s_ze f_ze)
  (q_zz:TopD K "is_switch" s_zz f_zz)
  (q_zl:TopD K "read_switches" s_zl f_zl)
  (q_zb:TopD K "settings_of_choices" s_zb f_zb)
  (q_za:TopD K "numbers_by_settings" s_za f_za)
  (q_zap:TopD K "set_of" Jq f_zap)
  (q_zg:TopD K "sets_of_settings" s_zg f_zg)
  (l_zr:K.lookup f_zr=some ⟨oc_zr,od_zr,.func (PySem.W.fnOf "__init__" "Panel.__init__" (A9 s_zr) (Ag s_zr) (Aa s_zr) (.ref Td_zr) kV_zr dc_zr pm_zr an_zr cd_zr ct_zr),sl_zr⟩)
  (c_zr:PySem.W.codeIn K cd_zr "Panel.__init__" = true)
  (k_zr:PySem.W.keepIn K (.ref f_zr)=true)
  (if_zr:PySem.W.isFn K (.ref f_zr)=true)
  (ld_zr:K.lookup Td_zr=some ⟨tc_zr,td_zr,.seq #[.none] tn_zr,ts_zr⟩)
  (q_zq:TopD K "_law_cell_at" s_zq f_zq)
  (q_zam:TopD K "_law_mix" Jn f_zam)
  (q_zad:TopD K "_law_words" Je f_zad)
  (q_zn:TopD K "_law_switches" s_zn f_zn)
  (q_zah:TopD K "_law_rows" Ji f_zah)
  (q_zag:TopD K "_law_hits" Jh f_zag)
  (q_zac:TopD K "_law_terms" Jd f_zac)
  (q_zab:TopD K "_law_rules" Jc f_zab)
  (q_zai:TopD K "_law_some" Jj f_zai)
  (q_zal:TopD K "_law_bad" Jm f_zal)
  (q_zaa:TopD K "_law_boxed" Jb f_zaa)
  (q_zan:TopD K "_law_set" Jo f_zan)
  (q_zw:TopD K "_law_copied" s_zw f_zw)
  (q_zo:MetD K "rules" "Panel.rules" s_zo f_zo)
  (q_zj:TopD K "_law_rules_stand" s_zj f_zj)
  (q_zh:MetD K "number_of" "Panel.number_of" s_zh f_zh)
  (q_zae:TopD K "is_whole" Jf f_zae)
  (q_zd:MetD K "need_number" "Panel.need_number" s_zd f_zd)
  (q_zu:MetD K "told" "Panel.told" s_zu f_zu)
  (q_zk:MetD K "allowed" "Panel.allowed" s_zk f_zk)
  (q_zao:TopD K "in_set" Jp f_zao)
  (q_zm:MetD K "barred" "Panel.barred" s_zm f_zm)
  (q_zaf:TopD K "_law_bars" Jg f_zaf)
  (a_zaq:PySem.W.nsIn K mainGlobals "law" = some (some (.ref f_zaq)))
  (l_zaq:K.lookup f_zaq=some ⟨oc_zaq,od_zaq,.func (PySem.W.fnOf "law" "law" (A9 C8) (Ag C8) (Aa C8) .none kV_zaq dc_zaq pm_zaq an_zaq cd_zaq ct_zaq),sl_zaq⟩)
  (c_zaq:PySem.W.codeIn K cd_zaq "law" = true)
  (k_zaq:PySem.W.keepIn K (.ref f_zaq)=true)
  (x_zaw:XC K c_zaw (valTail))
  (x_zax:XC K c_zax (.ref c_zaw :: valTail))
  (x_zay:XC K c_zay (.ref c_zaw :: valTail))
  (x_zaz:XC K c_zaz (.ref c_zaw :: valTail))
  (v_zat:PySem.W.nsIn K mainGlobals "MOST_SWITCHES" = some (some u_zat))
  (r_zat:RelV (.int 5) u_zat)
  (v_zar:PySem.W.nsIn K mainGlobals "LEAST_SETTINGS" = some (some u_zar))
  (r_zar:RelV (.int 2) u_zar)
  (v_zas:PySem.W.nsIn K mainGlobals "MOST_SETTINGS" = some (some u_zas))
  (r_zas:RelV (.int 4) u_zas)
  (v_zau:PySem.W.nsIn K mainGlobals "MOST_CHOICES" = some (some u_zau))
  (r_zau:RelV (.int 256) u_zau)
  (v_zav:PySem.W.nsIn K mainGlobals "MOST_RULES" = some (some u_zav))
  (r_zav:RelV (.int 8) u_zav)
  (z_all:PySem.W.nsIn K mainGlobals "all" = some none)
  (z_bool:PySem.W.nsIn K mainGlobals "bool" = some none)
  (z_dict:PySem.W.nsIn K mainGlobals "dict" = some none)
  (z_enumerate:PySem.W.nsIn K mainGlobals "enumerate" = some none)
  (z_int:PySem.W.nsIn K mainGlobals "int" = some none)
  (z_isinstance:PySem.W.nsIn K mainGlobals "isinstance" = some none)
  (z_len:PySem.W.nsIn K mainGlobals "len" = some none)
  (z_list:PySem.W.nsIn K mainGlobals "list" = some none)
  (z_range:PySem.W.nsIn K mainGlobals "range" = some none)
  (z_set:PySem.W.nsIn K mainGlobals "set" = some none)
  (z_str:PySem.W.nsIn K mainGlobals "str" = some none)
  (z_tuple:PySem.W.nsIn K mainGlobals "tuple" = some none)
  (na_settings:PySem.W.findIn K (.ref c_zba) "settings" = some none)
  (na_tuples:PySem.W.findIn K (.ref c_zba) "tuples" = some none)
  (na_numbers:PySem.W.findIn K (.ref c_zba) "numbers" = some none)
  (na_sets:PySem.W.findIn K (.ref c_zba) "sets" = some none)
  (na_kept_rules:PySem.W.findIn K (.ref c_zba) "kept_rules" = some none)
  (na_bars:PySem.W.findIn K (.ref c_zba) "bars" = some none)
  (na_free:PySem.W.findIn K (.ref c_zba) "free" = some none)
  (mr_zay:PySem.W.mroIn K c_zay (.ref c_zay)=some true)
  (mr_zaz:PySem.W.mroIn K c_zaz (.ref c_zaz)=some true)
  : ∃ (t:Adr) (fd:FuncData),(∀ (s:Shared) (v:Value),BindsTo s fd ⟨[v],[]⟩ [("_law_script", v)]) /\ ∀ base:Heap,K.In base -> base.Ns mainGlobals mg -> FnOk l.prog w K mg base CX0 10 fa fd ["_law_script"] (Mt K t):=by
 obtain ⟨d_zaj,g_zaj⟩:=q_zaj.ok X G (ps:=M6) fun _ _ _ _ _ _ us hl=>match us,hl with | [_],_=>rfl
 obtain ⟨d_zs,g_zs⟩:=q_zs.ok (ps:=P_zs) fun _ _ _ _ _ _ us hl=>match us,hl with | [_],_=>rfl
 obtain ⟨d_zc,g_zc⟩:=q_zc.ok (ps:=P_zc) fun _ _ _ _ _ _ us hl=>match us,hl with | [_],_=>rfl
 obtain ⟨d_zv,g_zv⟩:=q_zv.ok X G (ps:=P_zv) fun _ _ _ _ _ _ us hl=>match us,hl with | [_,_,_],_=>rfl
 obtain ⟨d_zy,g_zy⟩:=q_zy.ok X G (ps:=P_zy) fun _ _ _ _ _ _ us hl=>match us,hl with | [_],_=>rfl
 obtain ⟨d_zak,g_zak⟩:=q_zak.ok X G (ps:=M7) fun _ _ _ _ _ _ us hl=>match us,hl with | [_],_=>rfl
 obtain ⟨d_zf,g_zf⟩:=q_zf.ok X G (ps:=P_zf) fun _ _ _ _ _ _ us hl=>match us,hl with | [_],_=>rfl
 obtain ⟨d_zt,g_zt⟩:=q_zt.ok (ps:=P_zt) fun _ _ _ _ _ _ us hl=>match us,hl with | [_,_,_],_=>rfl
 obtain ⟨d_zx,g_zx⟩:=q_zx.ok (ps:=P_zx) fun _ _ _ _ _ _ us hl=>match us,hl with | [_,_],_=>rfl
 obtain ⟨d_zp,g_zp⟩:=q_zp.ok X G (ps:=P_zp) fun _ _ _ _ _ _ us hl=>match us,hl with | [_],_=>rfl
 obtain ⟨d_zi,g_zi⟩:=q_zi.ok (ps:=P_zi) fun _ _ _ _ _ _ us hl=>match us,hl with | [_,_],_=>rfl
 obtain ⟨d_ze,g_ze⟩:=q_ze.ok (ps:=P_ze) fun _ _ _ _ _ _ us hl=>match us,hl with | [_,_],_=>rfl
 obtain ⟨d_zz,g_zz⟩:=q_zz.ok X G (ps:=P_zz) fun _ _ _ _ _ _ us hl=>match us,hl with | [_],_=>rfl
 obtain ⟨d_zl,g_zl⟩:=q_zl.ok X G (ps:=P_zl) fun _ _ _ _ _ _ us hl=>match us,hl with | [_],_=>rfl
 obtain ⟨d_zb,g_zb⟩:=q_zb.ok X G (ps:=P_zb) fun _ _ _ _ _ _ us hl=>match us,hl with | [_],_=>rfl
 obtain ⟨d_za,g_za⟩:=q_za.ok X G (ps:=P_za) fun _ _ _ _ _ _ us hl=>match us,hl with | [_],_=>rfl
 obtain ⟨d_zap,g_zap⟩:=q_zap.ok X G (ps:=Nc) fun _ _ _ _ _ _ us hl=>match us,hl with | [_],_=>rfl
 obtain ⟨d_zg,g_zg⟩:=q_zg.ok X G (ps:=P_zg) fun _ _ _ _ _ _ us hl=>match us,hl with | [_,_],_=>rfl
 have F_zr:=Zf (st:=s_zr) l_zr c_zr k_zr
 have b_zr:∀ j,j <= 1 -> Binds K (PySem.W.fnOf "__init__" "Panel.__init__" (A9 s_zr) (Ag s_zr) (Aa s_zr) (.ref Td_zr) kV_zr dc_zr pm_zr an_zr cd_zr ct_zr) P_zr ([Value.none].drop j):=fun j hj=>by
  match j,hj with
  | 0,_=>exact Gi 2 rfl ld_zr rfl rfl (fun us hl=>match us,hl with | [_,_],_=>⟨_,rfl,rfl⟩)
  | 1,_=>exact Gi 3 rfl ld_zr rfl rfl (fun us hl=>match us,hl with | [_,_,_],_=>⟨_,rfl,rfl⟩)
 obtain ⟨d_zq,g_zq⟩:=q_zq.ok X G (ps:=P_zq) fun _ _ _ _ _ _ us hl=>match us,hl with | [_,_],_=>rfl
 obtain ⟨d_zam,g_zam⟩:=q_zam.ok X G (ps:=M9) fun _ _ _ _ _ _ us hl=>match us,hl with | [_,_],_=>rfl
 obtain ⟨d_zad,g_zad⟩:=q_zad.ok X G (ps:=M0) fun _ _ _ _ _ _ us hl=>match us,hl with | [_,_],_=>rfl
 obtain ⟨d_zn,g_zn⟩:=q_zn.ok X G (ps:=P_zn) fun _ _ _ _ _ _ us hl=>match us,hl with | [_,_],_=>rfl
 obtain ⟨d_zah,g_zah⟩:=q_zah.ok X G (ps:=M4) fun _ _ _ _ _ _ us hl=>match us,hl with | [_],_=>rfl
 obtain ⟨d_zag,g_zag⟩:=q_zag.ok X G (ps:=M3) fun _ _ _ _ _ _ us hl=>match us,hl with | [_,_,_],_=>rfl
 obtain ⟨d_zac,g_zac⟩:=q_zac.ok X G (ps:=Mz) fun _ _ _ _ _ _ us hl=>match us,hl with | [_,_],_=>rfl
 obtain ⟨d_zab,g_zab⟩:=q_zab.ok X G (ps:=Mx) fun _ _ _ _ _ _ us hl=>match us,hl with | [_,_],_=>rfl
 obtain ⟨d_zai,g_zai⟩:=q_zai.ok X G (ps:=M5) fun _ _ _ _ _ _ us hl=>match us,hl with | [_,_],_=>rfl
 obtain ⟨d_zal,g_zal⟩:=q_zal.ok X G (ps:=M8) fun _ _ _ _ _ _ us hl=>match us,hl with | [_,_],_=>rfl
 obtain ⟨d_zaa,g_zaa⟩:=q_zaa.ok X G (ps:=Mw) fun _ _ _ _ _ _ us hl=>match us,hl with | [_,_],_=>rfl
 obtain ⟨d_zan,g_zan⟩:=q_zan.ok X G (ps:=Na) fun _ _ _ _ _ _ us hl=>match us,hl with | [_,_,_],_=>rfl
 obtain ⟨d_zw,g_zw⟩:=q_zw.ok X G (ps:=P_zw) fun _ _ _ _ _ _ us hl=>match us,hl with | [_],_=>rfl
 obtain ⟨d_zo,g_zo⟩:=q_zo.ok (ps:=P_zo) fun _ _ _ _ _ _ us hl=>match us,hl with | [_],_=>rfl
 obtain ⟨d_zj,g_zj⟩:=q_zj.ok X G (ps:=P_zj) fun _ _ _ _ _ _ us hl=>match us,hl with | [_,_],_=>rfl
 obtain ⟨d_zh,g_zh⟩:=q_zh.ok (ps:=P_zh) fun _ _ _ _ _ _ us hl=>match us,hl with | [_,_],_=>rfl
 obtain ⟨d_zae,g_zae⟩:=q_zae.ok X G (ps:=M1) fun _ _ _ _ _ _ us hl=>match us,hl with | [_],_=>rfl
 obtain ⟨d_zd,g_zd⟩:=q_zd.ok (ps:=P_zd) fun _ _ _ _ _ _ us hl=>match us,hl with | [_,_],_=>rfl
 obtain ⟨d_zu,g_zu⟩:=q_zu.ok (ps:=P_zu) fun _ _ _ _ _ _ us hl=>match us,hl with | [_,_],_=>rfl
 obtain ⟨d_zk,g_zk⟩:=q_zk.ok (ps:=P_zk) fun _ _ _ _ _ _ us hl=>match us,hl with | [_],_=>rfl
 obtain ⟨d_zao,g_zao⟩:=q_zao.ok X G (ps:=Nb) fun _ _ _ _ _ _ us hl=>match us,hl with | [_,_],_=>rfl
 obtain ⟨d_zm,g_zm⟩:=q_zm.ok (ps:=P_zm) fun _ _ _ _ _ _ us hl=>match us,hl with | [_,_],_=>rfl
 obtain ⟨d_zaf,g_zaf⟩:=q_zaf.ok X G (ps:=M2) fun _ _ _ _ _ _ us hl=>match us,hl with | [_,_,_,_],_=>rfl
 have F_zaq:=Pj (st:=C8) l_zaq c_zaq k_zaq
 have b_zaq:=F_zaq.binds (ps:=Nd) fun _ _ _ _ _ _ us hl=>match us,hl with | [_],_=>rfl
 have m:=PySem.W.mg_of X G a_zaq
 have e:fa=f_zaq:=by
  rw [hfa] at m
  injection m with m
  injection m
 subst e
 have tl_1:∀ {a:Addr},Aw (.ref a :: valTail)=true:=fun {a}=>by show Aw valTail=true;decide +kernel
 have AO:ad1 K mg ⟨f_zaj,d_zaj,f_zs,d_zs,f_zc,d_zc,f_zv,d_zv,f_zy,d_zy,f_zak,d_zak,f_zf,d_zf,f_zt,d_zt,f_zx,d_zx,f_zp,d_zp,f_zi,d_zi,f_ze,d_ze,f_zz,d_zz,f_zl,d_zl,f_zb,d_zb,f_za,d_za,f_zap,d_zap,f_zg,d_zg,f_zr,_,f_zq,d_zq,f_zam,d_zam,f_zad,d_zad,f_zn,d_zn,f_zah,d_zah,f_zag,d_zag,f_zac,d_zac,f_zab,d_zab,f_zai,d_zai,f_zal,d_zal,f_zaa,d_zaa,f_zan,d_zan,f_zw,d_zw,f_zo,d_zo,f_zj,d_zj,f_zh,d_zh,f_zae,d_zae,f_zd,d_zd,f_zu,d_zu,f_zk,d_zk,f_zao,d_zao,f_zm,d_zm,f_zaf,d_zaf,fa,_,.ref Td_zr,[Value.none],c_zaw,c_zax,c_zay,c_zaz,c_zba,u_zat,u_zar,u_zas,u_zau,u_zav⟩:=⟨g_zaj,g_zs,g_zc,g_zv,g_zy,g_zak,g_zf,g_zt,g_zx,g_zp,g_zi,g_ze,g_zz,g_zl,g_zb,g_za,g_zap,g_zg,F_zr,b_zr,(.cons rfl .nil),if_zr,g_zq,g_zam,g_zad,g_zn,g_zah,g_zag,g_zac,g_zab,g_zai,g_zal,g_zaa,g_zan,g_zw,g_zo,g_zj,g_zh,g_zae,g_zd,g_zu,g_zk,g_zao,g_zm,g_zaf,F_zaq.toD,(fun j _=>by rw [List.drop_nil];exact b_zaq),.nil,PySem.W.mg_of X G a_zaq,PySem.W.mg_of X G a_zaw,kp_zaw,x_zaw.ecls (by decide +kernel),in_zaw,PySem.W.mg_of X G a_zax,kp_zax,x_zax.ecls tl_1,in_zax,PySem.W.mg_of X G a_zay,kp_zay,x_zay.ecls tl_1,in_zay,PySem.W.mg_of X G a_zaz,kp_zaz,x_zaz.ecls tl_1,in_zaz,PySem.W.mg_of X G a_zba,kp_zba,mk_zba,in_zba,⟨pg_zba,hd_zba,po_zba,sa_zba⟩,⟨mt_zc,g_zc.i,g_zc.F.kp⟩,⟨mt_zk,g_zk.i,g_zk.F.kp⟩,⟨mt_zm,g_zm.i,g_zm.F.kp⟩,⟨mt_zx,g_zx.i,g_zx.F.kp⟩,⟨mt_zs,g_zs.i,g_zs.F.kp⟩,⟨mt_zd,g_zd.i,g_zd.F.kp⟩,⟨mt_zh,g_zh.i,g_zh.F.kp⟩,⟨mt_zi,g_zi.i,g_zi.F.kp⟩,⟨mt_ze,g_ze.i,g_ze.F.kp⟩,⟨mt_zo,g_zo.i,g_zo.F.kp⟩,⟨mt_zt,g_zt.i,g_zt.F.kp⟩,⟨mt_zu,g_zu.i,g_zu.F.kp⟩,PySem.W.mg_of X G v_zat,r_zat,PySem.W.mg_of X G v_zar,r_zar,PySem.W.mg_of X G v_zas,r_zas,PySem.W.mg_of X G v_zau,r_zau,PySem.W.mg_of X G v_zav,r_zav,(fun x hx=>by
   simp only [bl,List.mem_cons,List.not_mem_nil,or_false] at hx
   rcases hx with rfl | rfl | rfl | rfl | rfl | rfl | rfl | rfl | rfl | rfl | rfl | rfl
   all_goals exact PySem.W.mg_none_of X G (by assumption)),⟨⟨⟨pg_zba,hd_zba,po_zba,sa_zba⟩,(fun f hf=>by
  simp only [List.mem_cons,List.not_mem_nil,or_false] at hf
  rcases hf with rfl | rfl | rfl | rfl | rfl | rfl | rfl
  ·exact na_settings
  ·exact na_tuples
  ·exact na_numbers
  ·exact na_sets
  ·exact na_kept_rules
  ·exact na_bars
  ·exact na_free),x_zay.ecls tl_1,mr_zay⟩,x_zaz.ecls tl_1,mr_zaz⟩⟩
 exact ⟨_,PySem.W.fnOf "law" "law" (A9 C8) (Ag C8) (Aa C8) .none kV_zaq dc_zaq pm_zaq an_zaq cd_zaq ct_zaq,fun s v=>.of_eq rfl,fun base _ _=>ak3 AO⟩
def sp0 (K:PySem.W.Frag):Sp:=fun vs H Q _=>∃ (a:Addr) (ns:List Int),vs=[.ref a] /\ SqL K H a (ns.map V.int) /\ ns.length <= 63 /\ ∀ H',Q (.bl true) H'
theorem walk {l:PySem.W.OpenLaw} {q:Program} {loose:List Str} {XP:(Str -> Option Value) -> Heap -> Prop} {YP:World -> Heap -> Prop} {d:DefRec} {K:Params -> PySem.W.Frag} (hn:l.most=some 63) (hdf:d.params.defaults=[])
  (hY:∀ (w:World) (h:Heap),YP w h -> (K w.params).In h)
  (F:∀ (w:World) (mg:Str -> Option Value) (fa:Addr) (h:Heap),(K w.params).In h -> h.Ns mainGlobals mg -> mg d.name=some (.ref fa) ->
   ∃ (t:Adr) (fd:FuncData),(∀ (s:Shared) (u:Value),BindsTo s fd ⟨[u],[]⟩ [("_law_script", u)]) /\ ∀ base:Heap,(K w.params).In base -> base.Ns mainGlobals mg -> FnOk l.prog w (K w.params) mg base CX0 10 fa fd ["_law_script"] (Mt (K w.params) t)) :
  PySem.W.WalkO q loose XP YP l.row.toRowW d [] (fun f vs=>PySem.call f vs):=
 L2.walk_of (n:=63) (k:=10) (x := "_law_script") (CX:=fun _=>CX0) (sp:=fun w=>sp0 (K w.params)) hn (by decide) hdf ⟨rfl,by decide,by decide⟩ hY (fun w mg fa h a b c=>let ⟨t,fd,h1,h2⟩:=F w mg fa h a b c;⟨fd,h1,fun base x y=>(h2 base x y).imp fun vs H Q E ⟨a,ns,e,hS,_,k⟩=>⟨a,ns,e,hS,k⟩⟩) (fun _ _ a ns hl _ hS=>⟨a,ns,rfl,hS,hl,fun _=>rfl⟩) fun _ _ _ _ _ z=>z
end K05
open PySem PySem.W PyProof.Rows
set_option maxRecDepth 100000 in
set_option maxHeartbeats 0 in
theorem PySem.Challenge.cw_manyleaf_k05_boxes_and_rules_holds : PySem.Challenge.rw_manyleaf_k05_boxes_and_rules.Holds := by
 refine head_k05 ?_
 k_fill
 refine K05.walk (l:=PySem.Challenge.rw_manyleaf_k05_boxes_and_rules) rfl rfl (fun w h Y=>PySem.W.kIn_of Y) ?F
 case F=>
  intro w mg fa h KX G hmg
  refine' K05.all_mk KX G hmg ?a_zaw ?a_zax ?a_zay ?a_zaz ?in_zaw ?kp_zaw ?in_zax ?kp_zax ?in_zay ?kp_zay ?in_zaz ?kp_zaz ?a_zba ?in_zba ?kp_zba ?mk_zba ?pg_zba ?hd_zba ?po_zba ?sa_zba ?mt_zc ?mt_zk ?mt_zm ?mt_zx ?mt_zs ?mt_zd ?mt_zh ?mt_zi ?mt_ze ?mt_zo ?mt_zt ?mt_zu ?q_zaj ?q_zs ?q_zc ?q_zv ?q_zy ?q_zak ?q_zf ?q_zt ?q_zx ?q_zp ?q_zi ?q_ze ?q_zz ?q_zl ?q_zb ?q_za ?q_zap ?q_zg ?l_zr ?c_zr ?k_zr ?if_zr ?ld_zr ?q_zq ?q_zam ?q_zad ?q_zn ?q_zah ?q_zag ?q_zac ?q_zab ?q_zai ?q_zal ?q_zaa ?q_zan ?q_zw ?q_zo ?q_zj ?q_zh ?q_zae ?q_zd ?q_zu ?q_zk ?q_zao ?q_zm ?q_zaf ?a_zaq ?l_zaq ?c_zaq ?k_zaq ?x_zaw ?x_zax ?x_zay ?x_zaz ?v_zat ?r_zat ?v_zar ?r_zar ?v_zas ?r_zas ?v_zau ?r_zau ?v_zav ?r_zav ?z_all ?z_bool ?z_dict ?z_enumerate ?z_int ?z_isinstance ?z_len ?z_list ?z_range ?z_set ?z_str ?z_tuple ?na_settings ?na_tuples ?na_numbers ?na_sets ?na_kept_rules ?na_bars ?na_free ?mr_zay ?mr_zaz
  (case a_zaw=>k_is)
  (case a_zax=>k_is)
  (case a_zay=>k_is)
  (case a_zaz=>k_is)
  (case in_zaw=>k_is)
  (case kp_zaw=>k_is)
  (case in_zax=>k_is)
  (case kp_zax=>k_is)
  (case in_zay=>k_is)
  (case kp_zay=>k_is)
  (case in_zaz=>k_is)
  (case kp_zaz=>k_is)
  (case a_zba=>k_is)
  (case in_zba=>k_is)
  (case kp_zba=>k_is)
  (case mk_zba=>k_is)
  (case pg_zba=>k_is)
  (case hd_zba=>k_is)
  (case po_zba=>k_is)
  (case sa_zba=>k_is)
  (case mt_zc=>k_is)
  (case mt_zk=>k_is)
  (case mt_zm=>k_is)
  (case mt_zx=>k_is)
  (case mt_zs=>k_is)
  (case mt_zd=>k_is)
  (case mt_zh=>k_is)
  (case mt_zi=>k_is)
  (case mt_ze=>k_is)
  (case mt_zo=>k_is)
  (case mt_zt=>k_is)
  (case mt_zu=>k_is)
  (case q_zaj=>refine' L2.top_mk ?a ?l ?c ?k;(case a=>k_is);(case l=>k_is);(case c=>k_is);(case k=>k_is))
  (case q_zs=>refine' L2.met_mk ?l ?c ?k ?i;(case l=>k_is);(case c=>k_is);(case k=>k_is);(case i=>k_is))
  (case q_zc=>refine' L2.met_mk ?l ?c ?k ?i;(case l=>k_is);(case c=>k_is);(case k=>k_is);(case i=>k_is))
  (case q_zv=>refine' L2.top_mk ?a ?l ?c ?k;(case a=>k_is);(case l=>k_is);(case c=>k_is);(case k=>k_is))
  (case q_zy=>refine' L2.top_mk ?a ?l ?c ?k;(case a=>k_is);(case l=>k_is);(case c=>k_is);(case k=>k_is))
  (case q_zak=>refine' L2.top_mk ?a ?l ?c ?k;(case a=>k_is);(case l=>k_is);(case c=>k_is);(case k=>k_is))
  (case q_zf=>refine' L2.top_mk ?a ?l ?c ?k;(case a=>k_is);(case l=>k_is);(case c=>k_is);(case k=>k_is))
  (case q_zt=>refine' L2.met_mk ?l ?c ?k ?i;(case l=>k_is);(case c=>k_is);(case k=>k_is);(case i=>k_is))
  (case q_zx=>refine' L2.met_mk ?l ?c ?k ?i;(case l=>k_is);(case c=>k_is);(case k=>k_is);(case i=>k_is))
  (case q_zp=>refine' L2.top_mk ?a ?l ?c ?k;(case a=>k_is);(case l=>k_is);(case c=>k_is);(case k=>k_is))
  (case q_zi=>refine' L2.met_mk ?l ?c ?k ?i;(case l=>k_is);(case c=>k_is);(case k=>k_is);(case i=>k_is))
  (case q_ze=>refine' L2.met_mk ?l ?c ?k ?i;(case l=>k_is);(case c=>k_is);(case k=>k_is);(case i=>k_is))
  (case q_zz=>refine' L2.top_mk ?a ?l ?c ?k;(case a=>k_is);(case l=>k_is);(case c=>k_is);(case k=>k_is))
  (case q_zl=>refine' L2.top_mk ?a ?l ?c ?k;(case a=>k_is);(case l=>k_is);(case c=>k_is);(case k=>k_is))
  (case q_zb=>refine' L2.top_mk ?a ?l ?c ?k;(case a=>k_is);(case l=>k_is);(case c=>k_is);(case k=>k_is))
  (case q_za=>refine' L2.top_mk ?a ?l ?c ?k;(case a=>k_is);(case l=>k_is);(case c=>k_is);(case k=>k_is))
  (case q_zap=>refine' L2.top_mk ?a ?l ?c ?k;(case a=>k_is);(case l=>k_is);(case c=>k_is);(case k=>k_is))
  (case q_zg=>refine' L2.top_mk ?a ?l ?c ?k;(case a=>k_is);(case l=>k_is);(case c=>k_is);(case k=>k_is))
  (case l_zr=>k_is)
  (case c_zr=>k_is)
  (case k_zr=>k_is)
  (case if_zr=>k_is)
  (case ld_zr=>k_is)
  (case q_zq=>refine' L2.top_mk ?a ?l ?c ?k;(case a=>k_is);(case l=>k_is);(case c=>k_is);(case k=>k_is))
  (case q_zam=>refine' L2.top_mk ?a ?l ?c ?k;(case a=>k_is);(case l=>k_is);(case c=>k_is);(case k=>k_is))
  (case q_zad=>refine' L2.top_mk ?a ?l ?c ?k;(case a=>k_is);(case l=>k_is);(case c=>k_is);(case k=>k_is))
  (case q_zn=>refine' L2.top_mk ?a ?l ?c ?k;(case a=>k_is);(case l=>k_is);(case c=>k_is);(case k=>k_is))
  (case q_zah=>refine' L2.top_mk ?a ?l ?c ?k;(case a=>k_is);(case l=>k_is);(case c=>k_is);(case k=>k_is))
  (case q_zag=>refine' L2.top_mk ?a ?l ?c ?k;(case a=>k_is);(case l=>k_is);(case c=>k_is);(case k=>k_is))
  (case q_zac=>refine' L2.top_mk ?a ?l ?c ?k;(case a=>k_is);(case l=>k_is);(case c=>k_is);(case k=>k_is))
  (case q_zab=>refine' L2.top_mk ?a ?l ?c ?k;(case a=>k_is);(case l=>k_is);(case c=>k_is);(case k=>k_is))
  (case q_zai=>refine' L2.top_mk ?a ?l ?c ?k;(case a=>k_is);(case l=>k_is);(case c=>k_is);(case k=>k_is))
  (case q_zal=>refine' L2.top_mk ?a ?l ?c ?k;(case a=>k_is);(case l=>k_is);(case c=>k_is);(case k=>k_is))
  (case q_zaa=>refine' L2.top_mk ?a ?l ?c ?k;(case a=>k_is);(case l=>k_is);(case c=>k_is);(case k=>k_is))
  (case q_zan=>refine' L2.top_mk ?a ?l ?c ?k;(case a=>k_is);(case l=>k_is);(case c=>k_is);(case k=>k_is))
  (case q_zw=>refine' L2.top_mk ?a ?l ?c ?k;(case a=>k_is);(case l=>k_is);(case c=>k_is);(case k=>k_is))
  (case q_zo=>refine' L2.met_mk ?l ?c ?k ?i;(case l=>k_is);(case c=>k_is);(case k=>k_is);(case i=>k_is))
  (case q_zj=>refine' L2.top_mk ?a ?l ?c ?k;(case a=>k_is);(case l=>k_is);(case c=>k_is);(case k=>k_is))
  (case q_zh=>refine' L2.met_mk ?l ?c ?k ?i;(case l=>k_is);(case c=>k_is);(case k=>k_is);(case i=>k_is))
  (case q_zae=>refine' L2.top_mk ?a ?l ?c ?k;(case a=>k_is);(case l=>k_is);(case c=>k_is);(case k=>k_is))
  (case q_zd=>refine' L2.met_mk ?l ?c ?k ?i;(case l=>k_is);(case c=>k_is);(case k=>k_is);(case i=>k_is))
  (case q_zu=>refine' L2.met_mk ?l ?c ?k ?i;(case l=>k_is);(case c=>k_is);(case k=>k_is);(case i=>k_is))
  (case q_zk=>refine' L2.met_mk ?l ?c ?k ?i;(case l=>k_is);(case c=>k_is);(case k=>k_is);(case i=>k_is))
  (case q_zao=>refine' L2.top_mk ?a ?l ?c ?k;(case a=>k_is);(case l=>k_is);(case c=>k_is);(case k=>k_is))
  (case q_zm=>refine' L2.met_mk ?l ?c ?k ?i;(case l=>k_is);(case c=>k_is);(case k=>k_is);(case i=>k_is))
  (case q_zaf=>refine' L2.top_mk ?a ?l ?c ?k;(case a=>k_is);(case l=>k_is);(case c=>k_is);(case k=>k_is))
  (case a_zaq=>k_is)
  (case l_zaq=>k_is)
  (case c_zaq=>k_is)
  (case k_zaq=>k_is)
  (case x_zaw=>(refine' L2.xc_mk ?l ?y ?s ?g ?t ?c ?n ?k;(case l=>k_is);(case y=>k_is);(case s=>k_is);(case g=>k_is);(case t=>k_is);(case c=>k_is);(case n=>k_is);(case k=>k_is)))
  (case x_zax=>(refine' L2.xc_mk ?l ?y ?s ?g ?t ?c ?n ?k;(case l=>k_is);(case y=>k_is);(case s=>k_is);(case g=>k_is);(case t=>k_is);(case c=>k_is);(case n=>k_is);(case k=>k_is)))
  (case x_zay=>(refine' L2.xc_mk ?l ?y ?s ?g ?t ?c ?n ?k;(case l=>k_is);(case y=>k_is);(case s=>k_is);(case g=>k_is);(case t=>k_is);(case c=>k_is);(case n=>k_is);(case k=>k_is)))
  (case x_zaz=>(refine' L2.xc_mk ?l ?y ?s ?g ?t ?c ?n ?k;(case l=>k_is);(case y=>k_is);(case s=>k_is);(case g=>k_is);(case t=>k_is);(case c=>k_is);(case n=>k_is);(case k=>k_is)))
  (case v_zat=>k_is)
  (case r_zat=>exact ⟨_,rfl⟩)
  (case v_zar=>k_is)
  (case r_zar=>exact ⟨_,rfl⟩)
  (case v_zas=>k_is)
  (case r_zas=>exact ⟨_,rfl⟩)
  (case v_zau=>k_is)
  (case r_zau=>exact ⟨_,rfl⟩)
  (case v_zav=>k_is)
  (case r_zav=>exact ⟨_,rfl⟩)
  (case z_all=>k_is)
  (case z_bool=>k_is)
  (case z_dict=>k_is)
  (case z_enumerate=>k_is)
  (case z_int=>k_is)
  (case z_isinstance=>k_is)
  (case z_len=>k_is)
  (case z_list=>k_is)
  (case z_range=>k_is)
  (case z_set=>k_is)
  (case z_str=>k_is)
  (case z_tuple=>k_is)
  (case na_settings=>k_is)
  (case na_tuples=>k_is)
  (case na_numbers=>k_is)
  (case na_sets=>k_is)
  (case na_kept_rules=>k_is)
  (case na_bars=>k_is)
  (case na_free=>k_is)
  (case mr_zay=>k_is)
  (case mr_zaz=>k_is)
#print axioms PySem.Challenge.cw_manyleaf_k05_boxes_and_rules_holds
