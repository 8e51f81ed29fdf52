import PyProof.Rows.All
import Wide.All
import OpenK.AllK
import Wide.FinOn
import Lean
import PyProof.EqAt
import PyProof.EqKinds
import PyProof.TupleCall
import PyProof.NeKinds
import PyProof.ZipIter
import PyProof.StrWalks
import PyProof.ConsumeWalk
import PyProof.ExcArgs
import PyProof.ExcBaseAll.ValueError
import KE.KIsAll
import PyProof.EnumFor
import PyProof.EnumMake
import PyProof.EnumStmt
import PyProof.Rows.EnumRows
import PyProof.DictWalks
import PyProof.Rows.SetFrom
import PyProof.DictItems
import KE.KDictList
import PyProof.RulesRaise
import PyProof.RulesTry
import PyProof.MeetsIn
import KE.KEqDict
import PyProof.Rows.Range3
import PyProof.Rows.ChunkLeaf
import PyProof.StationsW
import PyProof.PassesOwn
import PyProof.NsDelKeeps
import PySem.Challenge.RW_manyleaf_k04_no_panels
set_option Elab.async false
set_option linter.all false
set_option maxRecDepth 100000
namespace L2
open PySem PySem.Spec PyProof.Rows
abbrev Key:=Sum Int Str
def Lo:Key->Value->Bool
 | .inl k,v=>Value.isInt k v
 | .inr x,v=>Value.isStrOf x v
def keyH (w:World):Key->Int
 | .inl k=>hashInt k
 | .inr x=>hashStr w x
theorem Be:∀ {k:Key} {v:Value},Lo k v=true->(∃ i t,k=Sum.inl i/\v=Value.int i t)\/(∃ x t,k=Sum.inr x/\v=Value.str x t)
 | .inl i,v,h=>by
  obtain⟨t,e⟩:=Value.isInt_shape (k:=i) (v:=v) h
  exact .inl ⟨i,t,rfl,e⟩
 | .inr x,v,h=>by
  obtain⟨t,e⟩:=Value.isStrOf_shape (x:=x) (v:=v) h
  exact .inr ⟨x,t,rfl,e⟩
theorem Us (i:Int) (t:Tok):Lo (.inl i) (.int i t)=true:=by simp [Lo,Value.isInt]
theorem Ut (x:Str) (t:Tok):Lo (.inr x) (.str x t)=true:=by simp [Lo,Value.isStrOf]
theorem aj1 (a b:Int):decide ((Sum.inl a:Key)=Sum.inl b)=(a==b):=by
 by_cases e:a=b
 ·subst e;simp
 ·have h:¬ (Sum.inl a:Key)=Sum.inl b:=fun q=>e (Sum.inl.inj q)
  rw [decide_eq_false h]
  exact (beq_eq_false_iff_ne.mpr e).symm
theorem aj4 (a b:Str):decide ((Sum.inr a:Key)=Sum.inr b)=decide (a=b):=by
 by_cases e:a=b
 ·subst e;simp
 ·have h:¬ (Sum.inr a:Key)=Sum.inr b:=fun q=>e (Sum.inr.inj q)
  rw [decide_eq_false h,decide_eq_false e]
theorem aj2 (a:Int) (b:Str):decide ((Sum.inl a:Key)=Sum.inr b)=false:=decide_eq_false (fun q=>nomatch q)
theorem aj3 (a:Str) (b:Int):decide ((Sum.inr a:Key)=Sum.inl b)=false:=decide_eq_false (fun q=>nomatch q)
def A0 (prog:Program) (w:World):PySem.KeyKind prog w Key where
 is:=Lo
 hash:=keyH w
 inj:=fun v a b ha hb=>by
  rcases Be ha with ⟨i,t,rfl,rfl⟩|⟨x,t,rfl,rfl⟩
  ·rcases Be hb with ⟨j,u,rfl,e⟩|⟨y,u,rfl,e⟩
   ·injection e with e1 _;rw [e1]
   ·exact nomatch e
  ·rcases Be hb with ⟨j,u,rfl,e⟩|⟨y,u,rfl,e⟩
   ·exact nomatch e
   ·injection e with e1 _;rw [e1]
 byValue:=fun k v h=>by
  rcases Be h with ⟨i,t,rfl,rfl⟩|⟨x,t,rfl,rfl⟩ <;> rfl
 pyHash:=fun hv h=>by
  rcases Be hv with ⟨i,t,rfl,rfl⟩|⟨x,t,rfl,rfl⟩
  ·exact wpAny_pyHash_int h
  ·exact wpAny_pyHash_str h
 eqBool:=fun hu hv h=>by
  rcases Be hu with ⟨i,t,rfl,rfl⟩|⟨x,t,rfl,rfl⟩
  ·rcases Be hv with ⟨j,u,rfl,rfl⟩|⟨y,u,rfl,rfl⟩
   ·rw [aj1] at h;exact wpAny_eqBool_int h
   ·rw [aj2] at h;exact SeqAt.EqAt.int_str i t y u _ _ _ _ h
  ·rcases Be hv with ⟨j,u,rfl,rfl⟩|⟨y,u,rfl,rfl⟩
   ·rw [aj3] at h;exact SeqAt.EqAt.str_int x t j u _ _ _ _ h
   ·rw [aj4] at h;exact wpAny_eqBool_str h
 «strs»:=fun k x t v h=>by
  rcases Be h with ⟨i,u,rfl,e⟩|⟨y,u,rfl,e⟩
  ·exact nomatch e
  ·injection e with e1 _
   subst e1
   cases v <;> rfl
theorem Oq (prog:Program) (w:World) (i:Int) (t:Tok):(A0 prog w).is (.inl i) (.int i t)=true:=Us i t
theorem Os (prog:Program) (w:World) (x:Str) (t:Tok):(A0 prog w).is (.inr x) (.str x t)=true:=Ut x t
inductive V where
 | non|bl (b:Bool)|int (i:Int)|str (x:Str)|byt (b:Array UInt8)|flt (b:UInt64)|ref (a:Addr)|ty (n:String)
 deriving DecidableEq
def RelV:V->Value->Prop
 | .non,u=>u=Value.none
 | .bl b,u=>u=Value.bool b
 | .int i,u=>∃ t,u=Value.int i t
 | .str x,u=>∃ t,u=Value.str x t
 | .byt b,u=>∃ t,u=Value.bytes b t
 | .flt b,u=>∃ t,u=Value.float b t
 | .ref a,u=>u=Value.ref a
 | .ty n,u=>u=Value.type n
abbrev Vals:List V->List Value->Prop:=Paired RelV
theorem Vals.length {xs:List V} {us:List Value} (r:Vals xs us):xs.length=us.length:=Paired.length r
theorem Vals.get:∀ {xs:List V} {us:List Value} {i:Nat} {x:V},Vals xs us->xs[i]? = some x -> ∃ u,us[i]? = some u/\RelV x u
 | _,_,_,_,.nil,e=>by simp at e
 | _,_,0,_,.cons r _,e=>by simp at e;subst e;exact⟨_,rfl,r⟩
 | _,_,i+1,x,.cons _ t,e=>by
  obtain⟨u,h1,h2⟩:=Vals.get (i:=i) (x:=x) t (by simpa using e)
  exact⟨u,by simpa using h1,h2⟩
theorem Vals.set {x:V} {u:Value} (r:RelV x u):∀ {xs:List V} {us:List Value} (i:Nat),Vals xs us->Vals (xs.set i x) (us.set i u)
 | _,_,_,.nil=>.nil
 | _,_,0,.cons _ t=>.cons r t
 | _,_,i+1,.cons q t=>.cons q (Vals.set r i t)
theorem Vals.append:∀ {xs ys:List V} {us ws:List Value},Vals xs us->Vals ys ws->Vals (xs++ys) (us++ws)
 | _,_,_,_,.nil,s=>s
 | _,_,_,_,.cons r t,s=>.cons r (Vals.append t s)
theorem Vals.take:∀ {xs:List V} {us:List Value} (n:Nat),Vals xs us->Vals (xs.take n) (us.take n)
 | _,_,0,_=>.nil
 | _,_,_+1,.nil=>.nil
 | _,_,n+1,.cons r t=>.cons r (Vals.take n t)
theorem Vals.drop:∀ {xs:List V} {us:List Value} (n:Nat),Vals xs us->Vals (xs.drop n) (us.drop n)
 | _,_,0,r=>r
 | _,_,_+1,.nil=>.nil
 | _,_,n+1,.cons _ t=>Vals.drop n t
def RelO:Option V->Option Value->Prop
 | some v,some u=>RelV v u
 | none,none=>True
 | _,_=>False
def KV {κ:Type}:List (κ×V)->List (κ×Value)->Prop:=Paired fun (p:κ×V) (q:κ×Value)=>p.1=q.1/\RelV p.2 q.2
def kV:Key->V
 | .inl i=>.int i
 | .inr x=>.str x
inductive HO where
 | lst (xs:List V)
 | tup (xs:List V)
 | dK (kvs:List (Key×V))|dT (kvs:List (List Key×V))
 | set (S:Int->Bool) (n:Nat)
 | ins (C dx:Addr) (fs:List (Str×V))
 | own (x:Addr)
 | xd (fs:List (Str×V))
 | met (f x:Addr)
 | rng (lo hi:Int)
 | frz (o:Obj) (u:HO)
 | tbl (ps:Array Value)
 | ext (φ:Heap->Prop)
abbrev Hp:=Addr->Option HO
def upd (H:Hp) (a:Addr) (o:HO):Hp:=fun b=>if b=a then some o else H b
theorem Ab {H:Hp} {a:Addr} {o:HO}:upd H a o a=some o:=by unfold upd;rw [if_pos rfl]
theorem Af {H:Hp} {a b:Addr} {o:HO} (h:b≠a):upd H a o b=H b:=by unfold upd;rw [if_neg h]
theorem ae7 {H:Hp} {a:Addr} {o u:HO}:upd (upd H a o) a u=upd H a u:=by
 funext b;unfold upd;split <;> rfl
theorem av7 {H:Hp} {a b:Addr} {o u:HO} (h:H a=some o) (h':H b=some u) (d:o≠u):a≠b:=by
 intro e;subst e;rw [h] at h';exact d (Option.some.inj h')
theorem Ae {H:Hp} {a b:Addr} {o:HO} (h:H a=some o) (h':H b=none):a≠b:=by
 intro e;subst e;rw [h] at h';cases h'
section
variable (P:Program) (w:World)
def ObjOk (H:Hp) (h:Heap) (a:Addr):HO->Prop
 | .lst xs=>xs.length<=sizeLine /\ ∃ (its:List Value) (n:Nat),Vals xs its/\h.get? a=some { cls:=.type "list", data:=.seq its.toArray n }
 | .tup xs=>xs.length<=sizeLine /\ ∃ its:List Value,Vals xs its/\IsTup h a its.toArray
 | .dK kvs=>kvs.length<=sizeLine/\(a==sysModules)=false /\ ∃ vs,KV kvs vs/\h.DictOf (A0 P w) a vs
 | .dT kvs=>kvs.length<=sizeLine/\(a==sysModules)=false /\ ∃ xs:List (List Key×Addr×Value),
   Paired (fun (p:List Key×V) (q:List Key×Addr×Value)=>p.1=q.1/\H q.2.1=some (.tup (p.1.map kV))/\RelV p.2 q.2.2) kvs xs /\
   ∃ o es ep,h.get? a=some o/\o.ExactDict/\o.data=.dict es ep/\es.toList=xs.map (entryOfKey (tupleKind (A0 P w)))/\(xs.map (·.1)).Nodup
 | .set S n=>h.SetOf (intKind P w) a S n
 | .ins C dx fs=>H dx=some (.own a)/\fs.length<=1000/\dx≠a/\h.get? a=some (PySem.W.instObj C dx) /\
   ∃ mA,h.Ns1 dx mA/\(∀ f,RelO (fs.lookup f) (mA f))/\PySem.Within mA (fs.map (·.1))
 | .own _=>∃ o,h.get? a=some o
 | .xd fs=>∃ mA,h.Ns1 a mA /\ ∀ f,RelO (fs.lookup f) (mA f)
 | .rng lo hi=>∃ t u v,h.get? a=some { cls:=.type "range", data:=.fields #[.int lo t,.int hi u,.int 1 v] }
 | .frz o u=>h.get? a=some o/\ObjOk H h a u
 | .tbl ps=>h.get? a=some { cls:=.none,data:=.fields ps }
 | .met f x=>h.get? a=some (PySem.W.methodObj (.ref f) (.ref x))
 | .ext φ=>φ h/\(∃ o,h.get? a=some o) /\ ∀ h1 h2:Heap,φ h1->(∀ o,h1.get? a=some o->h2.get? a=some o)->φ h2
def HOk (H:Hp) (h:Heap):Prop:=∀ a o,H a=some o->ObjOk P w H h a o
end
section
variable {P:Program} {w:World} {H H':Hp} {h h':Heap} {a:Addr} {o:HO}
theorem ObjOk.lt (x:ObjOk P w H h a o):a<h.objs.size:=by
 cases o with
 | lst xs=>obtain⟨_,_,_,_,e⟩:=x;exact Heap.lt_size e
 | tup xs=>obtain⟨_,_,_,p⟩:=x;exact p.lt
 | dK kvs=>obtain⟨_,_,_,_,o,_,_,e,_⟩:=x;exact Heap.lt_size e
 | dT kvs=>obtain⟨_,_,_,_,o,_,_,e,_⟩:=x;exact Heap.lt_size e
 | set S n=>obtain⟨o,_,_,_,e,_⟩:=x;exact Heap.lt_size e
 | ins C dx fs=>obtain⟨_,_,_,e,_⟩:=x;exact Heap.lt_size e
 | own y=>obtain⟨_,e⟩:=x;exact Heap.lt_size e
 | xd fs=>obtain⟨_,⟨_,_,_,e,_⟩,_⟩:=x;exact Heap.lt_size e
 | rng lo hi=>obtain⟨_,_,_,e⟩:=x;exact Heap.lt_size e
 | frz ob u=>obtain⟨e,_⟩:=x;exact Heap.lt_size e
 | tbl ps=>exact Heap.lt_size (show h.get? a=some _ from x)
 | met f y=>exact Heap.lt_size (show h.get? a=some _ from x)
 | ext φ=>obtain⟨_,⟨_,e⟩,_⟩:=x;exact Heap.lt_size e
theorem Paired.mapP {α β:Type} {F G:α->β->Prop}:∀ {l₁:List α} {l₂:List β},Paired F l₁ l₂->(∀ a b,F a b->G a b)->Paired G l₁ l₂
 | _,_,.nil,_=>.nil
 | _,_,.cons r t,f=>.cons (f _ _ r) (Paired.mapP t f)
theorem ObjOk.stay (x:ObjOk P w H h a o) (k:∀ b u,(b=a\/H b=some (.own a))->h.get? b=some u->h'.get? b=some u)
  (ho:∀ b,H b=some (.own a)->H' b=some (.own a)) (ht:∀ b xs,H b=some (.tup xs)->H' b=some (.tup xs)):ObjOk P w H' h' a o:=by
 induction o with
 | lst xs=>obtain⟨z,its,n,r,e⟩:=x;exact⟨z,its,n,r,k _ _ (.inl rfl) e⟩
 | tup xs=>obtain⟨z,its,r,ob,e,c⟩:=x;exact⟨z,its,r,ob,k _ _ (.inl rfl) e,c⟩
 | dK kvs=>obtain⟨z,y,vs,r,ob,es,ep,e,c⟩:=x;exact⟨z,y,vs,r,ob,es,ep,k _ _ (.inl rfl) e,c⟩
 | dT kvs=>
  obtain⟨z,y,xs,r,ob,es,ep,e,c⟩:=x
  exact⟨z,y,xs,Paired.mapP r fun p q z=>⟨z.1,ht _ _ z.2.1,z.2.2⟩,ob,es,ep,k _ _ (.inl rfl) e,c⟩
 | set S n=>obtain⟨ob,es,ep,t,e,c⟩:=x;exact⟨ob,es,ep,t,k _ _ (.inl rfl) e,c⟩
 | ins C dx fs=>
  obtain⟨d,z,ne,e,mA,⟨od,es,ep,e2,c⟩,r⟩:=x
  exact⟨ho _ d,z,ne,k _ _ (.inl rfl) e,mA,⟨od,es,ep,k _ _ (.inr d) e2,c⟩,r⟩
 | own y=>obtain⟨ob,e⟩:=x;exact⟨ob,k _ _ (.inl rfl) e⟩
 | xd fs=>obtain⟨mA,⟨od,es,ep,e,c⟩,r⟩:=x;exact⟨mA,⟨od,es,ep,k _ _ (.inl rfl) e,c⟩,r⟩
 | rng lo hi=>obtain⟨t,u,v,e⟩:=x;exact⟨t,u,v,k _ _ (.inl rfl) e⟩
 | frz ob u ih=>obtain⟨e,q⟩:=x;exact⟨k _ _ (.inl rfl) e,ih q⟩
 | tbl ps=>
  have e:h.get? a=some { cls:=.none,data:=.fields ps }:=x
  show h'.get? a=some { cls:=.none,data:=.fields ps }
  exact k a _ (.inl rfl) e
 | met f y=>
  have e:h.get? a=some (PySem.W.methodObj (.ref f) (.ref y)):=x
  show h'.get? a=some (PySem.W.methodObj (.ref f) (.ref y))
  exact k a _ (.inl rfl) e
 | ext φ=>obtain⟨p,⟨o,e⟩,st⟩:=x;exact⟨st _ _ p fun o q=>k _ _ (.inl rfl) q,⟨o,k _ _ (.inl rfl) e⟩,st⟩
theorem HOk.lt (x:HOk P w H h) (e:H a=some o):a<h.objs.size:=(x a o e).lt
theorem HOk.fresh (x:HOk P w H h) (e:h.objs.size<=a):H a=none:=by
 cases q:H a with
 | none=>rfl
 | some u=>exact absurd (Nat.lt_of_lt_of_le (x.lt q) e) (Nat.lt_irrefl _)
theorem HOk.kept (x:HOk P w H h) (k:∀ b u,h.get? b=some u->h'.get? b=some u):HOk P w H h':=fun a o e=>
 (x a o e).stay (fun b u _ q=>k b u q) (fun _ q=>q) fun _ _ q=>q
theorem HOk.laid (x:HOk P w H h) (k:∀ b u,h.get? b=some u->h'.get? b=some u) (hp:h.objs.size<=a) (new:ObjOk P w (upd H a o) h' a o):HOk P w (upd H a o) h':=fun b u e=>by
 have hn:=x.fresh hp
 by_cases hb:b=a
 ·subst hb;rw [Ab] at e;cases e;exact new
 ·rw [Af hb] at e
  exact (x b u e).stay (fun c v _ q=>k c v q) (fun c q=>by rw [Af (Ae q hn)];exact q) fun c xs q=>by rw [Af (Ae q hn)];exact q
end
def Rd (H:Hp) (a:Addr) (u:HO):Prop:=H a=some u \/ ∃ o,H a=some (.frz o u)
theorem Rd.ok {P:Program} {w:World} {H:Hp} {h:Heap} {a:Addr} {u:HO} (r:Rd H a u) (x:HOk P w H h):ObjOk P w H h a u:=by
 rcases r with r|⟨o,r⟩
 ·exact x a u r
 ·obtain⟨_,q⟩:=x a _ r
  exact q
def Mut:Option HO->Prop
 | some (.lst _)=>True
 | some (.dK _)=>True
 | some (.dT _)=>True
 | some (.set _ _)=>True
 | some (.ins _ _ _)=>True
 | some (.ext _)=>True
 | _=>False
section
variable {P:Program} {w:World} {H:Hp} {h h':Heap} {x e:Addr} {o':HO}
theorem HOk.write (ok:HOk P w H h) (mu:Mut (H x)) (he:e=x\/H e=some (.own x)) (k:∀ b u,b≠e->h.get? b=some u->h'.get? b=some u) (heo:∃ u,h'.get? e=some u)
  (new:ObjOk P w (upd H x o') h' x o'):HOk P w (upd H x o') h':=fun b u q=>by
 have nown:∀ c y,H c=some (.own y)->c≠x:=fun c y r z=>by subst z;rw [r] at mu;exact mu
 have ntup:∀ c xs,H c=some (.tup xs)->c≠x:=fun c xs r z=>by subst z;rw [r] at mu;exact mu
 by_cases hb:b=x
 ·subst hb;rw [Ab] at q;cases q;exact new
 ·rw [Af hb] at q
  by_cases hbe:b=e
  ·have q':H b=some (.own x):=by
    rcases he with z|z
    ·exact absurd (hbe.trans z) hb
    ·rw [hbe];exact z
   rw [q] at q';cases q'
   obtain⟨v,hv⟩:=heo
   exact⟨v,by rw [hbe];exact hv⟩
  ·refine (ok b u q).stay (fun c v hc r=>k c v ?_ r) (fun c r=>by rw [Af (nown c b r)];exact r) fun c xs r=>by rw [Af (ntup c xs r)];exact r
   rcases hc with rfl|hc
   ·exact hbe
   ·rintro rfl
    rcases he with z|z
    ·exact nown c b hc z
    ·rw [hc] at z;cases z;exact hb rfl
end
structure Un (fs ex:List Addr) (H H':Hp) (h h':Heap):Prop where
 keep:∀ b o,h.get? b=some o->H b=none->b∉fs->b∉ex->h'.get? b=some o
 slot:∀ b o,h.get? b=some o->H b=none->b∈fs->b∉ex -> ∃ sl,h'.get? b=some { o with slots:=sl }
 free:∀ b o,h.get? b=some o->H b=none->b∉ex->H' b=none
 there:∀ b o,h.get? b=some o->b∉ex -> ∃ o',h'.get? b=some o'
 tups:∀ b xs,H b=some (.tup xs)->H' b=some (.tup xs)
 frzs:∀ b o u,H b=some (.frz o u)->H' b=some (.frz o u)
 tbls:∀ b ps,H b=some (.tbl ps) -> ∃ more,H' b=some (.tbl (ps++more))
section
variable {fs fs' ex ex':List Addr} {H H1 H2:Hp} {h h1 h2 h':Heap} {a x e:Addr} {o:HO}
theorem Un.any (u:Un fs ex H H1 h h1) {b:Addr} {ob:Obj} (q:h.get? b=some ob) (n:H b=none) (hx:b∉ex):∃ sl,h1.get? b=some { ob with slots:=sl }:=by
 by_cases hb:b∈fs
 ·exact u.slot b ob q n hb hx
 ·exact⟨ob.slots,u.keep b ob q n hb hx⟩
theorem Un.kept (k:∀ b u,h.get? b=some u->h'.get? b=some u):Un fs ex H H h h':=
 ⟨fun b ob q _ _ _=>k b ob q,fun b ob q _ _ _=>⟨ob.slots,k b ob q⟩,fun _ _ _ n _=>n,fun b ob q _=>⟨ob,k b ob q⟩,fun _ _ q=>q,fun _ _ _ q=>q,fun _ ps q=>⟨#[],by rw [q];simp⟩⟩
theorem Un.refl:Un fs ex H H h h:=Un.kept fun _ _ q=>q
theorem Un.laid (k:∀ b u,h.get? b=some u->h'.get? b=some u) (hp:h.objs.size<=a) (hn:H a=none):Un fs ex H (upd H a o) h h' where
 keep:=fun b u q _ _ _=>k b u q
 slot:=fun b u q _ _ _=>⟨u.slots,k b u q⟩
 free:=fun b u q n _=>by rw [Af (Nat.ne_of_lt (Nat.lt_of_lt_of_le (Heap.lt_size q) hp))];exact n
 there:=fun b u q _=>⟨u,k b u q⟩
 tups:=fun b xs q=>by rw [Af (Ae q hn)];exact q
 frzs:=fun b u xs q=>by rw [Af (Ae q hn)];exact q
 tbls:=fun b ps q=>⟨#[],by rw [Af (Ae q hn),q];simp⟩
theorem Un.write (mu:Mut (H x)) (he:e=x\/H e=some (.own x)) (k:∀ b u,b≠e->h.get? b=some u->h'.get? b=some u) (heo:∃ u,h'.get? e=some u):Un fs ex H (upd H x o) h h':=by
 have hx:∀ b,H b=none->b≠x:=fun b n z=>by subst z;rw [n] at mu;exact mu
 have hb:∀ b,H b=none->b≠e:=fun b n z=>by
  subst z
  rcases he with r|r
  ·exact hx b n r
  ·rw [n] at r;cases r
 have hm:∀ b u,H b=some u -> ¬ Mut (some u)->b≠x:=fun b u q nm z=>by subst z;rw [q] at mu;exact nm mu
 refine⟨fun b u q n _ _=>k b u (hb b n) q,fun b u q n _ _=>⟨u.slots,k b u (hb b n) q⟩,fun b u q n _=>by rw [Af (hx b n)];exact n,fun b u q _=>?_,
  fun b xs q=>by rw [Af (hm b _ q fun z=>z)];exact q,fun b u xs q=>by rw [Af (hm b _ q fun z=>z)];exact q,fun b ps q=>⟨#[],by rw [Af (hm b _ q fun z=>z),q];simp⟩⟩
 by_cases hbe:b=e
 ·subst hbe;exact heo
 ·exact⟨u,k b u hbe q⟩
end
def trk (h:Heap) (H:Hp):List Addr:=(List.range h.objs.size).filter fun a=>(H a).isSome
def hidT (h:Heap) (H:Hp):Heap:=PySem.W.hideAll h (trk h H)
theorem Uq (h:Heap) (H:Hp):(hidT h H).objs.size=h.objs.size:=PySem.W.hideAll_size _ _
theorem W9 {h:Heap} {H:Hp} {b:Addr} {o:Obj} (e:h.get? b=some o) (n:H b=none):(hidT h H).get? b=some o:=
 PySem.W.hideAll_get _ e fun hm=>by
  have q:(H b).isSome=true:=(List.mem_filter.mp hm).2
  rw [n] at q;simp at q
theorem aa4 {h:Heap} {H:Hp} {b:Addr} {o:Obj} (e:(hidT h H).get? b=some o):h.get? b=some o/\H b=none:=by
 have e':h.get? b=some o:=PySem.W.of_hideAll (trk h H) e
 refine⟨e',?_⟩
 cases q:H b with
 | none=>rfl
 | some x=>
  have hm:b∈trk h H:=List.mem_filter.mpr ⟨List.mem_range.mpr (Heap.lt_size e'),by simp [q]⟩
  have z:(hidT h H).get? b=none:=PySem.W.hideAll_none (trk h H) hm
  rw [z] at e;cases e
structure Mod (K:PySem.W.Frag) (mg:Str->Option Value) (base:Heap):Prop where
 kin:K.In base
 glob:base.Ns mainGlobals mg
 blt:∃ mb,base.Ns builtinsNs mb /\ ∀ x:Str,x ≠ "__name__" -> mb x=bootBuiltins x
 nolimit:base.NoLimit
structure Cx where
 prog:Program
 w:World
 K:PySem.W.Frag
 mg:Str->Option Value
 base:Heap
 A:Around
 N:List Str
 s₀:Shared
 H₀:Hp
 env:Env
 outer:List Env
 stack:List Env
 ex:List Addr
 fn:Str->Bool
 calm:Bool
 pn:List (Addr×Obj)
 xe:Value->Shared->Prop
def frs (l:List Env):List Addr:=l.filterMap (·.frame)
abbrev Cx.fs (X:Cx):List Addr:=frs X.outer
def Vis (sc:Scope) (x:Str):Prop:=sc.names.lookup x=some .local\/sc.names.lookup x=some .cell\/sc.names.lookup x=some .free
def Loc (sc:Scope) (x:Str):Prop:=sc.names.lookup x=some .local\/sc.names.lookup x=some .cell
def Look (env:Env) (h:Heap) (m:Str->Option Value) (x:Str) (u:Value):Prop:=
 (env.kindOf x=some .local/\m x=some u)\/((env.kindOf x=some .cell\/env.kindOf x=some .free) /\ ∃ c,env.cells.lookup x=some c/\h.IsCell c (some u))
structure Cx.Ok (X:Cx):Prop where
 mod:Mod X.K X.mg X.base
 kind:X.env.scope.kind=.function
 glob:X.env.globals=mainGlobals
 blt:X.env.builtins=builtinsNs
 above:X.s₀.heap.objs.size<=X.env.locals
 inj:∀ x y c,X.env.cells.lookup x=some c->X.env.cells.lookup y=some c->x=y
 has:∀ x,(X.env.kindOf x=some .cell\/X.env.kindOf x=some .free) -> ∃ c,X.env.cells.lookup x=some c
 cab:∀ x c,X.fn x=true->X.env.cells.lookup x=some c->X.s₀.heap.objs.size<=c
 hd:X.calm=true->X.A.handled=none
 frames:X.A.frames=some X.stack
 stk:X.stack=X.outer\/(X.stack=X.env::X.outer/\X.env.frame=some X.env.locals)
 exf:∀ b∈X.ex,b≠X.env.locals /\ ∀ x c,X.env.cells.lookup x=some c->c≠b
 bs:∀ b o,X.base.get? b=some o->X.s₀.heap.get? b=some o/\X.H₀ b=none
 bsz:X.base.objs.size<=X.s₀.heap.objs.size
 noex:∀ b o,X.base.get? b=some o->b∉X.ex
 exfs:∀ b∈X.ex,b∉X.fs
 funs:X.s₀.heap.FunFrames X.base X.outer
 frf:∀ b∈X.fs,X.H₀ b=none
structure Inv (X:Cx) (pins:List (Addr×Obj)) (σ:List (Option V)) (H:Hp) (s:Shared):Prop where
 ok:X.Ok
 os:s.os=X.s₀.os
 bare:AllBare s.gens
 base:Un X.fs X.ex X.H₀ H X.s₀.heap s.heap
 loc:∃ m,s.heap.Ns X.env.locals m /\ ∀ (i:Nat) (x:Str) (v:V),X.N[i]? = some x->σ[i]? = some (some v)->Vis X.env.scope x -> ∃ u,RelV v u/\Look X.env s.heap m x u
 cell:∀ x c,X.env.cells.lookup x=some c -> ∃ v,s.heap.IsCell c v
 free:H X.env.locals=none
 freeC:∀ x c,X.env.cells.lookup x=some c->H c=none
 pin:∀ p∈X.pn++pins,s.heap.get? p.1=some p.2/\H p.1=none/\p.1≠X.env.locals/\p.1∉X.fs /\ ∀ v,p.2.data≠.cell v
 hok:HOk X.prog X.w H s.heap
 len:σ.length=X.N.length
section
variable {X:Cx} {pins:List (Addr×Obj)} {σ:List (Option V)} {H H':Hp} {s:Shared} {h':Heap}
theorem Cx.Ok.nofr (ok:X.Ok) {b:Addr} {o:Obj} (e:X.base.get? b=some o):b∉X.fs:=fun hb=>by
 have:=(ok.funs.mem hb).1
 rw [e] at this;cases this
theorem Inv.bs (I:Inv X pins σ H s):∀ b o,X.base.get? b=some o->s.heap.get? b=some o/\H b=none:=fun b o e=>
 ⟨I.base.keep b o (I.ok.bs b o e).1 (I.ok.bs b o e).2 (I.ok.nofr e) (I.ok.noex b o e),I.base.free b o (I.ok.bs b o e).1 (I.ok.bs b o e).2 (I.ok.noex b o e)⟩
theorem Inv.bk (I:Inv X pins σ H s):∀ b o,X.base.get? b=some o->s.heap.get? b=some o:=fun b o e=>(I.bs b o e).1
theorem Inv.mod (I:Inv X pins σ H s):Mod X.K X.mg X.base:=I.ok.mod
theorem Inv.kIn (I:Inv X pins σ H s):X.K.In s.heap:=I.ok.mod.kin.keeps I.bk
theorem Inv.lt (I:Inv X pins σ H s):X.env.locals<s.heap.objs.size:=let ⟨_,hn,_⟩:=I.loc;hn.lt
theorem Inv.sz (I:Inv X pins σ H s):X.s₀.heap.objs.size<=s.heap.objs.size:=Nat.le_trans I.ok.above (Nat.le_of_lt I.lt)
theorem Inv.nofs (I:Inv X pins σ H s) {a:Addr} (h:s.heap.objs.size<=a):a∉X.fs:=fun hb=>by
 obtain⟨_,o,ho,_⟩:=I.ok.funs.mem hb
 exact absurd (Nat.lt_of_lt_of_le (Heap.lt_size ho) (Nat.le_trans I.sz h)) (Nat.lt_irrefl _)
theorem Inv.cne (I:Inv X pins σ H s):∀ x c,X.env.cells.lookup x=some c->c≠X.env.locals:=fun x c e z=>by
 obtain⟨v,o,ho,hd⟩:=I.cell x c e
 obtain⟨m,⟨o',es,ep,ho',hd',_⟩,_⟩:=I.loc
 rw [z,ho'] at ho;cases ho;rw [hd'] at hd;cases hd
theorem Inv.funs (I:Inv X pins σ H s):s.heap.FunFrames X.base X.outer:=by
 have all:∀ (l:List Env),(∀ b∈frs l,b∈X.fs)->X.s₀.heap.FunFrames X.base l->s.heap.FunFrames X.base l:=by
  intro l
  induction l with
  | nil=>intro _ _;trivial
  | cons env r ih=>
   intro hs hl
   obtain⟨hk,⟨L,o,hf,hn,ho,hd⟩,hr⟩:=hl
   have hL:L∈X.fs:=hs L (by unfold frs;rw [List.filterMap_cons,hf];exact List.mem_cons_self)
   obtain⟨sl,e⟩:=I.base.slot L o ho (I.ok.frf L hL) hL fun z=>I.ok.exfs L z hL
   exact⟨hk,⟨L,_,hf,hn,e,hd⟩,ih (fun b hb=>hs b (by unfold frs;rw [List.filterMap_cons,hf];exact List.mem_cons_of_mem _ hb)) hr⟩
 exact all X.outer (fun _ hb=>hb) I.ok.funs
theorem Inv.stack (I:Inv X pins σ H s):s.heap.FunFrames X.base X.stack:=by
 rcases I.ok.stk with e|⟨e,hf⟩
 ·rw [e];exact I.funs
 ·rw [e]
  obtain⟨m,hn,_⟩:=I.loc
  refine .cons (by rw [I.ok.kind];decide) hf hn ?_ I.funs
  exact Heap.get?_none_of_le (Nat.le_trans I.ok.bsz I.ok.above)
theorem Inv.stkSub (I:Inv X pins σ H s):∀ b∈frs X.stack,b∈X.env.locals::X.fs:=fun b hb=>by
 rcases I.ok.stk with e|⟨e,hf⟩
 ·rw [e] at hb;exact List.mem_cons_of_mem _ hb
 ·rw [e] at hb
  unfold frs at hb
  rw [List.filterMap_cons,hf] at hb
  exact hb
theorem Inv.stkFree (I:Inv X pins σ H s):∀ b∈frs X.stack,H b=none:=fun b hb=>by
 rcases List.mem_cons.mp (I.stkSub b hb) with e|hb
 ·rw [e];exact I.free
 ·obtain⟨_,o,ho,_⟩:=I.ok.funs.mem hb
  exact I.base.free b o ho (I.ok.frf b hb) fun z=>I.ok.exfs b z hb
theorem Inv.step {g':Array GenState} {t':Nat} {d':Drawn} {ch:List Addr} (I:Inv X pins σ H s)
  (hch:∀ b∈ch,(b∈X.ex\/X.s₀.heap.objs.size<=b)/\b≠X.env.locals/\(∀ x c,X.env.cells.lookup x=some c->c≠b) /\ ∀ p∈X.pn++pins,p.1≠b)
  (keep:∀ b o,b≠X.env.locals->b∉X.fs->b∉ch->s.heap.get? b=some o->H b=none->h'.get? b=some o)
  (slot:∀ b o,b≠X.env.locals->b∈X.fs->b∉ch->s.heap.get? b=some o->H b=none -> ∃ sl,h'.get? b=some { o with slots:=sl }) (free:∀ b o,b∉ch->s.heap.get? b=some o->H b=none->H' b=none)
  (there:∀ b o,b∉ch->s.heap.get? b=some o -> ∃ o',h'.get? b=some o')
  (tups:∀ b xs,H b=some (.tup xs)->H' b=some (.tup xs)) (frzs:∀ b o u,H b=some (.frz o u)->H' b=some (.frz o u)) (tbls:∀ b ps,H b=some (.tbl ps) -> ∃ more,H' b=some (.tbl (ps++more)))
  (ns:∀ m,s.heap.Ns X.env.locals m->h'.Ns X.env.locals m) (hok:HOk X.prog X.w H' h') (hg:AllBare g') :
  Inv X pins σ H' { s with heap:=h',gens:=g',drawn:=d',toks:=t' }:=by
 have neL:∀ b o,X.s₀.heap.get? b=some o->b≠X.env.locals:=fun b o e=>Nat.ne_of_lt (Nat.lt_of_lt_of_le (Heap.lt_size e) I.ok.above)
 have neC:∀ b o,X.s₀.heap.get? b=some o->b∉X.ex->b∉ch:=fun b o e hx hb=>by
  rcases (hch b hb).1 with z|z
  ·exact hx z
  ·exact absurd (Nat.lt_of_lt_of_le (Heap.lt_size e) z) (Nat.lt_irrefl _)
 have cellK:∀ x c,X.env.cells.lookup x=some c -> ∀ v,s.heap.IsCell c v->h'.IsCell c v:=fun x c e v ⟨o,ho,hd⟩=>by
  have nch:c∉ch:=fun z=>(hch c z).2.2.1 x c e rfl
  by_cases hc:c∈X.fs
  ·obtain⟨sl,q⟩:=slot c o (I.cne x c e) hc nch ho (I.freeC x c e)
   exact⟨_,q,hd⟩
  ·exact⟨o,keep c o (I.cne x c e) hc nch ho (I.freeC x c e),hd⟩
 refine⟨I.ok,I.os,hg,⟨fun b o e n hb hx=>?_,fun b o e n hb hx=>?_,fun b o e n hx=>?_,fun b o e hx=>?_,fun b xs e=>tups b xs (I.base.tups b xs e),fun b o xs e=>frzs b o xs (I.base.frzs b o xs e),fun b ps e=>?_⟩,?_,fun x c e=>?_,?_,fun x c e=>?_,fun p hp=>?_,hok,I.len⟩
 ·exact keep b o (neL b o e) hb (neC b o e hx) (I.base.keep b o e n hb hx) (I.base.free b o e n hx)
 ·obtain⟨sl,e1⟩:=I.base.slot b o e n hb hx
  obtain⟨sl',e2⟩:=slot b _ (neL b o e) hb (neC b o e hx) e1 (I.base.free b o e n hx)
  exact⟨sl',e2⟩
 ·obtain⟨o',e1⟩:=I.base.there b o e hx
  exact free b o' (neC b o e hx) e1 (I.base.free b o e n hx)
 ·obtain⟨o',e1⟩:=I.base.there b o e hx
  exact there b o' (neC b o e hx) e1
 ·obtain⟨m1,e1⟩:=I.base.tbls b ps e
  obtain⟨m2,e2⟩:=tbls b _ e1
  exact⟨m1++m2,by rw [e2,Array.append_assoc]⟩
 ·obtain⟨m,hn,hl⟩:=I.loc
  refine⟨m,ns m hn,fun i x v e1 e2 e3=>?_⟩
  obtain⟨u,r,l⟩:=hl i x v e1 e2 e3
  refine⟨u,r,?_⟩
  rcases l with l|⟨k,c,e,z⟩
  ·exact .inl l
  ·exact .inr ⟨k,c,e,cellK x c e _ z⟩
 ·obtain⟨v,z⟩:=I.cell x c e
  exact⟨v,cellK x c e v z⟩
 ·obtain⟨m,⟨o,_,_,ho,_⟩,_⟩:=I.loc
  exact free _ o (fun z=>(hch _ z).2.1 rfl) ho I.free
 ·obtain⟨v,o,ho,hd⟩:=I.cell x c e
  exact free c o (fun z=>(hch c z).2.2.1 x c e rfl) ho (I.freeC x c e)
 ·obtain⟨e,n,ne,nf,d⟩:=I.pin p hp
  have nch:p.1∉ch:=fun z=>(hch p.1 z).2.2.2 p hp rfl
  exact⟨keep p.1 p.2 ne nf nch e n,free p.1 p.2 nch e n,ne,nf,d⟩
theorem Inv.un {t':Nat} (I:Inv X pins σ H s) (u:Un X.fs [] H H' s.heap h') (hok:HOk X.prog X.w H' h'):Inv X pins σ H' { s with heap:=h',toks:=t' }:=by
 obtain⟨m,⟨o,es,ep,ho,r⟩,_⟩:=id I.loc
 obtain⟨sl,hL⟩:=u.any ho I.free (by simp)
 exact I.step (g':=s.gens) (d':=s.drawn) (ch:=[]) (fun _ z=>nomatch z) (fun b o _ hb _ e n=>u.keep b o e n hb (by simp)) (fun b o _ hb _ e n=>u.slot b o e n hb (by simp)) (fun b o _ e n=>u.free b o e n (by simp)) (fun b o _ e=>u.there b o e (by simp)) u.tups u.frzs u.tbls (fun m' hm=>by
  obtain⟨o',es',ep',ho',r'⟩:=hm
  rw [ho] at ho';cases ho'
  exact⟨_,es',ep',hL,r'⟩) hok I.bare
theorem Inv.call {g':Array GenState} {t':Nat} {d':Drawn} {ch:List Addr} (I:Inv X pins σ H s) (u:Un (frs X.stack) ch H H' s.heap h') (hok:HOk X.prog X.w H' h') (hg:AllBare g')
  (hch:∀ b∈ch,(b∈X.ex\/X.s₀.heap.objs.size<=b)/\b≠X.env.locals/\(∀ x c,X.env.cells.lookup x=some c->c≠b) /\ ∀ p∈X.pn++pins,p.1≠b) :
  Inv X pins σ H' { s with heap:=h',gens:=g',drawn:=d',toks:=t' }:=by
 obtain⟨m,⟨o,es,ep,ho,r⟩,_⟩:=id I.loc
 obtain⟨sl,hL⟩:=u.any ho I.free fun z=>(hch _ z).2.1 rfl
 exact I.step (ch:=ch) hch (fun b o hL hb hc e n=>u.keep b o e n (fun z=>(List.mem_cons.mp (I.stkSub b z)).elim hL hb) hc) (fun b o _ _ hc e n=>u.any e n hc) (fun b o hc e n=>u.free b o e n hc) (fun b o hc e=>u.there b o e hc) u.tups u.frzs u.tbls (fun m' hm=>by
  obtain⟨o',es',ep',ho',r'⟩:=hm
  rw [ho] at ho';cases ho'
  exact⟨_,es',ep',hL,r'⟩) hok hg
theorem Inv.turned {t':Nat} {it:Addr} (I:Inv X pins σ H s) (k:∀ b o,b≠it->s.heap.get? b=some o->h'.get? b=some o) (hn:H it=none) (hL:it≠X.env.locals)
  (h1:it∈X.ex\/X.s₀.heap.objs.size<=it) (h2:∀ x c,X.env.cells.lookup x=some c->c≠it) (h3:∀ p∈X.pn++pins,p.1≠it):Inv X pins σ H { s with heap:=h',toks:=t' }:=by
 have nit:∀ b u,H b=some u->b≠it:=fun b u e z=>by rw [z,hn] at e;cases e
 refine I.step (g':=s.gens) (d':=s.drawn) (ch:=[it]) (fun b hb=>?_) (fun b o _ _ hc e _=>k b o (fun z=>hc (by simp [z])) e) (fun b o _ _ hc e _=>⟨o.slots,k b o (fun z=>hc (by simp [z])) e⟩) (fun _ _ _ _ n=>n)
  (fun b o hc e=>⟨o,k b o (fun z=>hc (by simp [z])) e⟩) (fun _ _ e=>e) (fun _ _ _ e=>e) (fun b ps e=>⟨#[],by rw [e];simp⟩) (fun m hm=>?_) (fun b u e=>?_) I.bare
 ·have e:b=it:=by simpa using hb
  subst e
  exact⟨h1,hL,h2,h3⟩
 ·obtain⟨o,es,ep,ho,r⟩:=hm
  exact⟨o,es,ep,k _ o (Ne.symm hL) ho,r⟩
 ·refine (I.hok b u e).stay (fun c v hc q=>k c v ?_ q) (fun _ q=>q) fun _ _ q=>q
  rcases hc with z|z
  ·rw [z];exact nit b u e
  ·exact nit c _ z
theorem Inv.tok (I:Inv X pins σ H s) (t:Nat):Inv X pins σ H { s with toks:=t }:=I.un (h':=s.heap) (t':=t) Un.refl I.hok
theorem Inv.kept {t':Nat} (I:Inv X pins σ H s) (k:∀ b u,s.heap.get? b=some u->h'.get? b=some u):Inv X pins σ H { s with heap:=h',toks:=t' }:=I.un (Un.kept k) (I.hok.kept k)
theorem Inv.laid {a:Addr} {o:HO} {t':Nat} (I:Inv X pins σ H s) (k:∀ b u,s.heap.get? b=some u->h'.get? b=some u) (hp:s.heap.objs.size<=a) (new:ObjOk X.prog X.w (upd H a o) h' a o) :
  Inv X pins σ (upd H a o) { s with heap:=h',toks:=t' }:=I.un (Un.laid k hp (I.hok.fresh hp)) (I.hok.laid k hp new)
theorem Inv.write {x e:Addr} {o:HO} {t':Nat} (I:Inv X pins σ H s) (mu:Mut (H x)) (he:e=x\/H e=some (.own x)) (k:∀ b u,b≠e->s.heap.get? b=some u->h'.get? b=some u) (heo:∃ u,h'.get? e=some u)
  (new:ObjOk X.prog X.w (upd H x o) h' x o):Inv X pins σ (upd H x o) { s with heap:=h',toks:=t' }:=I.un (Un.write mu he k heo) (I.hok.write mu he k heo new)
theorem Inv.pins_of {pins':List (Addr×Obj)} (I:Inv X pins σ H s) (h:∀ p∈pins',s.heap.get? p.1=some p.2/\H p.1=none/\p.1≠X.env.locals/\p.1∉X.fs /\ ∀ v,p.2.data≠.cell v):Inv X pins' σ H s:=
 ⟨I.ok,I.os,I.bare,I.base,I.loc,I.cell,I.free,I.freeC,fun p hp=>(List.mem_append.mp hp).elim (fun z=>I.pin p (List.mem_append_left _ z)) (h p),I.hok,I.len⟩
theorem Jq {N:List Str} (hN:N.Nodup) {i j:Nat} {x:Str} (a:N[i]? = some x) (b:N[j]? = some x):i=j:=by
 obtain⟨h1,e1⟩:=List.getElem?_eq_some_iff.mp a
 obtain⟨h2,e2⟩:=List.getElem?_eq_some_iff.mp b
 exact (List.getElem_inj hN).mp (e1.trans e2.symm)
theorem Vp {M:Model} {A:Around} {E:Value->Shared->Prop} {i:Nat} {x:Str} {v:V} {u:Value} {Q:Unit->Shared->Prop} (I:Inv X pins σ H s) (hN:X.N.Nodup) (hi:X.N[i]? = some x) (hx:Loc X.env.scope x) (r:RelV v u)
  (h:∀ s',Inv X pins (σ.set i (some v)) H s'->(∃ a,Heap.SameBut a s.heap s'.heap/\(a=X.env.locals\/X.env.cells.lookup x=some a))->Q () s') (hf:X.fn x=true\/X.env.scope.names.lookup x=some .local:=by first|exact .inl rfl|exact .inr rfl|assumption):wpAny M A (storeName X.env x u) Q E s:=by
 obtain⟨m,hn,hl⟩:=id I.loc
 have hcls:(X.env.scope.kind==.class||(X.env.scope.kind==.module&&X.env.locals != X.env.globals))=false:=by rw [I.ok.kind];rfl
 have hiσ:i<σ.length:=by rw [I.len];exact (List.getElem?_eq_some_iff.mp hi).1
 have cne:=I.cne
 have tracked:∀ {a:Addr} {h':Heap},(∃ o,s.heap.get? a=some o/\H a=none)->Heap.SameBut a s.heap h'->HOk X.prog X.w H h':=fun {a h'} ha hs b ob e=>by
  obtain⟨_,_,hfree⟩:=ha
  refine (I.hok b ob e).stay (fun c w' hc q=>(hs.2 c ?_).trans q) (fun _ q=>q) fun _ _ q=>q
  rintro rfl
  rcases hc with rfl|hc
  ·rw [hfree] at e;cases e
  ·rw [hfree] at hc;cases hc
 rcases hx with hk|hk
 ·refine wpAny_storeName_local hk hn (fun h' hn' hs=>?_) hcls
  obtain⟨oL,_,_,hoL,_⟩:=id hn
  refine h _ ⟨I.ok,I.os,I.bare,⟨fun b o e n hb hx=>?_,fun b o e n hb hx=>?_,I.base.free,fun b o e hx=>?_,I.base.tups,I.base.frzs,I.base.tbls⟩,⟨_,hn',fun j y v' e1 e2 e3=>?_⟩,fun y c e=>?_,I.free,I.freeC,fun p hp=>?_,tracked ⟨oL,hoL,I.free⟩ hs,by simpa using I.len⟩ ⟨_,hs,.inl rfl⟩
  ·exact (hs.2 b (Nat.ne_of_lt (Nat.lt_of_lt_of_le (Heap.lt_size e) I.ok.above))).trans (I.base.keep b o e n hb hx)
  ·obtain⟨sl,e1⟩:=I.base.slot b o e n hb hx
   exact⟨sl,(hs.2 b (Nat.ne_of_lt (Nat.lt_of_lt_of_le (Heap.lt_size e) I.ok.above))).trans e1⟩
  ·obtain⟨o',e1⟩:=I.base.there b o e hx
   exact⟨o',(hs.2 b (Nat.ne_of_lt (Nat.lt_of_lt_of_le (Heap.lt_size e) I.ok.above))).trans e1⟩
  ·by_cases hj:j=i
   ·subst hj
    rw [hi] at e1;cases e1
    rw [List.getElem?_set_self hiσ] at e2
    cases e2
    exact⟨u,r,.inl ⟨hk,by simp⟩⟩
   ·rw [List.getElem?_set_ne (Ne.symm hj)] at e2
    obtain⟨u',r',q⟩:=hl j y v' e1 e2 e3
    refine⟨u',r',?_⟩
    rcases q with ⟨k,e⟩|⟨k,c,e,z⟩
    ·refine .inl ⟨k,?_⟩
     have:y≠x:=fun e=>hj (Jq hN e1 (e▸hi))
     simp [this,e]
    ·exact .inr ⟨k,c,e,z.sameBut hs (cne y c e)⟩
  ·obtain⟨w',z⟩:=I.cell y c e
   exact⟨w',z.sameBut hs (cne y c e)⟩
  ·obtain⟨e,n,ne,nf,d⟩:=I.pin p hp
   exact⟨(hs.2 p.1 ne).trans e,n,ne,nf,d⟩
 ·have hfn:X.fn x=true:=by
   rcases hf with z|z
   ·exact z
   ·rw [z] at hk;cases hk
  obtain⟨c,hc⟩:=I.ok.has x (.inl hk)
  obtain⟨w',z⟩:=I.cell x c hc
  refine wpAny_storeName_cell I.ok.kind hk hc z (fun h' hc' hs=>?_)
  obtain⟨oc,hoc,hocd⟩:=id z
  refine h { s with heap:=h' } ⟨I.ok,I.os,I.bare,⟨fun b o e n hb hx=>?_,fun b o e n hb hx=>?_,I.base.free,fun b o e hx=>?_,I.base.tups,I.base.frzs,I.base.tbls⟩,⟨m,hn.sameBut hs (Ne.symm (cne x c hc)),fun j y v' e1 e2 e3=>?_⟩,fun y c' e=>?_,I.free,I.freeC,fun p hp=>?_,tracked ⟨oc,hoc,I.freeC x c hc⟩ hs,by simpa using I.len⟩ ⟨c,hs,.inr hc⟩
  ·exact (hs.2 b (Nat.ne_of_lt (Nat.lt_of_lt_of_le (Heap.lt_size e) (I.ok.cab x c hfn hc)))).trans (I.base.keep b o e n hb hx)
  ·obtain⟨sl,e1⟩:=I.base.slot b o e n hb hx
   exact⟨sl,(hs.2 b (Nat.ne_of_lt (Nat.lt_of_lt_of_le (Heap.lt_size e) (I.ok.cab x c hfn hc)))).trans e1⟩
  ·obtain⟨o',e1⟩:=I.base.there b o e hx
   exact⟨o',(hs.2 b (Nat.ne_of_lt (Nat.lt_of_lt_of_le (Heap.lt_size e) (I.ok.cab x c hfn hc)))).trans e1⟩
  ·by_cases hj:j=i
   ·subst hj
    rw [hi] at e1;cases e1
    rw [List.getElem?_set_self hiσ] at e2
    cases e2
    exact⟨u,r,.inr ⟨.inl hk,c,hc,hc'⟩⟩
   ·rw [List.getElem?_set_ne (Ne.symm hj)] at e2
    obtain⟨u',r',q⟩:=hl j y v' e1 e2 e3
    refine⟨u',r',?_⟩
    rcases q with q|⟨k,c',e,z'⟩
    ·exact .inl q
    ·refine .inr ⟨k,c',e,z'.sameBut hs ?_⟩
     rintro rfl
     exact hj (Jq hN e1 (I.ok.inj _ _ _ e hc▸hi))
  ·by_cases hcc:c'=c
   ·subst hcc;exact⟨_,hc'⟩
   ·obtain⟨w2,z2⟩:=I.cell y c' e
    exact⟨w2,z2.sameBut hs hcc⟩
  ·obtain⟨e,n,ne,nf,d⟩:=I.pin p hp
   refine⟨(hs.2 p.1 ?_).trans e,n,ne,nf,d⟩
   intro q
   rw [q,hoc] at e
   have q':oc=p.2:=Option.some.inj e
   exact d w' (by rw [<- q'];exact hocd)
theorem Gk {M:Model} {A:Around} {E:Value->Shared->Prop} {i:Nat} {x:Str} {v:V} {u:Value} {Q:Unit->Shared->Prop} (I:Inv X pins σ H s) (hN:X.N.Nodup) (hi:X.N[i]? = some x) (hx:Loc X.env.scope x) (r:RelV v u)
  (h:∀ s',Inv X pins (σ.set i (some v)) H s'->Q () s') (hf:X.fn x=true\/X.env.scope.names.lookup x=some .local:=by first|exact .inl rfl|exact .inr rfl|assumption):wpAny M A (storeName X.env x u) Q E s:=
 Vp I hN hi hx r (fun s' I' _=>h s' I') hf
theorem Inv.call' {s':Shared} {ch:List Addr} (I:Inv X pins σ H s) (ho:s'.os=s.os) (u:Un (frs X.stack) ch H H' s.heap s'.heap) (hok:HOk X.prog X.w H' s'.heap) (hg:AllBare s'.gens)
  (hch:∀ b∈ch,(b∈X.ex\/X.s₀.heap.objs.size<=b)/\b≠X.env.locals/\(∀ x c,X.env.cells.lookup x=some c->c≠b) /\ ∀ p∈X.pn++pins,p.1≠b):Inv X pins σ H' s':=by
 obtain⟨h',g',d',t',o'⟩:=s'
 have e:o'=s.os:=ho
 subst e
 exact I.call (g':=g') (t':=t') (d':=d') u hok hg hch
end
abbrev XK:=Value->Option Addr->Hp->Prop
abbrev St:=List (Option V)
abbrev VK:=V->Hp->Prop
abbrev TE:=St->Hp->VK->Prop
abbrev TT:=St->Hp->(Bool->Hp->Prop)->Prop
abbrev TA:=St->Hp->(List V->Hp->Prop)->Prop
structure Ends where
 nx:St->Hp->Prop
 rt:VK
 bk:St->Hp->Prop:=fun _ _=>False
 ct:St->Hp->Prop:=fun _ _=>False
abbrev TS:=Ends->St->Hp->Prop
def EP (X:Cx) (pins:List (Addr×Obj)) (σ:St) (Q:VK) (u:Value) (s':Shared):Prop:=∃ v H',Inv X pins σ H' s'/\RelV v u/\Q v H'
def TP (X:Cx) (pins:List (Addr×Obj)) (σ:St) (Q:Bool->Hp->Prop) (b:Bool) (s':Shared):Prop:=∃ H',Inv X pins σ H' s'/\Q b H'
def AP (X:Cx) (pins:List (Addr×Obj)) (σ:St) (Q:List V->Hp->Prop) (us:List Value) (s':Shared):Prop:=∃ vs H',Inv X pins σ H' s'/\Vals vs us/\Q vs H'
def SP (X:Cx) (pins:List (Addr×Obj)) (D:Ends) (f:Flow) (s':Shared):Prop:=
 match f with
 | .next=>∃ σ' H',Inv X pins σ' H' s'/\D.nx σ' H'
 | .brk=>∃ σ' H',Inv X pins σ' H' s'/\D.bk σ' H'
 | .cont=>∃ σ' H',Inv X pins σ' H' s'/\D.ct σ' H'
 | .ret u=>∃ v σ' H',Inv X pins σ' H' s'/\RelV v u/\D.rt v H'
def PE (X:Cx) (e:Expr) (t:TE):Prop:=
 ∀ (pins:List (Addr×Obj)) (s:Shared) (σ:St) (H:Hp) (Q:VK),Inv X pins σ H s->t σ H Q->wpAny (model X.prog X.w) X.A (eval e X.env) (EP X pins σ Q) X.xe s
def PT (X:Cx) (e:Expr) (t:TT):Prop:=
 ∀ (pins:List (Addr×Obj)) (s:Shared) (σ:St) (H:Hp) (Q:Bool->Hp->Prop),Inv X pins σ H s->t σ H Q->wpAny (model X.prog X.w) X.A (isTrue e X.env (eval e X.env)) (TP X pins σ Q) X.xe s
def PW (X:Cx) (e:Expr) (t:TT):Prop:=
 ∀ (whole:Sem Value) (pins:List (Addr×Obj)) (s:Shared) (σ:St) (H:Hp) (Q:Bool->Hp->Prop),Inv X pins σ H s->t σ H Q->wpAny (model X.prog X.w) X.A (isTrue e X.env whole) (TP X pins σ Q) X.xe s
theorem PW.pt {X:Cx} {e:Expr} {t:TT} (h:PW X e t):PT X e t:=h _
def PA (X:Cx) (es:List Expr) (t:TA):Prop:=
 ∀ (pos:Pos) (pins:List (Addr×Obj)) (s:Shared) (σ:St) (H:Hp) (Q:List V->Hp->Prop),Inv X pins σ H s->t σ H Q->wpAny (model X.prog X.w) X.A (spliced (backTo pos (starEach es X.env))) (AP X pins σ Q) X.xe s
def PS (X:Cx) (st:Stmt) (t:TS):Prop:=
 ∀ (pins:List (Addr×Obj)) (s:Shared) (σ:St) (H:Hp) (D:Ends),Inv X pins σ H s->t D σ H->wpAny (model X.prog X.w) X.A (exec st X.env) (SP X pins D) X.xe s
def PSs (X:Cx) (st:List Stmt) (t:TS):Prop:=
 ∀ (pins:List (Addr×Obj)) (s:Shared) (σ:St) (H:Hp) (D:Ends),Inv X pins σ H s->t D σ H->wpAny (model X.prog X.w) X.A (execs st X.env) (SP X pins D) X.xe s
theorem thn {α:Type} {t:Sem α} {Q Q':α->Shared->Prop} {M:Model} {A:Around} {E:Value->Shared->Prop} {s:Shared} (h:wpAny M A t Q E s) (hQ:∀ a s,Q a s->Q' a s):wpAny M A t Q' E s:=wpAny_mono h hQ fun _ _ x=>x
section
variable {X:Cx}
def tVar (i:Nat):TE:=fun σ H Q=>∃ v,σ[i]? = some (some v)/\Q v H
def tC (v:V):TE:=fun _ H Q=>Q v H
theorem am5 {i:Nat} {x:Str} {pos:Pos} (hN:X.N[i]? = some x) (hv:Vis X.env.scope x) (hd:(x==("__debug__" : Str))=false:=by decide) (hcd:(x==("__classdict__" : Str))=false:=by decide):PE X (.Name x pos) (tVar i):=by
 intro pins s σ H Q I h
 obtain⟨v,e,h⟩:=h
 obtain⟨m,hn,hl⟩:=I.loc
 obtain⟨u,r,l⟩:=hl i x v hN e hv
 have fin:EP X pins σ Q u s:=⟨v,H,I,r,h⟩
 rcases l with ⟨hk,hm⟩|⟨hk,c,hc,hcell⟩
 ·exact wpAny_Name (wpAny_loadName_local I.ok.kind hk hn hm fin) hd
 ·rcases hk with hk|hk
  ·exact wpAny_Name (wpAny_loadName_cell I.ok.kind hk hc hcell fin) hd
  ·exact wpAny_Name (wpAny_loadName_free I.ok.kind hk hc hcell fin hcd) hd
theorem al9 {i j pos}:PE X (.Constant (.int i) j pos) (tC (.int i)):=fun _ _ _ H _ I h=>wpAny_Constant_int ⟨.int i,H,I.tok _,⟨_,rfl⟩,h⟩
theorem az0 {b j pos}:PE X (.Constant (.bool b) j pos) (tC (.bl b)):=fun _ _ _ H _ I h=>Constant_bool ⟨.bl b,H,I,rfl,h⟩
theorem am1 {j pos}:PE X (.Constant .none j pos) (tC .non):=fun _ _ _ H _ I h=>Constant_none ⟨.non,H,I,rfl,h⟩
theorem am3 {x j pos}:PE X (.Constant (.str x) j pos) (tC (.str x)):=fun _ _ _ H _ I h=>Calls.Constant_str ⟨.str x,H,I.tok _,⟨_,rfl⟩,h⟩
def Gl (X:Cx) (x:Str):Prop:=X.env.kindOf x=some .globalImplicit
theorem C5 {E:Value->Shared->Prop} {pins:List (Addr×Obj)} {s:Shared} {σ:St} {H:Hp} {x:Str} {u:Value} {pos:Pos} {Q:Value->Shared->Prop} (I:Inv X pins σ H s) (hg:Gl X x) (hm:X.mg x=some u) (h:Q u s)
  (hd:(x==("__debug__" : Str))=false:=by decide):wpAny (model X.prog X.w) X.A (eval (.Name x pos) X.env) Q E s:=
 Calls.Name_function_global I.ok.kind hg (Calls.loadGlobal_global (by rw [I.ok.glob];exact I.mod.glob.keeps I.bk) hm h) hd
theorem Fn {E:Value->Shared->Prop} {pins:List (Addr×Obj)} {s:Shared} {σ:St} {H:Hp} {x:Str} {u:Value} {pos:Pos} {Q:Value->Shared->Prop} (I:Inv X pins σ H s) (hg:Gl X x) (hm:X.mg x=none) (hv:bootBuiltins x=some u) (h:Q u s)
  (hn:x ≠ "__name__" := by decide) (hd:(x==("__debug__" : Str))=false:=by decide):wpAny (model X.prog X.w) X.A (eval (.Name x pos) X.env) Q E s:=by
 obtain⟨mb,h1,h2⟩:=I.mod.blt
 exact Calls.Name_function_global I.ok.kind hg (Calls.loadGlobal_builtin (by rw [I.ok.glob];exact I.mod.glob.keeps I.bk) hm (by rw [I.ok.blt];exact h1.keeps I.bk) ((h2 x hn).trans hv) h) hd
theorem M5 {x:Str} {v:V} {u:Value} {pos:Pos} (hg:Gl X x) (hm:X.mg x=some u) (r:RelV v u) (hd:(x==("__debug__" : Str))=false:=by decide):PE X (.Name x pos) (tC v):=
 fun _ _ _ H _ I h=>C5 I hg hm ⟨v,H,I,r,h⟩ hd
theorem ab0 {x:Str} {v:V} {u:Value} {pos:Pos} (hg:Gl X x) (hm:X.mg x=none) (hv:bootBuiltins x=some u) (r:RelV v u) (hn:x ≠ "__name__" := by decide) (hd:(x==("__debug__" : Str))=false:=by decide):PE X (.Name x pos) (tC v):=
 fun _ _ _ H _ I h=>Fn I hg hm hv ⟨v,H,I,r,h⟩ hn hd
variable {a b:Expr} {ta tb:TE} {pos:Pos}
variable {tA tB':TT} {rest:List Expr}
def tAnd (t u:TT):TT:=fun σ H Q=>t σ H fun c H1=>if c=true then u σ H1 Q else Q false H1
def tOr (t u:TT):TT:=fun σ H Q=>t σ H fun c H1=>if c=true then Q true H1 else u σ H1 Q
def tNot (t:TT):TT:=fun σ H Q=>t σ H fun c H1=>Q (!c) H1
theorem ac1 (ha:PT X a tA):PW X (.BoolOp .And [a] pos) tA:=by
 intro wh pins s σ H Q I h
 refine isTrue_and (thn (ha pins s σ H Q I h) fun c s1 e=>?_)
 cases c with
 | true=>exact isTrue_and_nil e
 | false=>exact e
theorem an3 (ha:PT X a tA):PW X (.BoolOp .Or [a] pos) tA:=by
 intro wh pins s σ H Q I h
 refine isTrue_or (thn (ha pins s σ H Q I h) fun c s1 e=>?_)
 cases c with
 | false=>exact isTrue_or_nil e
 | true=>exact e
theorem an2 (ha:PT X a tA) (hb:PW X (.BoolOp .And (b::rest) pos) tB'):PW X (.BoolOp .And (a::b::rest) pos) (tAnd tA tB'):=by
 intro wh pins s σ H Q I h
 refine isTrue_and (thn (ha pins s σ H _ I h) fun c s1 ⟨H1,I1,q1⟩=>?_)
 cases c with
 | true=>exact hb wh pins s1 σ H1 Q I1 q1
 | false=>exact⟨H1,I1,q1⟩
theorem az6 (ha:PT X a tA) (hb:PW X (.BoolOp .Or (b::rest) pos) tB'):PW X (.BoolOp .Or (a::b::rest) pos) (tOr tA tB'):=by
 intro wh pins s σ H Q I h
 refine isTrue_or (thn (ha pins s σ H _ I h) fun c s1 ⟨H1,I1,q1⟩=>?_)
 cases c with
 | true=>exact⟨H1,I1,q1⟩
 | false=>exact hb wh pins s1 σ H1 Q I1 q1
theorem an1 (ha:PT X a tA):PT X (.UnaryOp .Not a pos) (tNot tA):=by
 intro pins s σ H Q I h
 exact isTrue_not (ha pins s σ H (fun c H1=>Q (!c) H1) I h)
theorem am2 {op} {t:TE} (h:PE X a t):PE X (.BoolOp op [a] pos) t:=fun pins s σ H Q I hw=>BoolOp_one (h pins s σ H Q I hw)
def tIf (t:TT) (ta tb:TE):TE:=fun σ H Q=>t σ H fun c H1=>if c=true then ta σ H1 Q else tb σ H1 Q
theorem Xu {c:Expr} (hc:PT X c tA) (ha:PE X a ta) (hb:PE X b tb):PE X (.IfExp c a b pos) (tIf tA ta tb):=by
 intro pins s σ H Q I h
 refine wpAny_IfExp (thn (hc pins s σ H _ I h) fun d s1 ⟨H1,I1,q1⟩=>?_)
 cases d with
 | true=>exact ha pins s1 σ H1 Q I1 q1
 | false=>exact hb pins s1 σ H1 Q I1 q1
end
def SqL (K:PySem.W.Frag) (H:Hp) (a:Addr) (xs:List V):Prop:=
 Rd H a (.lst xs) \/
  ∃ (o:Obj) (its:Array Value) (n:Nat),K.lookup a=some o/\o.cls=.type "list" /\ o.dict=none/\o.data=.seq its n/\its.size<=sizeLine/\Vals xs its.toList
def SqT (K:PySem.W.Frag) (H:Hp) (a:Addr) (xs:List V):Prop:=
 Rd H a (.tup xs) \/
  ∃ (o:Obj) (its:Array Value) (n:Nat),K.lookup a=some o/\o.cls=.type "tuple" /\ o.data=.seq its n/\its.size<=sizeLine/\Vals xs its.toList
def absV:Value->Option V
 | .none=>some .non
 | .bool b=>some (.bl b)
 | .int i _=>some (.int i)
 | .str x _=>some (.str x)
 | .bytes b _=>some (.byt b)
 | .float b _=>some (.flt b)
 | .ref a=>some (.ref a)
 | .type n=>some (.ty n)
 | _=>none
theorem RelV.abs {x:V} {u:Value} (r:RelV x u):absV u=some x:=by
 cases x with
 | non=>cases r;rfl
 | bl _=>cases r;rfl
 | int _=>obtain⟨t,rfl⟩:=r;rfl
 | str _=>obtain⟨t,rfl⟩:=r;rfl
 | byt _=>obtain⟨t,rfl⟩:=r;rfl
 | flt _=>obtain⟨t,rfl⟩:=r;rfl
 | ref _=>cases r;rfl
 | ty _=>cases r;rfl
theorem RelV.inj {x y:V} {u:Value} (r:RelV x u) (q:RelV y u):x=y:=Option.some.inj (r.abs.symm.trans q.abs)
theorem Vals.inj:∀ {xs ys:List V} {us:List Value},Vals xs us->Vals ys us->xs=ys
 | _,_,_,.nil,.nil=>rfl
 | _,_,_,.cons r t,.cons r' t'=>by rw [r.inj r',Vals.inj t t']
section
variable {X:Cx} {pins:List (Addr×Obj)} {σ:St} {H:Hp} {s:Shared} {a:Addr} {xs ys:List V}
theorem SqL.of {K:PySem.W.Frag} (h:H a=some (.lst xs)):SqL K H a xs:=.inl (.inl h)
theorem SqT.of {K:PySem.W.Frag} (h:H a=some (.tup xs)):SqT K H a xs:=.inl (.inl h)
theorem Inv.list (I:Inv X pins σ H s) (h:SqL X.K H a xs):∃ its:List Value,Vals xs its/\PlainL s.heap a its.toArray/\xs.length<=sizeLine:=by
 rcases h with h|⟨o,its,n,hk,hc,hd,hs,hz,r⟩
 ·obtain⟨z,its,n,r,e⟩:=h.ok I.hok
  exact⟨its,r,⟨_,n,e,rfl,rfl,rfl⟩,z⟩
 ·refine⟨its.toList,r,⟨o,n,I.kIn a o hk,hc,hd,by simpa using hs⟩,?_⟩
  have e:=r.length
  simp only [Array.length_toList] at e
  omega
theorem Inv.tuple (I:Inv X pins σ H s) (h:SqT X.K H a xs):∃ its:List Value,Vals xs its/\IsTup s.heap a its.toArray/\xs.length<=sizeLine:=by
 rcases h with h|⟨o,its,n,hk,hc,hs,hz,r⟩
 ·obtain⟨z,its,r,p⟩:=h.ok I.hok
  exact⟨its,r,p,z⟩
 ·refine⟨its.toList,r,⟨o,I.kIn a o hk,hc,n,by simpa using hs⟩,?_⟩
  have e:=r.length
  simp only [Array.length_toList] at e
  omega
theorem Inv.list_inj (I:Inv X pins σ H s) (h:SqL X.K H a xs) (h':SqL X.K H a ys):xs=ys:=by
 obtain⟨its,r,⟨o,n,e,_,_,d⟩,_⟩:=I.list h
 obtain⟨its',r',⟨o',n',e',_,_,d'⟩,_⟩:=I.list h'
 rw [e] at e';cases e'
 rw [d] at d'
 injection d' with d1 _
 have:its=its':=by simpa using congrArg Array.toList d1
 subst this
 exact r.inj r'
theorem Inv.tuple_inj (I:Inv X pins σ H s) (h:SqT X.K H a xs) (h':SqT X.K H a ys):xs=ys:=by
 obtain⟨its,r,⟨o,e,_,n,d⟩,_⟩:=I.tuple h
 obtain⟨its',r',⟨o',e',_,n',d'⟩,_⟩:=I.tuple h'
 rw [e] at e';cases e'
 rw [d] at d'
 injection d' with d1 _
 have:its=its':=by simpa using congrArg Array.toList d1
 subst this
 exact r.inj r'
end
abbrev Cx.wish (X:Cx) (E:Value->Shared->Prop):Cx:={ X with xe:=E }
abbrev Cx.nox (X:Cx):Cx:=X.wish fun _ _=>False
theorem Cx.Ok.wish {X:Cx} (ok:X.Ok) (E:Value->Shared->Prop):(X.wish E).Ok:=
 ⟨ok.mod,ok.kind,ok.glob,ok.blt,ok.above,ok.inj,ok.has,ok.cab,ok.hd,ok.frames,ok.stk,ok.exf,ok.bs,ok.bsz,ok.noex,ok.exfs,ok.funs,ok.frf⟩
theorem Cx.Ok.unwish {X:Cx} {E:Value->Shared->Prop} (ok:(X.wish E).Ok):X.Ok:=
 ⟨ok.mod,ok.kind,ok.glob,ok.blt,ok.above,ok.inj,ok.has,ok.cab,ok.hd,ok.frames,ok.stk,ok.exf,ok.bs,ok.bsz,ok.noex,ok.exfs,ok.funs,ok.frf⟩
section
variable {X:Cx} {pins:List (Addr×Obj)} {σ:St} {H:Hp} {s:Shared} {E:Value->Shared->Prop}
theorem Inv.wish (I:Inv X pins σ H s) (E:Value->Shared->Prop):Inv (X.wish E) pins σ H s:=⟨I.ok.wish E,I.os,I.bare,I.base,I.loc,I.cell,I.free,I.freeC,I.pin,I.hok,I.len⟩
theorem Inv.unwish (I:Inv (X.wish E) pins σ H s):Inv X pins σ H s:=⟨I.ok.unwish,I.os,I.bare,I.base,I.loc,I.cell,I.free,I.freeC,I.pin,I.hok,I.len⟩
theorem SP.unwish {D:Ends} {f:Flow} {s':Shared} (h:SP (X.wish E) pins D f s'):SP X pins D f s':=by
 cases f with
 | next=>obtain⟨σ',H',I,q⟩:=h;exact⟨σ',H',I.unwish,q⟩
 | brk=>obtain⟨σ',H',I,q⟩:=h;exact⟨σ',H',I.unwish,q⟩
 | cont=>obtain⟨σ',H',I,q⟩:=h;exact⟨σ',H',I.unwish,q⟩
 | ret u=>obtain⟨v,σ',H',I,r,q⟩:=h;exact⟨v,σ',H',I.unwish,r,q⟩
theorem PSs.nox {st:List Stmt} {t:TS} (h:PSs X.nox st t):PSs X st t:=fun pins s σ H D I hw=>
 wpAny_mono (h pins s σ H D (I.wish _) hw) (fun _ _ q=>q.unwish) fun _ _ z=>False.elim z
end
section
variable {X:Cx} {st:Stmt} {rest:List Stmt} {t u:TS} {e:Expr} {te:TE} {pos:Pos}
def ah6:TS:=fun D σ H=>D.nx σ H
def tSeq (t u:TS):TS:=fun D σ H=>t { D with nx:=u D } σ H
theorem ac0:PSs X [] ah6:=fun _ _ σ H _ I h=>wpAny_execs_nil ⟨σ,H,I,h⟩
theorem X5 (h1:PS X st t) (h2:PSs X rest u):PSs X (st::rest) (tSeq t u):=by
 intro pins s σ H D I h
 refine wpAny_execs_cons (thn (h1 pins s σ H { D with nx:=u D } I h) fun f s1 q=>?_)
 cases f with
 | next=>
  obtain⟨σ',H',I',q⟩:=q
  exact h2 pins s1 σ' H' D I' q
 | ret v=>exact q
 | brk=>exact q
 | cont=>exact q
def as6:TS:=fun D σ H=>D.bk σ H
def a61:TS:=fun D σ H=>D.ct σ H
theorem ab8:PS X (.Pass pos) ah6:=fun _ _ σ H _ I h=>wpAny_Pass ⟨σ,H,I,h⟩
theorem X3:PS X (.Break pos) as6:=fun _ _ σ H _ I h=>wpAny_Break ⟨σ,H,I,h⟩
theorem O3:PS X (.Continue pos) a61:=fun _ _ σ H _ I h=>wpAny_Continue ⟨σ,H,I,h⟩
theorem Inv.quiet {pins:List (Addr×Obj)} {σ:St} {H:Hp} {s:Shared} (I:Inv X pins σ H s):interactive X.env=false:=by simp [interactive,I.ok.kind]
def a63 (te:TE):TS:=fun D σ H=>te σ H fun _ H1=>D.nx σ H1
theorem ab7 (he:PE X e te) (hs:swapsWith e none pos.line X.env=pure false:=by rfl):PS X (.Expr e pos) (a63 te):=by
 intro pins s σ H D I h
 exact wpAny_Expr_any (thn (he pins s σ H _ I h) fun v s1 ⟨x,H1,I1,r1,q1⟩=>⟨σ,H1,I1,q1⟩) I.quiet hs
def tRet (te:TE):TS:=fun D σ H=>te σ H D.rt
theorem am9 (he:PE X e te):PS X (.Return (some e) pos) (tRet te):=by
 intro pins s σ H D I h
 exact wpAny_Return_some (thn (he pins s σ H _ I h) fun v s1 ⟨x,H1,I1,r1,q1⟩=>⟨x,σ,H1,I1,r1,q1⟩)
def a64:TS:=fun D _ H=>D.rt .non H
theorem ab9:PS X (.Return none pos) a64:=fun _ _ σ H _ I h=>wpAny_Return_none ⟨.non,σ,H,I,rfl,h⟩
def tIfS (c:TT) (t u:TS):TS:=fun D σ H=>c σ H fun b H1=>if b=true then t D σ H1 else u D σ H1
theorem az5 {c:Expr} {a b:List Stmt} {tc:TT} (hc:PT X c tc) (ha:PSs X a t) (hb:PSs X b u):PS X (.If c a b pos) (tIfS tc t u):=by
 intro pins s σ H D I h
 refine wpAny_If (thn (hc pins s σ H _ I h) fun d s1 ⟨H1,I1,q1⟩=>?_)
 cases d with
 | true=>exact ha pins s1 σ H1 D I1 q1
 | false=>exact hb pins s1 σ H1 D I1 q1
end
abbrev TG:=V->St->Hp->(St->Hp->Prop)->Prop
abbrev TGs:=List V->St->Hp->(St->Hp->Prop)->Prop
def PG (X:Cx) (target:Expr) (t:TG):Prop:=
 ∀ (pins:List (Addr×Obj)) (s:Shared) (σ:St) (H:Hp) (v:V) (u:Value) (Q:St->Hp->Prop),Inv X pins σ H s->RelV v u->t v σ H Q ->
  wpAny (model X.prog X.w) X.A (assign target X.env u) (fun _ s'=>∃ σ' H',Inv X pins σ' H' s'/\Q σ' H') X.xe s
def PGs (X:Cx) (ts:List Expr) (t:TGs):Prop:=
 ∀ (pins:List (Addr×Obj)) (s:Shared) (σ:St) (H:Hp) (vs:List V) (us:List Value) (Q:St->Hp->Prop),Inv X pins σ H s->Vals vs us->t vs σ H Q ->
  wpAny (model X.prog X.w) X.A (assignInOrder ((assignEach ts X.env).map (·.2)) us) (fun _ s'=>∃ σ' H',Inv X pins σ' H' s'/\Q σ' H') X.xe s
abbrev TSet:=V->V->V->Hp->(Hp->Prop)->Prop
def PSet (X:Cx) (t:TSet):Prop:=
 ∀ (pins:List (Addr×Obj)) (s:Shared) (σ:St) (H:Hp) (o i v:V) (ov iv u:Value) (Q:Hp->Prop),Inv X pins σ H s->RelV o ov->RelV i iv->RelV v u->t o i v H Q ->
  wpAny (model X.prog X.w) X.A (setItem ov iv u) (fun _ s'=>∃ H',Inv X pins σ H' s'/\Q H') X.xe s
section
variable {X:Cx} {pos:Pos}
def W3 (i:Nat):TG:=fun v σ H Q=>Q (σ.set i (some v)) H
theorem ab3 {i:Nat} {x:Str} (hN:X.N.Nodup) (hi:X.N[i]? = some x) (hx:Loc X.env.scope x) (hf:X.fn x=true\/X.env.scope.names.lookup x=some .local:=by first|exact .inl rfl|exact .inr rfl|assumption):PG X (.Name x pos) (W3 i):=by
 intro pins s σ H v u Q I r h
 exact wpAny_assign_Name (Gk I hN hi hx r (fun s' I'=>⟨_,H,I',h⟩) hf)
def gNil:TGs:=fun vs σ H Q=>vs=[]/\Q σ H
def av1 (t:TG) (u:TGs):TGs:=fun vs σ H Q=>∃ v r,vs=v::r/\t v σ H fun σ' H'=>u r σ' H' Q
theorem ab4:PGs X [] gNil:=by
 intro pins s σ H vs us Q I r h
 obtain⟨e,h⟩:=h
 subst e
 cases r
 exact assignInOrder_nil ⟨σ,H,I,h⟩
theorem Xv {e:Expr} {es:List Expr} {t:TG} {u:TGs} (h1:PG X e t) (h2:PGs X es u)
  (hs:(assignEach (e::es) X.env).map (·.2)=assign e X.env::(assignEach es X.env).map (·.2):=by rfl):PGs X (e::es) (av1 t u):=by
 intro pins s σ H vs us Q I r h
 obtain⟨v,vr,e1,h⟩:=h
 subst e1
 cases r with
 | cons r rr=>
  rw [hs]
  refine assignInOrder_cons (thn (h1 pins s σ H _ _ _ I r h) fun _ s1 ⟨σ1,H1,I1,q1⟩=>?_)
  exact h2 pins s1 σ1 H1 _ _ Q I1 rr q1
def gTup (K:PySem.W.Frag) (n:Nat) (t:TGs):TG:=fun v σ H Q=>∃ a xs,v=.ref a/\SqT K H a xs/\xs.length=n/\t xs σ H Q
theorem am7 {es:List Expr} {k:Nat} {t:TGs} {n:Nat} (hc:X.calm=true) (h:PGs X es t)
  (hn:(assignEach es X.env).length=n:=by rfl) (hst:(assignEach es X.env).findIdx? (·.1)=none:=by rfl):PG X (.Tuple es k pos) (gTup X.K n t):=by
 intro pins s σ H v u Q I r hw
 obtain⟨a,xs,e1,hq,hl,hw⟩:=hw
 subst e1
 cases r
 obtain⟨its,rv,ht,hz⟩:=I.tuple hq
 refine assign_Tuple_tuple (I.ok.hd hc) ht (by simp [hn,<- hl,rv.length]) hst fun h' hx=>?_
 have I1:Inv X pins σ H { s with heap:=h' }:=I.kept (t':=s.toks) fun b o e=>hx b o (Nat.ne_of_lt (Heap.lt_size e)) e
 exact h pins _ σ H xs _ Q I1 (by simpa using rv) hw
def gSub (to ti:TE) (t:TSet):TG:=fun v σ H Q=>to σ H fun o H1=>ti σ H1 fun i H2=>t o i v H2 fun H3=>Q σ H3
theorem am6 {o i:Expr} {to ti:TE} {t:TSet} (ho:PE X o to) (hi:PE X i ti) (hs:PSet X t)
  (ha:∀ v,assign (.Subscript o i pos) X.env v=(do
   let ov <- holding [v] (eval o X.env)
   let iv <- holding [v,ov] (eval i X.env)
   standAt pos
   holding [v,ov,iv] (setItem ov iv v)
   release [v,ov,iv] []):=by intro _;rfl):PG X (.Subscript o i pos) (gSub to ti t):=by
 intro pins s σ H v u Q I r h
 rw [ha]
 refine wpAny_bind (wpAny_holding (thn (ho pins s σ H _ I h) fun ov s1 ⟨x,H1,I1,r1,q1⟩=>?_))
 refine wpAny_bind (wpAny_holding (thn (hi pins s1 σ H1 _ I1 q1) fun iv s2 ⟨y,H2,I2,r2,q2⟩=>?_))
 refine wpAny_bind (wpAny_standAt (wpAny_bind (wpAny_holding (thn (hs pins s2 σ H2 x y v ov iv u _ I2 r1 r2 r q2) fun _ s3 ⟨H3,I3,q3⟩=>?_))))
 exact wpAny_release ⟨σ,H3,I3,q3⟩
def tAsg (te:TE) (g:TG):TS:=fun D σ H=>te σ H fun x H1=>g x σ H1 D.nx
theorem X2 {tg e:Expr} {te:TE} {g:TG} (he:PE X e te) (hg:PG X tg g) (hs:swapsWithSole [tg] e pos.line X.env=pure false:=by rfl) (hw:swappedStores [tg] e X.env=pure none:=by rfl)
  (h1:(assignEach [tg] X.env).map (·.2)=[assign tg X.env]:=by rfl):PS X (.Assign [tg] e pos) (tAsg te g):=by
 intro pins s σ H D I h
 refine wpAny_Assign_stores (thn (he pins s σ H _ I h) fun v s1 ⟨x,H1,I1,r1,q1⟩=>?_) hs hw
 rw [h1]
 exact thn (hg pins s1 σ H1 x v _ I1 r1 q1) fun _ s2 q=>q
theorem an0 {i:Nat} {x:Str} {e:Expr} {te:TE} {pos':Pos} (hN:X.N.Nodup) (hi:X.N[i]? = some x) (hx:Loc X.env.scope x) (he:PE X e te) (hs:swapsWith e (some (.Name x pos')) pos.line X.env=pure false:=by rfl) (hf:X.fn x=true\/X.env.scope.names.lookup x=some .local:=by first|exact .inl rfl|exact .inr rfl|assumption) :
  PS X (.Assign [.Name x pos'] e pos) (tAsg te (W3 i)):=by
 intro pins s σ H D I h
 refine wpAny_Assign_Name (thn (he pins s σ H _ I h) fun v s1 ⟨y,H1,I1,r1,q1⟩=>?_) hs
 exact Gk I1 hN hi hx r1 (fun s2 I2=>⟨_,H1,I2,q1⟩) hf
end
structure It where
 go:Nat->Hp->Prop
 yld:Nat->Hp->V->Hp->Prop
 stop:Nat->Hp->Prop
def FpOk (X:Cx) (pins:List (Addr×Obj)) (H:Hp) (b:Addr):Prop:=
 H b=none/\b≠X.env.locals/\b∉X.fs/\(b∈X.ex\/X.s₀.heap.objs.size<=b)/\(∀ x c,X.env.cells.lookup x=some c->c≠b) /\ ∀ p∈X.pn++pins,p.1≠b
theorem Inv.fpOk {X:Cx} {pins:List (Addr×Obj)} {σ:St} {H H':Hp} {s:Shared} {b:Addr} (I:Inv X pins σ H s) (hb:s.heap.objs.size<=b) (hn:H' b=none):FpOk X pins H' b:=by
 refine⟨hn,Nat.ne_of_gt (Nat.lt_of_lt_of_le I.lt hb),I.nofs hb,.inr (Nat.le_trans I.sz hb),fun x c e z=>?_,fun p hp z=>?_⟩
 ·obtain⟨v,q⟩:=I.cell x c e
  exact absurd (Nat.lt_of_lt_of_le q.lt (by rw [z];exact hb)) (Nat.lt_irrefl _)
 ·exact absurd (Nat.lt_of_lt_of_le (Heap.lt_size (I.pin p hp).1) (by rw [z];exact hb)) (Nat.lt_irrefl _)
structure Turn (P:Program) (w:World) (K:PySem.W.Frag) (tg:Expr) (J:It) (fp:List Addr) (it:Addr) (tn:Nat->Heap->Prop):Prop where
 mem:it∈fp
 obj:∀ i h,tn i h -> ∀ b∈fp,∃ o,h.get? b=some o /\ ∀ v,o.data≠.cell v
 keep:∀ i h h',tn i h->(∀ b∈fp,∀ o,h.get? b=some o->h'.get? b=some o)->tn i h'
 item:∀ (X:Cx),X.prog=P->X.w=w->X.K=K->X.calm=true -> ∀ (i:Nat) (pins:List (Addr×Obj)) (s:Shared) (σ:St) (H:Hp) (E:Value->Shared->Prop),Inv X pins σ H s->(∀ b∈fp,FpOk X pins H b)->tn i s.heap->J.go i H ->
  wpAny (model P w) X.A (pyNext (.ref it)) (fun r s1=>∃ u,r=some u /\
   wpAny (model P w) X.A (letOwnedTupleGo tg (.ref it) u) (fun _ s2=>∃ x H',Inv X pins σ H' s2/\RelV x u/\J.yld i H x H'/\tn (i+1) s2.heap /\ ∀ b∈fp,H' b=none) E s1) E s
 done:∀ (X:Cx),X.prog=P->X.w=w->X.K=K->X.calm=true -> ∀ (i:Nat) (pins:List (Addr×Obj)) (s:Shared) (σ:St) (H:Hp) (E:Value->Shared->Prop),Inv X pins σ H s->(∀ b∈fp,FpOk X pins H b)->tn i s.heap->J.stop i H ->
  wpAny (model P w) X.A (pyNext (.ref it)) (fun r s1=>r=none/\Inv X pins σ H s1) E s
 self:∀ (A:Around) (i:Nat) (s:Shared) (Q:Value->Shared->Prop) (E:Value->Shared->Prop),tn i s.heap->Q (.ref it) s->wpAny (model P w) A (pyIter (.ref it)) Q E s
abbrev TI:=St->Hp->(It->Hp->Prop)->Prop
def PIE (X:Cx) (pins:List (Addr×Obj)) (σ:St) (tg:Expr) (R:It->Hp->Prop) (itv:Value) (s2:Shared):Prop:=
 ∃ (it:Addr) (fp:List Addr) (tn:Nat->Heap->Prop) (J:It) (H':Hp),itv=.ref it/\Inv X pins σ H' s2/\Turn X.prog X.w X.K tg J fp it tn/\tn 0 s2.heap/\(∀ b∈fp,FpOk X pins H' b)/\R J H'
def PI (X:Cx) (tg iter:Expr) (wi:TI):Prop:=
 ∀ (pins:List (Addr×Obj)) (s:Shared) (σ:St) (H:Hp) (R:It->Hp->Prop),Inv X pins σ H s->wi σ H R ->
  wpAny (model X.prog X.w) X.A (eval iter X.env) (fun v s1=>wpAny (model X.prog X.w) X.A (pyIter v) (PIE X pins σ tg R) X.xe s1) X.xe s
theorem Lc {M:Model} {A:Around} {E:Value->Shared->Prop} {s:Shared} {tg:Expr} {it:Addr} {u:Value} {o:Obj} {n:String} {vs:Array Value} {Q:Unit->Shared->Prop} (ho:s.heap.get? it=some o) (hc:o.cls=.type n) (hd:o.data=.fields vs)
    (hn:["enumerate", "zip", "dict_itemiterator", "dict_reverseitemiterator", "odict_iterator", "itertools.zip_longest", "itertools.pairwise"].contains n=false) (hQ:Q () s):wpAny M A (letOwnedTupleGo tg (.ref it) u) Q E s:=by
  unfold letOwnedTupleGo
  cases tg <;> first
    | exact wpAny_pure hQ
    | (cases u <;> first
        | exact wpAny_pure hQ
        | (refine wpAny_bind (wpAny_load ho ?_)
           rw [hc,hd]
           show wpAny M A (if (["enumerate", "zip", "dict_itemiterator", "dict_reverseitemiterator", "odict_iterator", "itertools.zip_longest", "itertools.pairwise"].contains n&&vs[0]? == some (rawInt _))=true then _ else _) Q E s
           rw [if_neg (by intro h;rw [hn,Bool.false_and] at h;cases h)]
           exact wpAny_pure hQ))
def Itl (K:PySem.W.Frag) (a:Addr):It:=
 ⟨fun i H=>∃ xs x,SqL K H a xs/\xs[i]? = some x,fun i H x H'=>H'=H /\ ∀ xs,SqL K H a xs->xs[i]? = some x,fun i H=>∃ xs,SqL K H a xs/\xs.length<=i⟩
def Itt (K:PySem.W.Frag) (a:Addr):It:=
 ⟨fun i H=>∃ xs x,SqT K H a xs/\xs[i]? = some x,fun i H x H'=>H'=H /\ ∀ xs,SqT K H a xs->xs[i]? = some x,fun i H=>∃ xs,SqT K H a xs/\xs.length<=i⟩
def Itr (lo:Int) (n:Nat):It:=⟨fun i _=>i<n,fun i H x H'=>H'=H/\x=.int (lo+i),fun i _=>n<=i⟩
theorem Vw {P:Program} {w:World} {K:PySem.W.Frag} {tg:Expr} (a it:Addr):Turn P w K tg (Itl K a) [it] it (fun i h=>h.IsListIter it a i) where
 mem:=by simp
 obj:=fun i h st b hb=>by
  have e:b=it:=by simpa using hb
  subst e
  obtain⟨o,e,c,d⟩:=st
  exact⟨o,e,fun v z=>by rw [d] at z;cases z⟩
 keep:=fun i h h' st k=>st.at fun o e=>k it (by simp) o e
 item:=by
  intro X hP hw hK hc i pins s σ H E I hf st hg
  subst hP hw hK
  obtain⟨xs,x,hq,hx⟩:=hg
  obtain⟨its,rv,p,hz⟩:=I.list hq
  obtain⟨u,hu,ru⟩:=rv.get hx
  obtain⟨f0,f1,f2,f3,f4,f5⟩:=hf it (by simp)
  refine wpAny_pyNext_list_item st p.isList (x:=u) (by simpa using hu) fun h' st' sb=>?_
  have I1:Inv X pins σ H { s with heap:=h' }:=I.turned (t':=s.toks) (fun b o hb e=>(sb.2 b hb).trans e) f0 f1 f3 f4 f5
  obtain⟨o,e,c,d⟩:=id st'
  exact⟨u,rfl,Lc (s:={ s with heap:=h' }) e c d (by decide) ⟨x,H,I1,ru,⟨rfl,fun ys hy=>by rw [I.list_inj hy hq];exact hx⟩,st',fun b hb=>(hf b hb).1⟩⟩
 done:=by
  intro X hP hw hK hc i pins s σ H E I hf st hg
  subst hP hw hK
  obtain⟨xs,hq,hx⟩:=hg
  obtain⟨its,rv,p,hz⟩:=I.list hq
  obtain⟨f0,f1,f2,f3,f4,f5⟩:=hf it (by simp)
  have hl:=rv.length
  exact wpAny_pyNext_list_end (I.ok.hd hc) st p.isList (by simp;omega) fun h' eb=>⟨rfl,I.turned (t':=s.toks) (fun b o hb e=>eb b o hb e) f0 f1 f3 f4 f5⟩
 self:=fun _ _ _ _ _ st h=>wpAny_pyIter_listiter st h
theorem Rf {P:Program} {w:World} {K:PySem.W.Frag} {tg:Expr} (a it:Addr):Turn P w K tg (Itt K a) [it] it (fun i h=>h.IsTupleIter it a i) where
 mem:=by simp
 obj:=fun i h st b hb=>by
  have e:b=it:=by simpa using hb
  subst e
  obtain⟨o,e,c,d⟩:=st
  exact⟨o,e,fun v z=>by rw [d] at z;cases z⟩
 keep:=fun i h h' st k=>st.at fun o e=>k it (by simp) o e
 item:=by
  intro X hP hw hK hc i pins s σ H E I hf st hg
  subst hP hw hK
  obtain⟨xs,x,hq,hx⟩:=hg
  obtain⟨its,rv,p,hz⟩:=I.tuple hq
  obtain⟨u,hu,ru⟩:=rv.get hx
  obtain⟨f0,f1,f2,f3,f4,f5⟩:=hf it (by simp)
  refine wpAny_pyNext_tuple_item st (show s.heap.IsTuple a its.toArray from p) (x:=u) (by simpa using hu) fun h' st' sb=>?_
  have I1:Inv X pins σ H { s with heap:=h' }:=I.turned (t':=s.toks) (fun b o hb e=>(sb.2 b hb).trans e) f0 f1 f3 f4 f5
  obtain⟨o,e,c,d⟩:=id st'
  exact⟨u,rfl,Lc (s:={ s with heap:=h' }) e c d (by decide) ⟨x,H,I1,ru,⟨rfl,fun ys hy=>by rw [I.tuple_inj hy hq];exact hx⟩,st',fun b hb=>(hf b hb).1⟩⟩
 done:=by
  intro X hP hw hK hc i pins s σ H E I hf st hg
  subst hP hw hK
  obtain⟨xs,hq,hx⟩:=hg
  obtain⟨its,rv,p,hz⟩:=I.tuple hq
  obtain⟨f0,f1,f2,f3,f4,f5⟩:=hf it (by simp)
  have hl:=rv.length
  exact wpAny_pyNext_tuple_end (I.ok.hd hc) st (show s.heap.IsTuple a its.toArray from p) (by simp;omega) fun h' eb=>⟨rfl,I.turned (t':=s.toks) (fun b o hb e=>eb b o hb e) f0 f1 f3 f4 f5⟩
 self:=fun _ _ _ _ _ st h=>wpAny_pyIter_tupleiter st h
theorem Re {P:Program} {w:World} {K:PySem.W.Frag} {tg:Expr} (it:Addr) (lo:Int) (n:Nat):Turn P w K tg (Itr lo n) [it] it (fun i h=>IsRangeIter h it (lo+(i:Nat) * 1) ((n:Int) - (i:Nat)) 1) where
 mem:=by simp
 obj:=fun i h st b hb=>by
  have e:b=it:=by simpa using hb
  subst e
  exact⟨_,st,fun v z=>by
   have z':Data.fields _=Data.cell v:=z
   cases z'⟩
 keep:=fun i h h' st k=>k it (by simp) _ st
 item:=by
  intro X hP hw hK hc i pins s σ H E I hf st hg
  subst hP hw hK
  obtain⟨f0,f1,f2,f3,f4,f5⟩:=hf it (by simp)
  have W:=Walks.range (prog:=X.prog) (w:=X.w) (I.ok.hd hc) it lo 1 n
  refine W.item i s _ _ hg st fun v h' tk hv st' kk=>?_
  obtain⟨t,rfl⟩:=hv
  have I1:Inv X pins σ H { s with heap:=h',toks:=tk }:=I.turned (fun b o hb e=>kk b o (by simpa using hb) e) f0 f1 f3 f4 f5
  refine⟨_,rfl,Lc (s:={ s with heap:=h',toks:=tk }) (n := "range_iterator") st' rfl rfl (by decide) ⟨.int (lo+i),H,I1,⟨t,?_⟩,⟨rfl,rfl⟩,st',fun b hb=>(hf b hb).1⟩⟩
  rw [Int.mul_one]
 done:=by
  intro X hP hw hK hc i pins s σ H E I hf st hg
  subst hP hw hK
  obtain⟨f0,f1,f2,f3,f4,f5⟩:=hf it (by simp)
  exact wpAny_pyNext_range_end (I.ok.hd hc) st (by have:n<=i:=hg;omega) fun h' eb=>⟨rfl,I.turned (t':=s.toks) (fun b o hb e=>eb b o hb e) f0 f1 f3 f4 f5⟩
 self:=fun _ _ _ _ _ st h=>wpAny_pyIter_rangeiter st h
section
variable {X:Cx} {tg:Expr}
theorem Pf {pins:List (Addr×Obj)} {σ:St} {H:Hp} {s:Shared} {R:It->Hp->Prop} {E:Value->Shared->Prop} {lo hi:Int} {t u v:Tok} {tk:Nat} (I:Inv X pins σ H s) (h1:-(2 ^ 62)<=lo) (h2:lo<2 ^ 62) (h3:-(2 ^ 62)<=hi) (h4:hi<2 ^ 62)
  (q:R (Itr lo (hi - lo).toNat) H):wpAny (model X.prog X.w) X.A (pyIter (.ref s.heap.objs.size)) (PIE X pins σ tg R) E { s with heap:=s.heap.push { cls:=.type "range", data:=.fields #[.int lo t,.int hi u,.int 1 v] },toks:=tk }:=by
 refine wpAny_pyIter_range (IsRange.new ..) (small_one h1 h2 h3 h4) ?_
 have I1:Inv X pins σ H { s with heap:=s.heap.push { cls:=.type "range", data:=.fields #[.int lo t,.int hi u,.int 1 v] },toks:=tk }:=I.kept fun b o e=>Heap.get?_push_of_some _ e
 refine⟨(s.heap.push { cls:=.type "range", data:=.fields #[.int lo t,.int hi u,.int 1 v] }).objs.size,[(s.heap.push { cls:=.type "range", data:=.fields #[.int lo t,.int hi u,.int 1 v] }).objs.size],_,_,H,rfl,
  I1.kept (t':=tk) fun b o e=>Heap.get?_push_of_some _ e,Re _ lo (hi - lo).toNat,?_,fun b hb=>?_,q⟩
 ·have e1:lo+((0:Nat):Int) * 1=lo:=by simp
  have e2:(((hi - lo).toNat:Nat):Int) - ((0:Nat):Int)=Builtin.Range.rangeSize lo hi 1:=by rw [rangeSize_one];split <;> omega
  show IsRangeIter _ _ (lo+((0:Nat):Int) * 1) ((((hi - lo).toNat:Nat):Int) - ((0:Nat):Int)) 1
  rw [e1,e2]
  exact Heap.get?_push_size _ rfl
 ·have e:b=(s.heap.push { cls:=.type "range", data:=.fields #[.int lo t,.int hi u,.int 1 v] }).objs.size:=by simpa using hb
  subst e
  exact I1.fpOk (Nat.le_refl _) (I1.hok.fresh (Nat.le_refl _))
def tFor (wi:TI) (g:TG) (tb:TS):TS:=fun D σ H=>wi σ H fun J H1=>∃ W:Nat->Nat->St->Hp->Prop,(∃ m,W 0 m σ H1) /\ ∀ i m σ H,W i m σ H ->
 (J.stop i H/\D.nx σ H)\/(J.go i H /\ ∃ N:St->Hp->Prop,(∀ σ' H',N σ' H' -> ∃ m',m'<m/\W (i+1) m' σ' H') /\ ∀ x H',J.yld i H x H'->g x σ H' fun σ2 H2=>tb { D with nx:=N,ct:=N,bk:=D.nx } σ2 H2)
def Ha (fp:List Addr) (h:Heap):List (Addr×Obj):=fp.filterMap fun b=>(h.get? b).map fun o=>(b,o)
theorem Eg {fp:List Addr} {h:Heap} {b:Addr} {o:Obj} (hb:b∈fp) (e:h.get? b=some o):(b,o)∈Ha fp h:=List.mem_filterMap.mpr ⟨b,hb,by rw [e];rfl⟩
theorem Vb {fp:List Addr} {h:Heap} {p:Addr×Obj} (hp:p∈Ha fp h):p.1∈fp/\h.get? p.1=some p.2:=by
 obtain⟨b,hb,e⟩:=List.mem_filterMap.mp hp
 cases q:h.get? b with
 | none=>rw [q] at e;cases e
 | some o=>
  rw [q] at e
  have e':(b,o)=p:=Option.some.inj e
  subst e'
  exact⟨hb,q⟩
theorem Inv.pinned {pins:List (Addr×Obj)} {σ:St} {H:Hp} {s:Shared} {fp:List Addr} (I:Inv X pins σ H s) (hf:∀ b∈fp,FpOk X pins H b) (ho:∀ b∈fp,∃ o,s.heap.get? b=some o /\ ∀ v,o.data≠.cell v):Inv X (pins++Ha fp s.heap) σ H s:=
 I.pins_of fun p hp=>(List.mem_append.mp hp).elim (fun z=>I.pin p (List.mem_append_right _ z)) fun z=>by
  obtain⟨hb,e⟩:=Vb z
  obtain⟨f0,f1,f2,_⟩:=hf p.1 hb
  obtain⟨o,e',d⟩:=ho p.1 hb
  rw [e] at e';cases e'
  exact⟨e,f0,f1,f2,d⟩
theorem Inv.unpinned {pins pl:List (Addr×Obj)} {σ:St} {H:Hp} {s:Shared} (I:Inv X (pins++pl) σ H s):Inv X pins σ H s:=I.pins_of fun p hp=>I.pin p (List.mem_append_right _ (List.mem_append_left _ hp))
theorem am8 {iter:Expr} {body:List Stmt} {wi:TI} {g:TG} {tb:TS} {pos:Pos} (hp:PassesOwn (model X.prog X.w) X.A X.env X.xe) (hc:X.calm=true) (hi:PI X tg iter wi) (hg:PG X tg g) (hb:PSs X body tb)
  (hs:∀ x,foldedSetIterable iter X.env x=pure x:=by intro _;rfl):PS X (.For tg iter body [] pos) (tFor wi g tb):=by
 intro pins s σ H D I h
 refine wpAny_For (thn (hi pins s σ H _ I h) fun v s1 h1=>thn h1 fun itv s2 h2=>?_) hs
 obtain⟨it,fp,tn,J,H2,e,I2,T,st2,f2,W,⟨m0,w0⟩,turn⟩:=h2
 subst e
 have stat:∀ {H':Hp},(∀ b∈fp,H' b=none) -> ∀ b∈fp,FpOk X pins H' b:=fun hn b hb=>⟨hn b hb,(f2 b hb).2⟩
 refine codeAny_forLoop_any (fun n s'=>∃ i σ' H',Inv X pins σ' H' s'/\tn i s'.heap/\(∀ b∈fp,H' b=none)/\W i n σ' H') ?_ m0 ⟨0,σ,H2,I2,st2,fun b hb=>(f2 b hb).1,w0⟩
 rintro n s3 ⟨i,σ3,H3,I3,st3,fr3,w3⟩
 rcases turn i n σ3 H3 w3 with ⟨stop,qn⟩|⟨go,N,hN,step⟩
 ·refine wpAny_passesOwn hp (thn (T.done X rfl rfl rfl hc i pins s3 σ3 H3 X.xe I3 (stat fr3) st3 stop) fun r s4 ⟨hr,I4⟩=>?_)
  subst hr
  exact wpAny_execs_nil ⟨σ3,H3,I4,qn⟩
 ·refine wpAny_passesOwn hp (thn (T.item X rfl rfl rfl hc i pins s3 σ3 H3 X.xe I3 (stat fr3) st3 go) fun r s4 ⟨u,hr,h4⟩=>?_)
  subst hr
  refine wpAny_passesOwn hp (thn h4 fun _ s5 ⟨x,H5,I5,r5,y5,st5,fr5⟩=>?_)
  have I5':=I5.pinned (stat fr5) (T.obj _ _ st5)
  refine wpAny_passesOwn hp (thn (hg _ s5 σ3 H5 x u _ I5' r5 (step x H5 y5)) fun _ s6 ⟨σ6,H6,I6,q6⟩=>?_)
  refine wpAny_passesOwn hp (thn (hb _ s6 σ6 H6 _ I6 q6) fun f s7 q7=>?_)
  have again:∀ {σ7:St} {H7:Hp},Inv X (pins++Ha fp s5.heap) σ7 H7 s7->N σ7 H7 -> ∃ m,m<n /\ ∃ i σ' H',Inv X pins σ' H' s7/\tn i s7.heap/\(∀ b∈fp,H' b=none)/\W i m σ' H':=fun {σ7 H7} I7 n7=>by
   obtain⟨m',hm,w7⟩:=hN σ7 H7 n7
   refine⟨m',hm,i+1,σ7,H7,I7.unpinned,T.keep _ _ _ st5 fun b hb o e=>(I7.pin (b,o) (List.mem_append_right _ (List.mem_append_right _ (Eg hb e)))).1,fun b hb=>?_,w7⟩
   obtain⟨o,e,d⟩:=T.obj _ _ st5 b hb
   exact (I7.pin (b,o) (List.mem_append_right _ (List.mem_append_right _ (Eg hb e)))).2.1
  cases f with
  | next=>obtain⟨σ7,H7,I7,n7⟩:=q7;exact again I7 n7
  | cont=>obtain⟨σ7,H7,I7,n7⟩:=q7;exact again I7 n7
  | brk=>obtain⟨σ7,H7,I7,q7⟩:=q7;exact⟨σ7,H7,I7.unpinned,q7⟩
  | ret v=>obtain⟨x7,σ7,H7,I7,r7,q7⟩:=q7;exact⟨x7,σ7,H7,I7.unpinned,r7,q7⟩
end
abbrev R2:=V->V->Hp->VK->Prop
def OpR (X:Cx) (f:Value->Value->Sem Value) (r:R2):Prop:=
 ∀ (pins:List (Addr×Obj)) (s:Shared) (σ:St) (H:Hp) (x y:V) (v u:Value) (Q:VK),Inv X pins σ H s->RelV x v->RelV y u->r x y H Q ->
  wpAny (model X.prog X.w) X.A (f v u) (EP X pins σ Q) X.xe s
def UnR (X:Cx) (f:Value->Sem Value) (r:V->Hp->VK->Prop):Prop:=
 ∀ (pins:List (Addr×Obj)) (s:Shared) (σ:St) (H:Hp) (x:V) (v:Value) (Q:VK),Inv X pins σ H s->RelV x v->r x H Q ->
  wpAny (model X.prog X.w) X.A (f v) (EP X pins σ Q) X.xe s
def Cr (X:Cx) (f:Value) (r:List V->Hp->VK->Prop):Prop:=
 ∀ (pins:List (Addr×Obj)) (s:Shared) (σ:St) (H:Hp) (xs:List V) (us:List Value) (Q:VK),Inv X pins σ H s->Vals xs us->r xs H Q ->
  wpAny (model X.prog X.w) X.A (call f us) (EP X pins σ Q) X.xe s
def TruR (X:Cx) (r:V->Hp->(Bool->Hp->Prop)->Prop):Prop:=
 ∀ (pins:List (Addr×Obj)) (s:Shared) (σ:St) (H:Hp) (x:V) (v:Value) (Q:Bool->Hp->Prop),Inv X pins σ H s->RelV x v->r x H Q ->
  wpAny (model X.prog X.w) X.A (truthy v) (TP X pins σ Q) X.xe s
def tOp (r:R2) (ta tb:TE):TE:=fun σ H Q=>ta σ H fun x H1=>tb σ H1 fun y H2=>r x y H2 Q
def tUn (r:V->Hp->VK->Prop) (ta:TE):TE:=fun σ H Q=>ta σ H fun x H1=>r x H1 Q
def rI (C:Int->Int->Prop) (g:Int->Int->V):R2:=fun x y H Q=>∃ i j,x=.int i/\y=.int j/\C i j/\Q (g i j) H
def rI0 (g:Int->Int->V):R2:=fun x y H Q=>∃ i j,x=.int i/\y=.int j/\Q (g i j) H
def rU (g:Int->V):V->Hp->VK->Prop:=fun x H Q=>∃ i,x=.int i/\Q (g i) H
section
variable {X:Cx} {a b c:Expr} {ta tb tc:TE} {pos:Pos}
theorem binT (ha:PE X a ta) (hb:PE X b tb) {pins:List (Addr×Obj)} {s:Shared} {σ:St} {H:Hp} {R:V->V->Hp->Prop} (I:Inv X pins σ H s)
  (h:ta σ H fun x H1=>tb σ H1 fun y H2=>R x y H2) {Q:Value->Shared->Prop} {f:Value->Value->Sem Value}
  (hf:∀ v u s2 x y H2,Inv X pins σ H2 s2->RelV x v->RelV y u->R x y H2->wpAny (model X.prog X.w) X.A (f v u) Q X.xe s2) :
  wpAny (model X.prog X.w) X.A (eval a X.env) (fun v s₁=>wpAny (model X.prog X.w) X.A (eval b X.env) (fun u s₂=>wpAny (model X.prog X.w) X.A (f v u) Q X.xe s₂) X.xe s₁) X.xe s:=by
 refine thn (ha pins s σ H _ I h) fun v s1 ⟨x,H1,I1,r1,q1⟩=>?_
 refine thn (hb pins s1 σ H1 _ I1 q1) fun u s2 ⟨y,H2,I2,r2,q2⟩=>?_
 exact hf v u s2 x y H2 I2 r1 r2 q2
theorem az2 {op:Operator} {r:R2} (ho:OpR X (binaryOp op) r) (ha:PE X a ta) (hb:PE X b tb):PE X (.BinOp a op b pos) (tOp r ta tb):=by
 intro pins s σ H Q I h
 exact wpAny_BinOp (binT ha hb I h fun v u s2 x y H2 I2 rx ry q=>ho pins s2 σ H2 x y v u Q I2 rx ry q)
theorem ag3 {op:UnaryOp} {r:V->Hp->VK->Prop} (ho:UnR X (unaryOp op) r) (ha:PE X a ta):PE X (.UnaryOp op a pos) (tUn r ta):=by
 intro pins s σ H Q I h
 exact UnaryOp_ (thn (ha pins s σ H _ I h) fun v s1 ⟨x,H1,I1,r1,q1⟩=>ho pins s1 σ H1 x v Q I1 r1 q1)
theorem opI {f:Value->Value->Sem Value} {C:Int->Int->Prop} {g:Int->Int->Int}
  (rule:∀ (i j:Int) (t u:Tok) (s:Shared) (Q:Value->Shared->Prop) (E:Value->Shared->Prop),C i j->Q (.int (g i j) s.toks) { s with toks:=s.toks+1 }->wpAny (model X.prog X.w) X.A (f (.int i t) (.int j u)) Q E s) :
  OpR X f (rI C fun i j=>.int (g i j)):=by
 intro pins s σ H x y v u Q I rx ry h
 obtain⟨i,j,rfl,rfl,hc,q⟩:=h
 obtain⟨t,rfl⟩:=rx
 obtain⟨t',rfl⟩:=ry
 exact rule i j t t' s _ _ hc ⟨.int (g i j),H,I.tok _,⟨_,rfl⟩,q⟩
theorem opI0 {f:Value->Value->Sem Value} {g:Int->Int->Int}
  (rule:∀ (i j:Int) (t u:Tok) (s:Shared) (Q:Value->Shared->Prop) (E:Value->Shared->Prop),Q (.int (g i j) s.toks) { s with toks:=s.toks+1 }->wpAny (model X.prog X.w) X.A (f (.int i t) (.int j u)) Q E s) :
  OpR X f (rI0 fun i j=>.int (g i j)):=by
 intro pins s σ H x y v u Q I rx ry h
 obtain⟨i,j,rfl,rfl,q⟩:=h
 obtain⟨t,rfl⟩:=rx
 obtain⟨t',rfl⟩:=ry
 exact rule i j t t' s _ _ ⟨.int (g i j),H,I.tok _,⟨_,rfl⟩,q⟩
theorem opB0 {f:Value->Value->Sem Value} {g:Int->Int->Bool}
  (rule:∀ (i j:Int) (t u:Tok) (s:Shared) (Q:Value->Shared->Prop) (E:Value->Shared->Prop),Q (.bool (g i j)) s->wpAny (model X.prog X.w) X.A (f (.int i t) (.int j u)) Q E s) :
  OpR X f (rI0 fun i j=>.bl (g i j)):=by
 intro pins s σ H x y v u Q I rx ry h
 obtain⟨i,j,rfl,rfl,q⟩:=h
 obtain⟨t,rfl⟩:=rx
 obtain⟨t',rfl⟩:=ry
 exact rule i j t t' s _ _ ⟨.bl (g i j),H,I,rfl,q⟩
def CDiv (i j:Int):Prop:=0<j/\j<1073741824
def CPow (i j:Int):Prop:=0<=j/\j<=1000000/\i.natAbs<2 ^ 64
def CMul (i j:Int):Prop:=(-(2 ^ 64)<i/\i<2 ^ 64)\/(-(2 ^ 64)<j/\j<2 ^ 64)
theorem CMul.ok {i j:Int} (h:CMul i j):IntMulOk i j:=by
 rcases h with ⟨h1,h2⟩|⟨h1,h2⟩
 ·exact .of_left (intBits_le_64 h1 h2)
 ·exact .of_right (intBits_le_64 h1 h2)
theorem Rg (k:Nat):(0:Int)<=2 ^ k:=by
 rw [two_pow_cast]
 exact Int.natCast_nonneg _
theorem ak6:OpR X (binaryOp .Add) (rI0 fun i j=>.int (i+j)):=opI0 fun _ _ _ _ _ _ _ q=>add_int q
theorem al7:OpR X (binaryOp .Sub) (rI0 fun i j=>.int (i - j)):=opI0 fun _ _ _ _ _ _ _ q=>sub_int q
theorem al2:OpR X (binaryOp .Mult) (rI CMul fun i j=>.int (i * j)):=opI fun _ _ _ _ _ _ _ hc q=>mul_int q hc.ok
theorem aa7:OpR X (binaryOp .FloorDiv) (rI CDiv fun i j=>.int (i / j)):=opI fun i j _ _ _ _ _ hc q=>by
 have h1:(0:Int)<j:=hc.1
 have h2:j<1073741824:=hc.2
 exact floordiv_int (by omega) (by rw [Int.fdiv_eq_ediv_of_nonneg i (by omega)];exact q) (.inl (PyProof.noPylong_small (by omega)))
theorem al1:OpR X (binaryOp .Mod) (rI (fun _ j=>0<j) fun i j=>.int (i % j)):=opI fun i j _ _ _ _ _ hc q=>by
 have h1:(0:Int)<j:=hc
 exact mod_int' (by omega) (by rw [Int.fmod_eq_emod_of_nonneg i (by omega)];exact q)
theorem al5:OpR X (binaryOp .LShift) (rI CPow fun i j=>.int (i * 2 ^ j.toNat)):=opI fun _ _ _ _ _ _ _ hc q=>lshift_int_small hc.1 hc.2.1 hc.2.2 q
theorem al6:OpR X (binaryOp .RShift) (rI (fun _ j=>0<=j) fun i j=>.int (i / 2 ^ j.toNat)):=opI fun i j _ _ _ _ _ hc q=>
 rshift_int hc (by rw [Int.fdiv_eq_ediv_of_nonneg i (Rg _)];exact q)
theorem ak7:OpR X (binaryOp .BitAnd) (rI0 fun i j=>.int (Builtin.bitAnd i j)):=opI0 fun _ _ _ _ _ _ _ q=>and_int q
theorem ay9:OpR X (binaryOp .BitOr) (rI0 fun i j=>.int (Builtin.bitOr i j)):=opI0 fun _ _ _ _ _ _ _ q=>or_int q
theorem unI {f:Value->Sem Value} {g:Int->Int}
  (rule:∀ (i:Int) (t:Tok) (s:Shared) (Q:Value->Shared->Prop) (E:Value->Shared->Prop),Q (.int (g i) s.toks) { s with toks:=s.toks+1 }->wpAny (model X.prog X.w) X.A (f (.int i t)) Q E s) :
  UnR X f (rU fun i=>.int (g i)):=by
 intro pins s σ H x v Q I rx h
 obtain⟨i,rfl,q⟩:=h
 obtain⟨t,rfl⟩:=rx
 exact rule i t s _ _ ⟨.int (g i),H,I.tok _,⟨_,rfl⟩,q⟩
theorem as9:UnR X (unaryOp .USub) (rU fun i=>.int (-i)):=unI fun _ _ _ _ _ q=>neg_int q
theorem as8:UnR X (unaryOp .Invert) (rU fun i=>.int (Builtin.bitNot i)):=unI fun _ _ _ _ _ q=>invert_int q
end
def scal:V->V->Bool
 | .non,.non=>true | .non,.int _=>true | .int _,.non=>true | .non,.bl _=>true | .bl _,.non=>true | .non,.str _=>true | .str _,.non=>true
 | .int _,.int _=>true | .bl _,.bl _=>true | .str _,.str _=>true | .byt _,.byt _=>true
 | .int _,.str _=>true | .str _,.int _=>true | .bl _,.str _=>true | .str _,.bl _=>true
 | _,_=>false
def rEq:R2:=fun x y H Q=>scal x y=true/\Q (.bl (decide (x=y))) H
def rNe:R2:=fun x y H Q=>scal x y=true/\Q (.bl (!decide (x=y))) H
theorem Hx {i j:Int}:decide (V.int i=V.int j)=(i==j):=by
 rw [Bool.eq_iff_iff]
 simp
theorem Ms {i j:Bool}:decide (V.bl i=V.bl j)=(i==j):=by
 rw [Bool.eq_iff_iff]
 simp
theorem Hy {i j:Str}:decide (V.str i=V.str j)=(i==j):=by
 rw [Bool.eq_iff_iff]
 simp
theorem Rv {i j:Array UInt8}:decide (V.byt i=V.byt j)=(i.toList==j.toList):=by
 rw [Bool.eq_iff_iff]
 cases i
 cases j
 simp
section
variable {X:Cx} {a b c:Expr} {ta tb tc:TE} {pos:Pos}
theorem Ap {pins:List (Addr×Obj)} {σ:St} {H:Hp} {s:Shared} {Q:VK} {k k':Bool} (I:Inv X pins σ H s) (q:Q (.bl k) H) (e:k=k'):EP X pins σ Q (.bool k') s:=by
 subst e
 exact⟨.bl k,H,I,rfl,q⟩
theorem Ss:OpR X (compareOp .Eq) rEq:=by
 intro pins s σ H x y v u Q I rx ry h
 obtain⟨hs,q⟩:=h
 cases x with
 | non=>
  cases rx
  cases y with
  | non=>cases ry;exact PySem.EqNone.eq_none_none (Ap I q (by simp))
  | bl j=>cases ry;exact PySem.EqNone.eq_none_bool (Ap I q (by simp))
  | int j=>obtain⟨t',rfl⟩:=ry;exact PySem.EqNone.eq_none_int (Ap I q (by simp))
  | str j=>obtain⟨t',rfl⟩:=ry;exact PySem.EqNone.eq_none_str (Ap I q (by simp))
  | _=>exact absurd (show false=true from hs) Bool.false_ne_true
 | bl i=>
  cases rx
  cases y with
  | non=>cases ry;exact PySem.EqNone.eq_bool_none (Ap I q (by simp))
  | bl j=>cases ry;exact eq_bool (Ap I q Ms)
  | str j=>obtain⟨t',rfl⟩:=ry;exact PySem.EqMixed.eq_bool_str (Ap I q (by simp))
  | _=>exact absurd (show false=true from hs) Bool.false_ne_true
 | int i=>
  obtain⟨t,rfl⟩:=rx
  cases y with
  | non=>cases ry;exact PySem.EqNone.eq_int_none (Ap I q (by simp))
  | int j=>obtain⟨t',rfl⟩:=ry;exact eq_int (Ap I q Hx)
  | str j=>obtain⟨t',rfl⟩:=ry;exact PySem.EqMixed.eq_int_str (Ap I q (by simp))
  | _=>exact absurd (show false=true from hs) Bool.false_ne_true
 | str i=>
  obtain⟨t,rfl⟩:=rx
  cases y with
  | non=>cases ry;exact PySem.EqNone.eq_str_none (Ap I q (by simp))
  | bl j=>cases ry;exact PySem.EqMixed.eq_str_bool (Ap I q (by simp))
  | int j=>obtain⟨t',rfl⟩:=ry;exact PySem.EqMixed.eq_str_int (Ap I q (by simp))
  | str j=>obtain⟨t',rfl⟩:=ry;exact eq_str (Ap I q Hy)
  | _=>exact absurd (show false=true from hs) Bool.false_ne_true
 | byt i=>
  obtain⟨t,rfl⟩:=rx
  cases y with
  | byt j=>obtain⟨t',rfl⟩:=ry;exact PySem.W.eq_bytes (Ap I q Rv)
  | _=>exact absurd (show false=true from hs) Bool.false_ne_true
 | _=>cases y <;> exact absurd (show false=true from hs) Bool.false_ne_true
theorem Sv:OpR X (compareOp .NotEq) rNe:=by
 intro pins s σ H x y v u Q I rx ry h
 obtain⟨hs,q⟩:=h
 cases x with
 | non=>
  cases rx
  cases y with
  | non=>cases ry;exact PySem.EqNone.ne_none_none (Ap I q (by simp))
  | bl j=>cases ry;exact PySem.EqNone.ne_none_bool (Ap I q (by simp))
  | int j=>obtain⟨t',rfl⟩:=ry;exact PySem.EqNone.ne_none_int (Ap I q (by simp))
  | str j=>obtain⟨t',rfl⟩:=ry;exact PySem.EqNone.ne_none_str (Ap I q (by simp))
  | _=>exact absurd (show false=true from hs) Bool.false_ne_true
 | bl i=>
  cases rx
  cases y with
  | non=>cases ry;exact PySem.EqNone.ne_bool_none (Ap I q (by simp))
  | bl j=>cases ry;exact ne_bool (Ap I q (congrArg not Ms))
  | str j=>obtain⟨t',rfl⟩:=ry;exact PySem.EqMixed.ne_bool_str (Ap I q (by simp))
  | _=>exact absurd (show false=true from hs) Bool.false_ne_true
 | int i=>
  obtain⟨t,rfl⟩:=rx
  cases y with
  | non=>cases ry;exact PySem.EqNone.ne_int_none (Ap I q (by simp))
  | int j=>obtain⟨t',rfl⟩:=ry;exact ne_int (Ap I q (congrArg not Hx))
  | str j=>obtain⟨t',rfl⟩:=ry;exact PySem.EqMixed.ne_int_str (Ap I q (by simp))
  | _=>exact absurd (show false=true from hs) Bool.false_ne_true
 | str i=>
  obtain⟨t,rfl⟩:=rx
  cases y with
  | non=>cases ry;exact PySem.EqNone.ne_str_none (Ap I q (by simp))
  | bl j=>cases ry;exact PySem.EqMixed.ne_str_bool (Ap I q (by simp))
  | int j=>obtain⟨t',rfl⟩:=ry;exact PySem.EqMixed.ne_str_int (Ap I q (by simp))
  | str j=>obtain⟨t',rfl⟩:=ry;exact ne_str (Ap I q (congrArg not Hy))
  | _=>exact absurd (show false=true from hs) Bool.false_ne_true
 | byt i=>
  obtain⟨t,rfl⟩:=rx
  cases y with
  | byt j=>obtain⟨t',rfl⟩:=ry;exact PySem.W.ne_bytes (Ap I q (congrArg not Rv))
  | _=>exact absurd (show false=true from hs) Bool.false_ne_true
 | _=>cases y <;> exact absurd (show false=true from hs) Bool.false_ne_true
theorem ay8:OpR X (compareOp .Lt) (rI0 fun i j=>.bl (decide (i<j))):=opB0 fun _ _ _ _ _ _ _ q=>lt_int q
theorem ay7:OpR X (compareOp .LtE) (rI0 fun i j=>.bl (decide (i<=j))):=opB0 fun _ _ _ _ _ _ _ q=>le_int q
theorem ay6:OpR X (compareOp .Gt) (rI0 fun i j=>.bl (decide (j<i))):=opB0 fun _ _ _ _ _ _ _ q=>gt_int q
theorem ay5:OpR X (compareOp .GtE) (rI0 fun i j=>.bl (decide (j<=i))):=opB0 fun _ _ _ _ _ _ _ q=>ge_int q
theorem Ve:OpR X (compareOp .Lt) (fun x y H Q=>∃ i j,x=.str i/\y=.str j/\Q (.bl (decide (i.cps.toList<j.cps.toList))) H):=by
 intro pins s σ H x y v u Q I rx ry h
 obtain⟨i,j,rfl,rfl,q⟩:=h
 obtain⟨t,rfl⟩:=rx
 obtain⟨t',rfl⟩:=ry
 exact lt_str (Ap I q rfl)
theorem al0:OpR X (compareOp .Is) (fun x y H Q=>y=.non/\Q (.bl (decide (x=.non))) H):=by
 intro pins s σ H x y v u Q I rx ry h
 obtain⟨rfl,q⟩:=h
 cases ry
 refine is_none_gen (Ap I q ?_)
 cases x <;> first
  | (cases rx;rfl)
  | (obtain⟨t,rfl⟩:=rx;rfl)
theorem aa8:OpR X (compareOp .IsNot) (fun x y H Q=>y=.non/\Q (.bl (!decide (x=.non))) H):=by
 intro pins s σ H x y v u Q I rx ry h
 obtain⟨rfl,q⟩:=h
 cases ry
 refine isnot_none_gen (Ap I q ?_)
 cases x <;> first
  | (cases rx;rfl)
  | (obtain⟨t,rfl⟩:=rx;rfl)
theorem OpR.or {f:Value->Value->Sem Value} {r r':R2} (h:OpR X f r) (h':OpR X f r'):OpR X f (fun x y H Q=>r x y H Q\/r' x y H Q):=by
 intro pins s σ H x y v u Q I rx ry q
 rcases q with q|q
 ·exact h pins s σ H x y v u Q I rx ry q
 ·exact h' pins s σ H x y v u Q I rx ry q
theorem ab1 {op:CmpOp} {r:R2} (ho:OpR X (compareOp op) r) (ha:PE X a ta) (hb:PE X b tb) (hm:behindInMarks op b=false):PE X (.Compare a [op] [b] pos) (tOp r ta tb):=by
 intro pins s σ H Q I h
 exact wpAny_Compare1 (binT ha hb I h fun v u s2 x y H2 I2 rx ry q=>ho pins s2 σ H2 x y v u Q I2 rx ry q) hm
def TruV (K:PySem.W.Frag) (x:V) (H:Hp) (k:Bool):Prop:=
 match x with
 | .non=>k=false
 | .bl b=>k=b
 | .int i=>k=(i != 0)
 | .str y=>y.length<=sizeLine/\k=((y.length:Int) != 0)
 | .byt y=>y.size<=sizeLine/\k=((y.size:Int) != 0)
 | .ref p=>(∃ xs,SqL K H p xs/\k = !xs.isEmpty)\/(∃ xs,SqT K H p xs/\k = !xs.isEmpty) \/ ∃ kvs,H p=some (.dK kvs)/\k = !kvs.isEmpty
 | _=>False
theorem Qm {κ:Type} {kvs:List (κ×V)} {vs:List (κ×Value)} (r:KV kvs vs):(!vs.isEmpty) = !kvs.isEmpty:=by
 cases r <;> rfl
theorem Je {xs:List V} {its:List Value} (r:Vals xs its):(!its.toArray.isEmpty) = !xs.isEmpty:=by
 cases r <;> simp
theorem Fp:(sizeLine:Nat)<2 ^ 63:=by rw [sizeLine_eq];decide
theorem Kd:TruR X (fun x H Q=>∃ k,TruV X.K x H k/\Q k H):=by
 intro pins s σ H x v Q I rx h
 obtain⟨k,e,q⟩:=h
 have hl:=Fp
 have hs:sizeLine=16777216:=sizeLine_eq
 cases x with
 | non=>
  cases rx
  have e':k=false:=e
  subst e'
  exact truthy_none ⟨H,I,q⟩
 | bl b=>
  cases rx
  have e':k=b:=e
  subst e'
  exact wpAny_truthy_bool ⟨H,I,q⟩
 | int i=>
  obtain⟨t,rfl⟩:=rx
  have e':k=(i != 0):=e
  subst e'
  exact PySem.P.truthy_int ⟨H,I,q⟩
 | str y=>
  obtain⟨t,rfl⟩:=rx
  obtain⟨hy,e'⟩:y.length<=sizeLine/\k=((y.length:Int) != 0):=e
  subst e'
  exact PySem.P.truthy_str (by omega) ⟨H,I.tok _,q⟩
 | byt y=>
  obtain⟨t,rfl⟩:=rx
  obtain⟨hy,e'⟩:y.size<=sizeLine/\k=((y.size:Int) != 0):=e
  subst e'
  exact PySem.W.truthy_bytes (by omega) ⟨H,I.tok _,q⟩
 | ref p=>
  cases rx
  have e':(∃ xs,SqL X.K H p xs/\k = !xs.isEmpty)\/(∃ xs,SqT X.K H p xs/\k = !xs.isEmpty) \/ ∃ kvs,H p=some (.dK kvs)/\k = !kvs.isEmpty:=e
  rcases e' with ⟨xs,hx,e'⟩|⟨xs,hx,e'⟩|⟨kvs,hx,e'⟩
  ·subst e'
   obtain⟨its,r,pl,hz⟩:=I.list hx
   have hlen:=r.length
   exact wpAny_truthy_list pl.isList (by simp only [List.size_toArray];omega) ⟨H,I.tok _,by rw [Je r];exact q⟩
  ·subst e'
   obtain⟨its,r,pl,hz⟩:=I.tuple hx
   have hlen:=r.length
   exact truthy_tuple pl (by simp only [List.size_toArray];omega) ⟨H,I.tok _,by rw [Je r];exact q⟩
  ·subst e'
   obtain⟨hz,hS,vs,r,m⟩:kvs.length<=sizeLine/\(p==sysModules)=false /\ ∃ vs,KV kvs vs/\s.heap.DictOf (A0 X.prog X.w) p vs:=I.hok p _ hx
   have hlen:kvs.length=vs.length:=Paired.length r
   exact wpAny_truthy_dict hS m (by omega) ⟨H,I.tok _,by rw [Qm r];exact q⟩
 | _=>exact (show False from e).elim
theorem Qw:OpR X (binaryOp .Add) (fun x y H Q=>∃ i j,x=.str i/\y=.str j/\i.length+j.length<=sizeLine/\Q (.str (i++j)) H):=by
 intro pins s σ H x y v u Q I rx ry h
 obtain⟨i,j,rfl,rfl,hz,q⟩:=h
 obtain⟨t,rfl⟩:=rx
 obtain⟨t',rfl⟩:=ry
 exact add_str (fun t' tk=>⟨.str (i++j),H,I.tok _,⟨_,rfl⟩,q⟩) hz
theorem Gp {x:V} {us:List Value} (r:Vals [x] us):∃ u,us=[u]/\RelV x u:=by
 cases r with
 | cons r1 r2=>cases r2;exact⟨_,rfl,r1⟩
theorem a74 {x y:V} {us:List Value} (r:Vals [x,y] us):∃ u w',us=[u,w']/\RelV x u/\RelV y w':=by
 cases r with
 | cons r1 r2=>
  cases r2 with
  | cons r3 r4=>cases r4;exact⟨_,_,rfl,r1,r3⟩
theorem K1:Cr X (.type "int") (fun xs H Q=>(∃ i,xs=[.int i]/\Q (.int i) H) \/ ∃ k,xs=[.bl k]/\Q (.int (if k then 1 else 0)) H):=by
 intro pins s σ H xs us Q I r h
 rcases h with ⟨i,rfl,q⟩|⟨k,rfl,q⟩
 ·obtain⟨u,rfl,t,rfl⟩:=Gp r
  exact call_int_int ⟨.int i,H,I,⟨_,rfl⟩,q⟩
 ·obtain⟨u,rfl,r1⟩:=Gp r
  cases r1
  exact call_int_bool ⟨.int (if k then 1 else 0),H,I.tok _,⟨_,rfl⟩,q⟩
end
structure ObjM (h:Heap) (x dx C:Addr) (mA:Str->Option Value):Prop where
 obj:h.get? x=some (PySem.W.instObj C dx)
 ns:h.Ns1 dx mA
 ne:dx≠x
theorem Lr {h:Heap} {dx:Addr} {mA:Str->Option Value} (n:h.Ns1 dx mA):∃ od,h.get? dx=some od /\ ∀ name,PySem.W.lookIn name od=some (mA name):=by
 obtain⟨o,es,ep,ho,hd,hk,_,hm⟩:=n
 refine⟨o,ho,fun name=>?_⟩
 have e:=hm name
 unfold nsFind findBy at e
 rw [<- Array.find?_toList] at e
 unfold PySem.W.lookIn
 rw [hd]
 dsimp only
 split
 ·rename_i y q
  rw [q] at e
  exact congrArg some e
 ·rename_i q
  rw [q] at e
  have a:es.toList.any (·.refKey)=false:=by
   rw [List.any_eq_false]
   intro y hy
   obtain⟨z,t,hkey⟩:=hk y (Array.mem_toList_iff.mp hy)
   simp [DictEntry.refKey,hkey]
  have a':¬ es.toList.any (·.refKey)=true:=by rw [a];exact Bool.false_ne_true
  rw [if_neg a']
  exact congrArg some e
theorem ObjM.look {h:Heap} {x dx C:Addr} {mA:Str->Option Value} (I:ObjM h x dx C mA):∃ od,PySem.W.InstAt h x (PySem.W.instObj C dx) C (some od) /\ ∀ name,PySem.W.lookIn name od=some (mA name):=
 let ⟨od,ho,hl⟩:=Lr I.ns
 ⟨od,⟨I.obj,rfl,rfl,ho⟩,hl⟩
section
variable {prog:Program} {w:World} {A:Around} {E:Value->Shared->Prop} {s:Shared} {K:PySem.W.Frag} {x dx C f:Addr} {mA:Str->Option Value} {name:Str} {v:Value}
theorem Am {expr:Bool} {Q:Value->Shared->Prop} (X:K.In s.heap) (I:ObjM s.heap x dx C mA) (hg:PySem.W.plainGet K C name=true) (hh:PySem.W.hasDictIn K C=true)
  (ha:PySem.W.findIn K (.ref C) name=some none) (hv:mA name=some v) (hv':PySem.W.handedIn v=true) (h:Q v { s with toks:=s.toks+1 }) :
  wpAny (model prog w) A (getAttr (.ref x) name expr) Q E s:=by
 obtain⟨od,J,hl⟩:=I.look
 exact PySem.W.get_value X J (PySem.W.plainGet_of hg).1 (PySem.W.findObj_own hh ha rfl (by rw [hl,hv])) hv' h
theorem W7 {pl:Sem Bool} {Q:Value×List Value->Shared->Prop} (X:K.In s.heap) (I:ObjM s.heap x dx C mA) (hg:PySem.W.plainGet K C name=true)
  (hf:PySem.W.findIn K (.ref C) name=some (some (.ref f))) (ht:PySem.W.isFn K (.ref f)=true) (hv:mA name=none) (h:Q (.ref f,[.ref x]) s) :
  wpAny (model prog w) A (getMethod (.ref x) name pl) Q E s:=by
 obtain⟨od,J,hl⟩:=I.look
 exact PySem.W.method_fn X J (PySem.W.plainGet_of hg).1 (PySem.W.plainGet_of hg).2 hf (beq_iff_eq.mp ht) (by show (PySem.W.lookIn name od).map (·.isSome)=some false;rw [hl,hv];rfl) h
theorem ad8 {ns:List Str} {Q:Unit->Shared->Prop} (X:K.In s.heap) (I:ObjM s.heap x dx C mA)
  (hs:PySem.W.findIn K (.ref C) "__setattr__" = some (some (.builtin "object.__setattr__"))) (hp:PySem.W.plainOver K C=true) (ht:PySem.W.takerIn K C name=some none) (hh:PySem.W.hasDictIn K C=true)
  (hw:PySem.Within mA ns) (hsz:ns.length<=sizeLine)
  (h:∀ h',ObjM h' x dx C (fun y=>if y=name then some v else mA y)->Heap.SameBut dx s.heap h'->Q () { s with heap:=h',toks:=s.toks+2 }) :
  wpAny (model prog w) A (setAttr (.ref x) name v) Q E s:=by
 obtain⟨od,J,hl⟩:=I.look
 refine PySem.W.set_plain X J hs (PySem.W.osa_open (s:={ s with toks:=s.toks+1 }) (r:=none) X J hp ht fun b=>?_)
 obtain⟨cd,hc,hd'⟩:=PySem.W.any_some hh
 have hx:s.heap.get? x=some ⟨.ref C,some dx,.plain,#[]⟩:=I.obj
 refine wpAny_bind (wpAny_pure (wpAny_bind (wpAny_bind (wpAny_loadPart hx (wpAny_bind (PySem.W.Looks.here (s:={ s with toks:=s.toks+1 }) (PySem.W.looks_clsIn X hc) ?_))))))
 rw [hd']
 refine wpAny_pure (a:=some dx) (wpAny_bind (wpAny_pure (wpAny_bind ?_)))
 refine wpAny_nsSet1 (s:={ s with toks:=s.toks+1 }) I.ns fun h' hn2 hs2=>?_
 obtain⟨oD,esD,epD,hoD,hdD,hcD⟩:=hn2.count (PySem.Within.cons name v hw)
 refine wpAny_bind (wpAny_lookBehind hoD (by rw [hdD];exact pastItsLine_dict (Nat.le_trans hcD (by rw [List.length_cons];omega))) ?_)
 exact wpAny_pure (h _ ⟨(hs2.2 _ (Ne.symm I.ne)).trans I.obj,hn2,I.ne⟩ hs2)
theorem Xg {R:Result->Shared->Prop} {vs:List Value} {kw:List (Str×Value)} (X:K.In s.heap) (hm:PySem.W.makesIn K C=true)
  (hi:PySem.W.findIn K (.ref C) "__init__" = some (some (.ref f))) (hf:PySem.W.typeIn K (.ref f)=some (.type "function"))
  (h:codeAny (model prog w) (A.under (.builtin "type.__call__" ⟨.ref C::vs,kw⟩)) (.call (.ref f) ⟨.ref (s.heap.objs.size+1)::vs,kw⟩) (PySem.W.InitBack (s.heap.objs.size+1) R)
   {s with heap:=(s.heap.push PySem.W.emptyDict).push (PySem.W.instObj C s.heap.objs.size) }) :
  codeAny (model prog w) A (.call (.ref C) ⟨vs,kw⟩) R s:=by
 obtain⟨hh,g,d,t,os⟩:=s
 exact PySem.W.make_core (PySem.W.makes_of X hm) (PySem.W.looks_findIn X hi) (fun self=>PySem.W.bind_fn X self hf) (.inl rfl) h
theorem Uy {R:Result->Shared->Prop} (X:K.In s.heap) (hm:PySem.W.makesIn K C=true)
  (hi:PySem.W.findIn K (.ref C) "__init__" = some (some (.builtin "object.__init__")))
  (hb:∀ self,PySem.W.Looks (model prog w) s.heap (bindSpecial (.builtin "object.__init__") self) (.builtin "object.__init__", [self]))
  (h:codeAny (model prog w) (A.under (.builtin "type.__call__" ⟨[.ref C],[]⟩)) (.call (.builtin "object.__init__") ⟨[.ref (s.heap.objs.size+1)],[]⟩) (PySem.W.InitBack (s.heap.objs.size+1) R)
   {s with heap:=(s.heap.push PySem.W.emptyDict).push (PySem.W.instObj C s.heap.objs.size) }) :
  codeAny (model prog w) A (.call (.ref C) ⟨[],[]⟩) R s:=by
 obtain⟨hh,g,d,t,os⟩:=s
 exact PySem.W.make_core (PySem.W.makes_of X hm) (PySem.W.looks_findIn X hi) hb (.inr ⟨rfl,rfl⟩) h
end
def putF (f:Str) (v:V):List (Str×V)->List (Str×V)
 | []=>[(f,v)]
 | (g,x)::r=>if g=f then (g,v)::r else (g,x)::putF f v r
theorem Hn (f g:Str) (v:V):∀ fs:List (Str×V),(putF f v fs).lookup g=if g=f then some v else fs.lookup g
 | []=>by
  show List.lookup g [(f,v)]=_
  by_cases h:g=f
  ·have hb:(g==f)=true:=beq_iff_eq.mpr h
   simp only [List.lookup,hb,if_pos h]
  ·have hb:(g==f)=false:=beq_eq_false_iff_ne.mpr h
   simp only [List.lookup,hb,if_neg h]
 | (k,x)::r=>by
  have ih:=Hn f g v r
  rw [show putF f v ((k,x)::r)=(if k=f then (k,v)::r else (k,x)::putF f v r) from rfl]
  by_cases hk:k=f
  ·rw [if_pos hk]
   by_cases h:g=k
   ·have hb:(g==k)=true:=beq_iff_eq.mpr h
    simp only [List.lookup,hb,if_pos (h.trans hk)]
   ·have hb:(g==k)=false:=beq_eq_false_iff_ne.mpr h
    simp only [List.lookup,hb,if_neg (fun e:g=f=>h (e.trans hk.symm))]
  ·rw [if_neg hk]
   by_cases h:g=k
   ·have hb:(g==k)=true:=beq_iff_eq.mpr h
    simp only [List.lookup,hb,if_neg (fun e:g=f=>hk (h.symm.trans e))]
   ·have hb:(g==k)=false:=beq_eq_false_iff_ne.mpr h
    simp only [List.lookup,hb]
    exact ih
theorem G4 (f:Str) (v:V):∀ fs:List (Str×V),f∈(putF f v fs).map (·.1) /\ ∀ g,g∈fs.map (·.1)->g∈(putF f v fs).map (·.1)
 | []=>⟨by simp [putF],fun g h=>by simp at h⟩
 | (k,x)::r=>by
  obtain⟨i1,i2⟩:=G4 f v r
  rw [show putF f v ((k,x)::r)=(if k=f then (k,v)::r else (k,x)::putF f v r) from rfl]
  by_cases hk:k=f
  ·rw [if_pos hk]
   subst hk
   exact⟨by simp,fun g h=>by simpa using h⟩
  ·rw [if_neg hk]
   refine⟨?_,fun g h=>?_⟩
   ·rw [List.map_cons]
    exact List.mem_cons_of_mem _ i1
   ·rw [List.map_cons] at h ⊢
    rcases List.mem_cons.mp h with e|e
    ·exact List.mem_cons.mpr (.inl e)
    ·exact List.mem_cons_of_mem _ (i2 g e)
theorem Hm (f:Str) (v:V):∀ fs:List (Str×V),(putF f v fs).length<=fs.length+1
 | []=>by simp [putF]
 | (k,x)::r=>by
  have ih:=Hm f v r
  rw [show putF f v ((k,x)::r)=(if k=f then (k,v)::r else (k,x)::putF f v r) from rfl]
  by_cases hk:k=f
  ·rw [if_pos hk,List.length_cons,List.length_cons];omega
  ·rw [if_neg hk,List.length_cons,List.length_cons];omega
theorem RelO.some_of {v:V} {o:Option Value} (r:RelO (some v) o):∃ u,o=some u/\RelV v u:=by
 cases o with
 | none=>exact (show False from r).elim
 | some u=>exact⟨u,rfl,r⟩
theorem RelO.none_of {o:Option Value} (r:RelO none o):o=none:=by
 cases o with
 | none=>rfl
 | some u=>exact (show False from r).elim
theorem Uo {v:V} {u:Value} (r:RelV v u):PySem.W.handedIn u=true:=by
 cases v with
 | non=>cases (show u=Value.none from r);rfl
 | bl b=>cases (show u=Value.bool b from r);rfl
 | int i=>obtain⟨t,e⟩:=(show ∃ t,u=Value.int i t from r);cases e;rfl
 | str x=>obtain⟨t,e⟩:=(show ∃ t,u=Value.str x t from r);cases e;rfl
 | byt b=>obtain⟨t,e⟩:=(show ∃ t,u=Value.bytes b t from r);cases e;rfl
 | flt b=>obtain⟨t,e⟩:=(show ∃ t,u=Value.float b t from r);cases e;rfl
 | ref a=>cases (show u=Value.ref a from r);rfl
 | ty n=>cases (show u=Value.type n from r);rfl
section
variable {P:Program} {w:World} {H H':Hp} {h h':Heap} {a C dx:Addr} {fs fs':List (Str×V)}
theorem Ig (hok:HOk P w H h) (e:H a=some (.ins C dx fs)):∃ mA,ObjM h a dx C mA/\(∀ f,RelO (fs.lookup f) (mA f))/\PySem.Within mA (fs.map (·.1))/\fs.length<=1000/\H dx=some (.own a):=by
 obtain⟨d,z,ne,ob,mA,n,r,q⟩:=(show ObjOk P w H h a (.ins C dx fs) from hok a _ e)
 exact⟨mA,⟨ob,n,ne⟩,r,q,z,d⟩
end
structure Cls (K:PySem.W.Frag) (C:Addr):Prop where
 pg:PySem.W.plainGet K C Str.empty=true
 hd:PySem.W.hasDictIn K C=true
 po:PySem.W.plainOver K C=true
 sa:PySem.W.findIn K (.ref C) "__setattr__" = some (some (.builtin "object.__setattr__"))
theorem Cls.get {K:PySem.W.Frag} {C:Addr} (c:Cls K C) (f:Str):PySem.W.plainGet K C f=true:=c.pg
def NoAttr (K:PySem.W.Frag) (C:Addr) (f:Str):Prop:=PySem.W.findIn K (.ref C) f=some none
theorem NoAttr.taker {K:PySem.W.Frag} {C:Addr} {f:Str} (n:NoAttr K C f):PySem.W.takerIn K C f=some none:=by
 unfold PySem.W.takerIn
 rw [show PySem.W.findIn K (.ref C) f=some none from n]
 rfl
structure Meth (K:PySem.W.Frag) (C:Addr) (m:Str) (f:Addr):Prop where
 at_:PySem.W.findIn K (.ref C) m=some (some (.ref f))
 fn:PySem.W.isFn K (.ref f)=true
 kp:PySem.W.keepIn K (.ref f)=true
section
variable {X:Cx} {pins:List (Addr×Obj)} {σ:St} {H:Hp} {s:Shared} {a C dx:Addr} {fs:List (Str×V)} {f:Str} {v:V} {A:Around} {E:Value->Shared->Prop}
theorem Ql {b:Bool} {Q:Value->Shared->Prop} (I:Inv X pins σ H s) (e:H a=some (.ins C dx fs)) (c:Cls X.K C) (n:NoAttr X.K C f) (l:fs.lookup f=some v)
  (h:∀ u s',Inv X pins σ H s'->RelV v u->Q u s'):wpAny (model X.prog X.w) A (getAttr (.ref a) f b) Q E s:=by
 obtain⟨mA,O,r,_,_,_⟩:=Ig I.hok e
 obtain⟨u,hu,ru⟩:=RelO.some_of (v:=v) (o:=mA f) (by rw [<- l];exact r f)
 exact Am I.kIn O (c.get f) c.hd n hu (Uo ru) (h u _ (I.tok _) ru)
theorem Jb {m:Str} {g:Addr} {pl:Sem Bool} {Q:Value×List Value->Shared->Prop} (I:Inv X pins σ H s) (e:H a=some (.ins C dx fs)) (c:Cls X.K C) (k:Meth X.K C m g) (l:fs.lookup m=none)
  (h:Q (.ref g,[.ref a]) s):wpAny (model X.prog X.w) A (getMethod (.ref a) m pl) Q E s:=by
 obtain⟨mA,O,r,_,_,_⟩:=Ig I.hok e
 have hn:mA m=none:=RelO.none_of (by rw [<- l];exact r m)
 exact W7 I.kIn O (c.get m) k.at_ k.fn hn h
theorem Q6 {y:V} {u:Value} {Q:Unit->Shared->Prop} (I:Inv X pins σ H s) (e:H a=some (.ins C dx fs)) (c:Cls X.K C) (n:NoAttr X.K C f) (hl:fs.length<1000) (ry:RelV y u)
  (h:∀ s',Inv X pins σ (upd H a (.ins C dx (putF f y fs))) s'->Q () s'):wpAny (model X.prog X.w) A (setAttr (.ref a) f u) Q E s:=by
 obtain⟨mA,O,r,wi,_,ho⟩:=Ig I.hok e
 have hz:(fs.map (·.1)).length<=sizeLine:=by rw [List.length_map,sizeLine_eq];omega
 refine ad8 I.kIn O c.sa c.po n.taker c.hd wi hz fun h' O' sb=>h _ ?_
 have hd:∃ o,h'.get? dx=some o:=let ⟨o,_,_,e',_⟩:=O'.ns;⟨o,e'⟩
 refine I.write (x:=a) (e:=dx) (by rw [e];exact True.intro) (.inr ho) (fun b q hb z=>(sb.2 b hb).trans z) hd ?_
 refine⟨by rw [Af O.ne];exact ho,?_,O.ne,O'.obj,_,O'.ns,fun g=>?_,fun g hg=>?_⟩
 ·have:=Hm f y fs;omega
 ·show RelO ((putF f y fs).lookup g) (if g=f then some u else mA g)
  rw [Hn]
  by_cases q:g=f
  ·rw [if_pos q,if_pos q];exact ry
  ·rw [if_neg q,if_neg q];exact r g
 ·by_cases q:g=f
  ·rw [q];exact (G4 f y fs).1
  ·refine (G4 f y fs).2 g (wi g fun z=>hg ?_)
   show (if g=f then some u else mA g)=none
   rw [if_neg q];exact z
theorem Inv.made (I:Inv X pins σ H s):Inv X pins σ (upd (upd H s.heap.objs.size (.own (s.heap.objs.size+1))) (s.heap.objs.size+1) (.ins C s.heap.objs.size []))
  {s with heap:=(s.heap.push PySem.W.emptyDict).push (PySem.W.instObj C s.heap.objs.size) }:=by
 have e1:(s.heap.push PySem.W.emptyDict).get? s.heap.objs.size=some PySem.W.emptyDict:=Heap.get?_push_size s.heap rfl
 have e2:((s.heap.push PySem.W.emptyDict).push (PySem.W.instObj C s.heap.objs.size)).get? (s.heap.objs.size+1)=some (PySem.W.instObj C s.heap.objs.size):=by
  have:=Heap.get?_push_size (s.heap.push PySem.W.emptyDict) (o:=PySem.W.instObj C s.heap.objs.size) rfl
  rwa [Heap.size_push] at this
 have e3:(s.heap.push PySem.W.emptyDict).Ns s.heap.objs.size (fun _=>none):=⟨PySem.W.emptyDict,#[],_,e1,rfl,(fun e he=>absurd he (by simp)),fun _=>rfl⟩
 have I1:=I.laid (a:=s.heap.objs.size) (o:=.own (s.heap.objs.size+1)) (h':=s.heap.push PySem.W.emptyDict) (t':=s.toks) (fun b u q=>Heap.get?_push_of_some _ q) (Nat.le_refl _) ⟨_,e1⟩
 refine I1.laid (a:=s.heap.objs.size+1) (o:=.ins C s.heap.objs.size []) (t':=s.toks) (fun b u q=>Heap.get?_push_of_some _ q) (Nat.le_of_eq (Heap.size_push _ _)) ?_
 have ne:s.heap.objs.size≠s.heap.objs.size+1:=Nat.ne_of_lt (Nat.lt_succ_self _)
 refine⟨by rw [Af ne,Ab],Nat.zero_le _,ne,e2,fun _=>none,(Heap.Ns1.of_empty e3).at fun o q=>Heap.get?_push_of_some _ q,fun _=>True.intro,fun y hy=>absurd rfl hy⟩
theorem Zu {prog:Program} {w:World} {env:Env} {e:Expr} {f:Str} {pos:Pos} {s:Shared} {Q:Value->Shared->Prop} (hb:attributeBase e f env (eval e env)=eval e env)
  (h:wpAny (model prog w) A (eval e env) (fun o s₁=>wpAny (model prog w) A (getAttr o f true) Q E s₁) E s):wpAny (model prog w) A (eval (.Attribute e f pos) env) Q E s:=
 Attribute_any_ h (by rw [arm_eval_Attribute,hb])
end
section
variable {X:Cx} {o e value:Expr} {f:Str} {pos pos' tpos:Pos} {ta tv:TE}
end
section
variable {X:Cx} {pins:List (Addr×Obj)} {σ:St} {H:Hp} {s:Shared} {A:Around} {E:Value->Shared->Prop} {Q:Value->Shared->Prop} {c:Value} {b:Bool}
inductive TyOf (K:PySem.W.Frag) (H:Hp):V->Value->Prop where
 | non:TyOf K H .non (.type "NoneType")
 | bl (x:Bool):TyOf K H (.bl x) (.type "bool")
 | int (i:Int):TyOf K H (.int i) (.type "int")
 | str (x:Str):TyOf K H (.str x) (.type "str")
 | flt (x:UInt64):TyOf K H (.flt x) (.type "float")
 | lst {a:Addr} {xs:List V} (e:H a=some (.lst xs)):TyOf K H (.ref a) (.type "list")
 | frz {a:Addr} {o:Obj} {xs:List V} (e:H a=some (.frz o (.lst xs))):TyOf K H (.ref a) (.type "list")
 | tup {a:Addr} {xs:List V} (e:H a=some (.tup xs)):TyOf K H (.ref a) (.type "tuple")
 | dK {a:Addr} {kvs:List (Key×V)} (e:H a=some (.dK kvs)):TyOf K H (.ref a) (.type "dict")
 | dT {a:Addr} {kvs:List (List Key×V)} (e:H a=some (.dT kvs)):TyOf K H (.ref a) (.type "dict")
 | ins {a C dx:Addr} {fs:List (Str×V)} (e:H a=some (.ins C dx fs)) (cl:Cls K C) (ha:PySem.W.findIn K (.ref C) "__class__" = some (some (.builtin "object.__class__")))
   (hn:PySem.W.specialIn K (.builtin "object.__class__") "__get__" = some (some (.builtin "getset_descriptor.__get__"))) (htk:PySem.W.takesIn K (.builtin "object.__class__")=some true)
   (hm:PySem.W.mroIn K C (.type "object")=some true):TyOf K H (.ref a) (.ref C)
theorem Lk {x:V} {u t:Value} (I:Inv X pins σ H s) (rx:RelV x u) (ty:TyOf X.K H x t) (e:PySem.W.kitOne X.K t c=some b) (h:∀ tk,Q (.bool b) { s with toks:=tk }) :
  wpAny (model X.prog X.w) A (call (.builtin "isinstance") [u,c]) Q E s:=by
 cases ty with
 | non=>cases (show u=Value.none from rx);exact PySem.W.kia_one PySem.W.kitx_none I.kIn True.intro e (fun z=>nomatch z) h
 | bl y=>cases (show u=Value.bool y from rx);exact PySem.W.kia_one PySem.W.kitx_bool I.kIn True.intro e (fun z=>nomatch z) h
 | int i=>obtain⟨t,q⟩:=(show ∃ t,u=Value.int i t from rx);cases q;exact PySem.W.kia_one PySem.W.kitx_int I.kIn True.intro e (fun z=>nomatch z) h
 | str y=>obtain⟨t,q⟩:=(show ∃ t,u=Value.str y t from rx);cases q;exact PySem.W.kia_one PySem.W.kitx_str I.kIn True.intro e (fun z=>nomatch z) h
 | flt y=>obtain⟨t,q⟩:=(show ∃ t,u=Value.float y t from rx);cases q;exact PySem.W.kia_one PySem.W.kitx_float I.kIn True.intro e (fun z=>nomatch z) h
 | @lst a xs ea=>
  cases (show u=Value.ref a from rx)
  obtain⟨_,_,n,_,h1⟩:=(show ObjOk X.prog X.w H s.heap a (.lst xs) from I.hok a _ ea)
  exact PySem.W.kia_one PySem.W.kitx_list I.kIn ⟨_,h1,rfl⟩ e (fun z=>nomatch z) h
 | @frz a ob xs ea=>
  cases (show u=Value.ref a from rx)
  obtain⟨_,_,_,n,_,h1⟩:=(show ObjOk X.prog X.w H s.heap a (.frz ob (.lst xs)) from I.hok a _ ea)
  exact PySem.W.kia_one PySem.W.kitx_list I.kIn ⟨_,h1,rfl⟩ e (fun z=>nomatch z) h
 | @tup a xs ea=>
  cases (show u=Value.ref a from rx)
  obtain⟨_,_,_,p⟩:=(show ObjOk X.prog X.w H s.heap a (.tup xs) from I.hok a _ ea)
  obtain⟨o,h1,h2,_⟩:=p
  exact PySem.W.kia_one PySem.W.kitx_tuple I.kIn ⟨o,h1,h2⟩ e (fun z=>nomatch z) h
 | @dK a kvs ea=>
  cases (show u=Value.ref a from rx)
  obtain⟨_,_,vs,_,p⟩:=(show ObjOk X.prog X.w H s.heap a (.dK kvs) from I.hok a _ ea)
  obtain⟨o,es,ep,h1,h2,_⟩:=p
  exact PySem.W.kia_one PySem.W.kitx_dict I.kIn ⟨o,h1,h2.1⟩ e (fun z=>nomatch z) h
 | @dT a kvs ea=>
  cases (show u=Value.ref a from rx)
  obtain⟨_,_,xs,_,o,es,ep,h1,h2,_⟩:=(show ObjOk X.prog X.w H s.heap a (.dT kvs) from I.hok a _ ea)
  exact PySem.W.kia_one PySem.W.kitx_dict I.kIn ⟨o,h1,h2.1⟩ e (fun z=>nomatch z) h
 | @ins a C dx fs ea cl ha hn htk hm=>
  cases (show u=Value.ref a from rx)
  obtain⟨mA,O,_⟩:=Ig I.hok ea
  obtain⟨od,J,_⟩:=O.look
  exact PySem.W.kia_one (PySem.W.kitx_own (cl.get _) cl.hd ha hn htk hm) I.kIn J e (fun z=>nomatch z) h
end
structure Room (k:Nat) (A:Around):Prop where
 hd:A.handled=none
 dp:A.depth+3 * k+5<recursionLimit
 un:A.units+16 * k+200<cLine
theorem Room.mono {j k:Nat} {A:Around} (r:Room k A) (h:j<=k):Room j A:=⟨r.hd,by have:=r.dp;omega,by have:=r.un;omega⟩
theorem Room.deeper {k:Nat} {A:Around} (r:Room (k+1) A) (env:Env):Room k (A.deeper env):=
 ⟨r.hd,by have:=r.dp;show A.depth+1+3 * k+5<_;omega,by have:=r.un;show A.units+3+16 * k+200<_;omega⟩
theorem Qq {A:Around} {C:Addr} {us:List Value} {kw:List (Str×Value)}:(A.under (.builtin "type.__call__" ⟨.ref C::us,kw⟩)).depth=A.depth+1:=by
 first|rfl|simp [Around.under,Code.weight,Code.isCreation,Code.isGuard,Code.isCaller,Code.frames,Code.isFrame,guardIds]
theorem Qr {A:Around} {C:Addr} {us:List Value} {kw:List (Str×Value)}:(A.under (.builtin "type.__call__" ⟨.ref C::us,kw⟩)).units=A.units+1:=by
 first|rfl|simp [Around.under,Code.cUnits,Code.frames,Code.isFrame]
theorem Room.make {k:Nat} {A:Around} (r:Room (k+1) A) (C:Addr) (us:List Value) (kw:List (Str×Value)):Room k (A.under (.builtin "type.__call__" ⟨.ref C::us,kw⟩)):=
 ⟨r.hd,by have:=r.dp;rw [Qq];omega,by have:=r.un;rw [Qr];omega⟩
theorem Room.depth {k:Nat} {A:Around} (r:Room k A):A.depth<recursionLimit:=by have:=r.dp;omega
theorem Room.units {k:Nat} {A:Around} (r:Room k A):A.units+64<cLine:=by have:=r.un;omega
def tNil:TA:=fun _ H Q=>Q [] H
def a60 (ta:TE) (tr:TA):TA:=fun σ H Q=>ta σ H fun x H1=>tr σ H1 fun xs H2=>Q (x::xs) H2
section
variable {X:Cx} {e:Expr} {es:List Expr} {te:TE} {t:TA} {pos:Pos}
theorem al8:PA X [] tNil:=fun _ _ _ _ H Q I h=>Calls.spliced_nil ⟨[],H,I,.nil,h⟩
theorem aa9 (ha:PE X e te) (hr:PA X es t) (hs:starEach (e::es) X.env=(false,eval e X.env)::starEach es X.env:=by rfl):PA X (e::es) (a60 te t):=by
 intro pos pins s σ H Q I h
 rw [hs]
 show wpAny _ _ (spliced ((false,eval e X.env)::backTo pos (starEach es X.env))) _ _ s
 refine Calls.spliced_cons (thn (ha pins s σ H _ I h) fun u s1 ⟨x,H1,I1,r1,q1⟩=>?_)
 exact thn (hr pos pins s1 σ H1 _ I1 q1) fun us s2 ⟨xs,H2,I2,r2,q2⟩=>⟨x::xs,H2,I2,.cons r1 r2,q2⟩
def tTup (t:TA):TE:=fun σ H Q=>t σ H fun xs H1=>xs.length<=sizeLine /\ ∀ p,H1 p=none->Q (.ref p) (upd H1 p (.tup xs))
def tLst (t:TA):TE:=fun σ H Q=>t σ H fun xs H1=>xs.length<=sizeLine /\ ∀ p,H1 p=none->Q (.ref p) (upd H1 p (.lst xs))
theorem am4 {x1} (h:PA X es t):PE X (.Tuple es x1 pos) (tTup t):=by
 intro pins s σ H Q I hq
 refine wpAny_Tuple_spliced (thn (h pos pins s σ H _ I hq) fun us s1 ⟨xs,H1,I1,r,z,q⟩=>⟨by rw [<- r.length];exact z,?_⟩)
 have hf:H1 s1.heap.objs.size=none:=I1.hok.fresh (Nat.le_refl _)
 refine⟨.ref s1.heap.objs.size,upd H1 s1.heap.objs.size (.tup xs),I1.laid (t':=s1.toks) (fun b u e=>Heap.get?_push_of_some _ e) (Nat.le_refl _) ?_,rfl,q _ hf⟩
 exact⟨z,us,r,⟨_,Heap.get?_push_size _ rfl,rfl,_,rfl⟩⟩
theorem am0 (h:PA X es t):PE X (.List es pos) (tLst t):=by
 intro pins s σ H Q I hq
 refine wpAny_List_spliced (thn (h pos pins s σ H _ I hq) fun us s1 ⟨xs,H1,I1,r,z,q⟩=>⟨by rw [<- r.length];exact z,?_⟩)
 have hf:H1 s1.heap.objs.size=none:=I1.hok.fresh (Nat.le_refl _)
 refine⟨.ref s1.heap.objs.size,upd H1 s1.heap.objs.size (.lst xs),I1.laid (t':=s1.toks) (fun b u e=>Heap.get?_push_of_some _ e) (Nat.le_refl _) ?_,rfl,q _ hf⟩
 exact⟨z,us,0,r,Heap.get?_push_size _ rfl⟩
end
abbrev Sp:=List V->Hp->VK->XK->Prop
abbrev CXT:=List Env->Hp->Shared->XK->Value->Shared->Prop
structure Env0 (P:Program) (w:World) (K:PySem.W.Frag) (mg:Str->Option Value) (base:Heap) (A:Around) (outer:List Env) (s:Shared) (H:Hp):Prop where
 frames:A.frames=some outer
 mod:Mod K mg base
 bs:∀ b o,base.get? b=some o->s.heap.get? b=some o/\H b=none
 bsz:base.objs.size<=s.heap.objs.size
 funs:s.heap.FunFrames base outer
 frf:∀ b∈frs outer,H b=none
 hok:HOk P w H s.heap
 bare:AllBare s.gens
def CE (outer:List Env) (P:Program) (w:World) (H:Hp) (s:Shared) (Q:VK) (u:Value) (s':Shared):Prop:=
 ∃ v H',s'.os=s.os/\AllBare s'.gens/\Un (frs outer) [] H H' s.heap s'.heap/\HOk P w H' s'.heap/\RelV v u/\Q v H'
def CR (CX:CXT) (outer:List Env) (P:Program) (w:World) (H:Hp) (s:Shared) (Q:VK) (E:XK) (r:Result) (s':Shared):Prop:=
 match r with
 | .ok (.ret u)=>CE outer P w H s Q u s'
 | .ok _=>False
 | .error e=>CX outer H s E e s'
structure FnOk (P:Program) (w:World) (K:PySem.W.Frag) (mg:Str->Option Value) (base:Heap) (CX:CXT) (k:Nat) (f:Addr) (fd:FuncData) (ps:List Str) (sp:Sp):Prop where
 len:∀ vs H Q E,sp vs H Q E->vs.length=ps.length
 run:∀ (A:Around) (outer:List Env) (s:Shared) (H:Hp) (args:Args) (us:List Value) (vs:List V) (Q:VK) (E:XK),Room k A->Env0 P w K mg base A outer s H->BindsTo s fd args (ps.zip us)->Vals vs us->sp vs H Q E ->
  codeAny (model P w) A (.call (.ref f) args) (CR CX outer P w H s Q E) s
theorem FnOk.imp {P:Program} {w:World} {K:PySem.W.Frag} {mg:Str->Option Value} {base:Heap} {CX:CXT} {k:Nat} {f:Addr} {fd:FuncData} {ps:List Str} {sp sp':Sp} (F:FnOk P w K mg base CX k f fd ps sp)
  (h:∀ vs H Q E,sp' vs H Q E->sp vs H Q E):FnOk P w K mg base CX k f fd ps sp':=
 ⟨fun vs H Q E q=>F.len vs H Q E (h _ _ _ _ q),fun A outer s H args us vs Q E hr he hb hv hs=>F.run A outer s H args us vs Q E hr he hb hv (h _ _ _ _ hs)⟩
theorem Env0.make {P:Program} {w:World} {K:PySem.W.Frag} {mg:Str->Option Value} {base:Heap} {A:Around} {outer:List Env} {s:Shared} {H:Hp} (e:Env0 P w K mg base A outer s H) (C:Addr) (us:List Value) (kw:List (Str×Value)) :
  Env0 P w K mg base (A.under (.builtin "type.__call__" ⟨.ref C::us,kw⟩)) outer s H:=⟨by first|exact e.frames|(simpa [Around.under,Code.envs,Code.isFrame,pushEnvs] using e.frames),e.mod,e.bs,e.bsz,e.funs,e.frf,e.hok,e.bare⟩
section
variable {X:Cx} {pins:List (Addr×Obj)} {σ:St} {H:Hp} {s s':Shared}
theorem Inv.env0 (I:Inv X pins σ H s):Env0 X.prog X.w X.K X.mg X.base X.A X.stack s H:=
 ⟨I.ok.frames,I.ok.mod,I.bs,Nat.le_trans I.ok.bsz I.sz,I.stack,I.stkFree,I.hok,I.bare⟩
theorem Inv.after {Q:VK} {u:Value} (I:Inv X pins σ H s) (h:CE X.stack X.prog X.w H s Q u s'):EP X pins σ Q u s':=by
 obtain⟨v,H',os,bare,un,hok,r,q⟩:=h
 obtain⟨hh,g,d,t,os'⟩:=s'
 obtain rfl:os'=s.os:=os
 exact⟨v,H',I.call (h':=hh) (g':=g) (d':=d) (t':=t) (ch:=[]) un hok bare (fun b z=>absurd z (by simp)),r,q⟩
end
def Binds (K:PySem.W.Frag) (fd:FuncData) (ps:List Str) (ds:List Value):Prop:=
 ∀ (s:Shared) (us:List Value),K.In s.heap->(us++ds).length=ps.length->BindsTo s fd ⟨us,[]⟩ (ps.zip (us++ds))
theorem Binds.all {K:PySem.W.Frag} {fd:FuncData} {ps:List Str} (h:∀ us:List Value,us.length=ps.length->bindArgs fd ⟨us,[]⟩=pure (ps.zip us)):Binds K fd ps []:=fun s us _ hl=>by
 rw [List.append_nil] at hl ⊢
 exact .of_eq (h us hl)
section
variable {X:Cx} {CX:CXT} {k:Nat} {f C:Addr} {fd:FuncData} {ps:List Str} {sp:Sp} {dvs:List V} {ds:List Value} {E:XK} {x m:Str} {p pos apos:Pos} {e o:Expr} {es:List Expr} {ta:TE} {t:TA}
structure Mk (K:PySem.W.Frag) (C f:Addr):Prop where
 makes:PySem.W.makesIn K C=true
 init:PySem.W.findIn K (.ref C) "__init__" = some (some (.ref f))
 fn:PySem.W.isFn K (.ref f)=true
 kp:PySem.W.keepIn K (.ref C)=true
end
section
variable {X:Cx} {CX:CXT} {k:Nat} {f C:Addr} {fd:FuncData} {ps ks:List Str} {sp:Sp} {E:XK} {x m:Str} {p pos apos kpos:Pos} {e o:Expr} {es:List Expr} {kws:List Keyword} {te ta:TE} {t tk:TA} {nm:Option Str}
variable {g:List Value->List Value->List Value} {gV:List V->List V->List V}
end
structure Ak (N P:List Str) (sc:Scope):Prop where
 kind:sc.kind=.function
 co:sc.isCoroutine=false
 gen:sc.isGenerator=false
 nd:N.Nodup
 pre:N.take P.length=P
 par:∀ x∈P,sc.names.lookup x=some .local\/sc.names.lookup x=some .cell
 nofree:∀ y∈sc.names,y.2≠.free
theorem K0 {kindOf:Str->Option NameKind} {x:Str}:∀ {binds:List (Str×Value)} {m:Str->Option Value},(∀ v,(x,v)∉binds)->bindL kindOf binds m x=m x
 | [],_,_=>rfl
 | (n,v)::r,m,h=>by
  unfold bindL
  rw [K0 fun w hw=>h w (List.mem_cons_of_mem _ hw)]
  split
  ·have:x≠n:=by rintro rfl;exact h v List.mem_cons_self
   simp [this]
  ·rfl
theorem Ky {kindOf:Str->Option NameKind} {x:Str}:∀ {binds:List (Str×Value)} {m:Str->Option Value},(∀ v,(x,v)∉binds)->bindC kindOf binds m x=m x
 | [],_,_=>rfl
 | (n,v)::r,m,h=>by
  unfold bindC
  rw [Ky fun w hw=>h w (List.mem_cons_of_mem _ hw)]
  split
  ·rfl
  ·have:x≠n:=by rintro rfl;exact h v List.mem_cons_self
   simp [this]
theorem Kz {kindOf:Str->Option NameKind} {x:Str} {v:Value}:∀ {P:List Str} {vs:List Value} {i:Nat} {m:Str->Option Value},P.Nodup->P[i]? = some x->vs[i]? = some v->kindOf x=some .local ->
  bindL kindOf (P.zip vs) m x=some v
 | [],_,_,_,_,h,_,_=>by simp at h
 | _::_,[],_,_,_,_,h,_=>by simp at h
 | p::P,w::vs,0,m,nd,h1,h2,hk=>by
  simp at h1 h2;subst h1;subst h2
  show bindL kindOf ((p,w)::P.zip vs) m p=_
  unfold bindL
  rw [K0 fun v hv=>(List.nodup_cons.mp nd).1 (List.of_mem_zip hv).1,if_pos hk]
  simp
 | p::P,w::vs,i+1,m,nd,h1,h2,hk=>by
  show bindL kindOf ((p,w)::P.zip vs) m x=_
  unfold bindL
  exact Kz (i:=i) (List.nodup_cons.mp nd).2 (by simpa using h1) (by simpa using h2) hk
theorem Kx {kindOf:Str->Option NameKind} {x:Str} {v:Value}:∀ {P:List Str} {vs:List Value} {i:Nat} {m:Str->Option Value},P.Nodup->P[i]? = some x->vs[i]? = some v->kindOf x≠some .local ->
  bindC kindOf (P.zip vs) m x=some v
 | [],_,_,_,_,h,_,_=>by simp at h
 | _::_,[],_,_,_,_,h,_=>by simp at h
 | p::P,w::vs,0,m,nd,h1,h2,hk=>by
  simp at h1 h2;subst h1;subst h2
  show bindC kindOf ((p,w)::P.zip vs) m p=_
  unfold bindC
  rw [Ky fun v hv=>(List.nodup_cons.mp nd).1 (List.of_mem_zip hv).1,if_neg hk]
  simp
 | p::P,w::vs,i+1,m,nd,h1,h2,hk=>by
  show bindC kindOf ((p,w)::P.zip vs) m x=_
  unfold bindC
  exact Kx (i:=i) (List.nodup_cons.mp nd).2 (by simpa using h1) (by simpa using h2) hk
def Fk (N:List Str) (vs:List V):St:=vs.map some++List.replicate (N.length - vs.length) none
def cxOf (CX:CXT) (P:Program) (w:World) (K:PySem.W.Frag) (mg:Str->Option Value) (base:Heap) (N:List Str) (qual:Str) (scope:Scope) (f:Addr) (cd:Value) (A:Around) (outer:List Env) (s:Shared) (H:Hp) (E:XK):Cx where
 prog:=P
 w:=w
 K:=K
 mg:=mg
 base:=base
 A:=A.deeper (envOfC qual scope s.heap.objs.size f cd)
 N:=N
 s₀:=s
 H₀:=H
 env:=envOfC qual scope s.heap.objs.size f cd
 outer:=outer
 stack:=envOfC qual scope s.heap.objs.size f cd::outer
 ex:=[]
 calm:=true
 fn:=fun _=>true
 pn:=[]
 xe:=fun e s'=>wpAny (model P w) (A.deeper (envOfC qual scope s.heap.objs.size f cd)) (leaving (envOfC qual scope s.heap.objs.size f cd) e) (fun _ s''=>CX outer H s E e s'') (fun e' s''=>CX outer H s E e' s'') s'
theorem F0 {sc:Scope} {n:Nat} {x:Str} (h:sc.names.lookup x=some .cell):∃ c,(cellsFrom n sc.names []).lookup x=some c:=by
 have q:=PySem.W.cellsFrom_some sc.names n [] (.inl h)
 exact Option.isSome_iff_exists.mp q
theorem Ur {CX:CXT} {P:Program} {w:World} {K:PySem.W.Frag} {mg:Str->Option Value} {base:Heap} {N ps:List Str} {qual:Str} {scope:Scope} {f:Addr} {cd:Value} {A:Around} {outer:List Env} {s s1:Shared} {H:Hp} {E:XK} {us:List Value} {vs:List V}
  (S:Ak N ps scope) (hd:A.handled=none) (e0:Env0 P w K mg base A outer s H) (hl:vs.length=ps.length) (r:Vals vs us)
  (x:InCallC s s.heap.objs.size (bindL (envOfC qual scope s.heap.objs.size f cd).kindOf (ps.zip us) fun _=>none) (cellsFrom (s.heap.objs.size+1) scope.names []) (bindC (envOfC qual scope s.heap.objs.size f cd).kindOf (ps.zip us) fun _=>none) s1) :
  Inv (cxOf CX P w K mg base N qual scope f cd A outer s H E) [] (Fk N vs) H s1:=by
 have hpl:ps.length<=N.length:=by have:=congrArg List.length S.pre;rw [List.length_take] at this;omega
 obtain⟨h1,tk,rfl,hk⟩:=x.done
 have noA:∀ b:Addr,b∉(cxOf CX P w K mg base N qual scope f cd A outer s H E).ex:=fun b z=>absurd (show b∈([]:List Addr) from z) (by simp)
 refine⟨⟨e0.mod,S.kind,rfl,rfl,Nat.le_refl _,fun y z c h1 h2=>?_,fun y hy=>?_,fun y c _ h=>?_,fun _=>hd,Around.frames_deeper e0.frames,.inr ⟨rfl,rfl⟩,fun b z=>absurd z (noA b),e0.bs,e0.bsz,fun b _ _=>noA b,fun b z=>absurd z (noA b),e0.funs,e0.frf⟩,
  rfl,e0.bare,Un.kept hk,⟨_,x.toInCall.ns,fun i y v h1 h2 h3=>?_⟩,fun y c h=>⟨_,x.cell y c h⟩,e0.hok.fresh (Nat.le_refl _),fun y c h=>?_,fun p hp=>absurd (show p∈([]:List (Addr×Obj)) from hp) (by simp),e0.hok.kept hk,?_⟩
 ·exact name_of_addr x.apart (PySem.mem_of_lookup h1) (PySem.mem_of_lookup h2)
 ·have hy:scope.names.lookup y=some .cell\/scope.names.lookup y=some .free:=hy
  rcases hy with hy|hy
  ·exact F0 hy
  ·exact absurd rfl (S.nofree _ (PySem.mem_of_lookup hy))
 ·exact Nat.le_of_lt (x.above y c (PySem.mem_of_lookup h))
 ·have hi:i<vs.length:=by
   unfold Fk at h2
   by_cases hi:i<vs.length
   ·exact hi
   ·rw [List.getElem?_append_right (by simpa using hi)] at h2
    rw [List.getElem?_replicate] at h2
    split at h2 <;> cases h2
  have ha:vs[i]? = some v:=by
   unfold Fk at h2
   rw [List.getElem?_append_left (by simpa using hi),List.getElem?_map] at h2
   cases e:vs[i]? with
   | none=>rw [e] at h2;cases h2
   | some a=>rw [e] at h2;cases h2;rfl
  obtain⟨u,hu,rv⟩:=r.get ha
  have hp:ps[i]? = some y:=by
   rw [<- S.pre,List.getElem?_take_of_lt (by omega)];exact h1
  have ndP:ps.Nodup:=by rw [<- S.pre];exact S.nd.sublist (List.take_sublist _ _)
  refine⟨u,rv,?_⟩
  rcases S.par y (List.mem_of_getElem? hp) with k|k
  ·exact .inl ⟨k,Kz ndP hp hu k⟩
  ·obtain⟨c,e⟩:=F0 (n:=s.heap.objs.size+1) k
   refine .inr ⟨.inl k,c,e,?_⟩
   have q:=x.cell y c e
   rw [Kx ndP hp hu (by show scope.names.lookup y≠_;rw [k];decide)] at q
   exact q
 ·exact e0.hok.fresh (Nat.le_of_lt (x.above y c (PySem.mem_of_lookup h)))
 ·unfold Fk
  show _=N.length
  rw [List.length_append,List.length_map,List.length_replicate]
  omega
theorem af3 {CX:CXT} {P:Program} {w:World} {K:PySem.W.Frag} {mg:Str->Option Value} {base:Heap} {k:Nat} {f:Addr} {name qual:Str} {params:Arguments} {body:List Stmt} {scope:Scope} {dV kV doc pm cdv ct oc:Value} {an od:Option Addr}
  {osl:Array (Option Value)} {N ps:List Str} {sp:Sp} (lk:K.lookup f=some ⟨oc,od,.func (PySem.W.fnOf name qual params body scope dV kV doc pm an cdv ct),osl⟩) (hcd:PySem.W.codeIn K cdv qual=true) (S:Ak N ps scope)
  (len:∀ vs H Q E,sp vs H Q E->vs.length=ps.length)
  (hbody:∀ (A:Around) (outer:List Env) (s:Shared) (H:Hp) (vs:List V) (Q:VK) (E:XK),Room k (A.deeper (envOfC qual scope s.heap.objs.size f cdv))->sp vs H Q E ->
   ∃ t,PSs (cxOf CX P w K mg base N qual scope f cdv A outer s H E) body t/\t { nx:=fun _ H'=>Q .non H',rt:=Q } (Fk N vs) H) :
  FnOk P w K mg base CX (k+1) f (PySem.W.fnOf name qual params body scope dV kV doc pm an cdv ct) ps sp:=by
 refine⟨len,fun A outer s H args us vs Q E hr e0 hb r hsp=>?_⟩
 have hl:=len _ _ _ _ hsp
 have KX:K.In s.heap:=e0.mod.kin.keeps fun b o e=>(e0.bs b o e).1
 have lim:s.heap.NoLimit:=e0.mod.nolimit.keeps fun b o e=>(e0.bs b o e).1
 have hkind:∀ y∈ps.zip us,scope.names.lookup y.1=some .local\/(scope.names.lookup y.1=some .cell/\((cellsFrom (s.heap.objs.size+1) scope.names []).lookup y.1).isSome=true):=fun⟨n,v⟩ hy=>by
  rcases S.par n (List.of_mem_zip hy).1 with q|q
  ·exact .inl q
  ·exact .inr ⟨q,PySem.W.cellsFrom_some _ _ _ (.inl q)⟩
 refine codeAny_call_function hr.depth (KX _ _ lk) rfl S.co S.gen rfl (PySem.W.codeRec_of KX hcd) (hb _ _ _ _ ?_)
 refine wpAny_newFunctionEnv_cells S.kind hkind fun env he s1 x=>?_
 subst he
 refine⟨lim.keeps x.toInCall.keep,codeAny_func ?_⟩
 obtain⟨t,ht,hq⟩:=hbody A outer s H vs Q E (hr.deeper _) hsp
 have I:Inv (cxOf CX P w K mg base N qual scope f cdv A outer s H E) [] (Fk N vs) H s1:=Ur S hr.hd e0 hl r x
 refine wpAny_mono (ht [] s1 (Fk N vs) H _ I hq) (fun fl s' hs=>?_) fun e s' hs=>hs
 have fin:∀ {σ':St} {H':Hp} {v:V} {u:Value},Inv (cxOf CX P w K mg base N qual scope f cdv A outer s H E) [] σ' H' s'->RelV v u->Q v H'->CE outer P w H s Q u s':=
  fun {σ' H' v u} J rv q=>⟨v,H',J.os,J.bare,J.base,J.hok,rv,q⟩
 cases fl with
 | ret u=>
  obtain⟨v,σ',H',J,rv,q⟩:=hs
  exact fin J rv q
 | next=>
  obtain⟨σ',H',J,q⟩:=hs
  exact fin (v:=V.non) (u:=Value.none) J rfl q
 | brk=>
  obtain⟨_,_,_,q⟩:=hs
  exact False.elim q
 | cont=>
  obtain⟨_,_,_,q⟩:=hs
  exact False.elim q
section
variable {X:Cx} {x:Str} {p pos:Pos} {e:Expr} {es:List Expr} {t:TA} {id T:String} {r:List V->Hp->VK->Prop}
def tCB (r:List V->Hp->VK->Prop) (t:TA):TE:=fun σ H Q=>t σ H fun vs H1=>r vs H1 Q
theorem Xt (hc:Cr X (.builtin id) r) (hg:Gl X x) (hm:X.mg x=none) (hv:bootBuiltins x=some (.builtin id)) (ha:PA X (e::es) t) (hn:x ≠ "__name__" := by decide) (hdb:(x==("__debug__" : Str))=false:=by decide)
  (he:starEach (e::es) X.env=(false,eval e X.env)::starEach es X.env:=by rfl) (hpl:(backTo pos (starEach es X.env)).any (·.1)=false:=by rfl):PE X (.Call (.Name x p) (e::es) [] pos) (tCB r t):=by
 intro pins s σ H Q I h
 refine wpAny_Call_Name_kw (Fn I hg hm hv ?_ hn hdb)
 exact PyProof.Rows.callWith_builtin1 (thn (ha pos pins s σ H _ I h) fun us s1 ⟨vs,H1,I1,r1,q1⟩=>hc pins s1 σ H1 vs us Q I1 r1 q1) he hpl
theorem Vf (hc:Cr X (.type T) r) (hg:Gl X x) (hm:X.mg x=none) (hv:bootBuiltins x=some (.type T)) (ha:PA X (e::es) t) (hn:x ≠ "__name__" := by decide) (hdb:(x==("__debug__" : Str))=false:=by decide)
  (he:starEach (e::es) X.env=(false,eval e X.env)::starEach es X.env:=by rfl) (hpl:(backTo pos (starEach es X.env)).any (·.1)=false:=by rfl):PE X (.Call (.Name x p) (e::es) [] pos) (tCB r t):=by
 intro pins s σ H Q I h
 refine wpAny_Call_Name_kw (Fn I hg hm hv ?_ hn hdb)
 exact PyProof.Rows.callWith_type1 (thn (ha pos pins s σ H _ I h) fun us s1 ⟨vs,H1,I1,r1,q1⟩=>hc pins s1 σ H1 vs us Q I1 r1 q1) he hpl
end
end L2
namespace HT
open PySem PyProof.Rows
section
open PySem.SeqAt
open PySem.AutoSeq1 (wpAny_loadPart')
open PySem.MeetsSeq PySem.MeetsSeq2 PySem.MeetsSeq3
end
section
variable {prog:Program} {w:World} {A:Around} {E:Value->Shared->Prop} {s:Shared}
theorem cat_tup {t b:Addr} {vs ws:List Value} {Q:Value->Shared->Prop} (ht:IsTup s.heap t vs.toArray) (hb:IsTup s.heap b ws.toArray) (hv:vs≠[])
  (h1:ws=[]->Q (.ref t) s) (h2:ws≠[]->Q (.ref s.heap.objs.size) { s with heap:=s.heap.push { cls:=.type "tuple", data:=.seq (vs++ws).toArray } })
  (hsz:vs.length+ws.length<=sizeLine):wpAny (model prog w) A (binaryOp .Add (.ref t) (.ref b)) Q E s:=by
 obtain⟨⟨cls,dd,data,sl⟩,ho,hc,n,hd⟩:=id ht
 obtain⟨⟨cls2,dd2,data2,sl2⟩,ho2,hc2,n2,hd2⟩:=id hb
 simp only at hc hd hc2 hd2
 subst hc hd hc2 hd2
 have e:vs.toArray++ws.toArray=(vs++ws).toArray:=by simp
 by_cases hw:ws=[]
 ·exact concat_meets ⟨_,ho,rfl⟩ ⟨_,ho2,rfl⟩ noFill_tuple_add seq_tuple_add PySem.F.slot_tuple_add PySem.F.entry_tuple_add (PySem.F.args_tuple_add_2 _ _)
   (tuple_addW1 t b vs.toArray ws.toArray n n2 dd dd2 sl sl2 (by simpa using hv) (by simp [hw])) ⟨ho,ho2,h1 hw⟩
 ·refine concat_meets ⟨_,ho,rfl⟩ ⟨_,ho2,rfl⟩ noFill_tuple_add seq_tuple_add PySem.F.slot_tuple_add PySem.F.entry_tuple_add (PySem.F.args_tuple_add_2 _ _)
   (tuple_addW2 t b vs.toArray ws.toArray n n2 dd dd2 sl sl2 (by simpa using hv) (by simpa using hw) (by rw [List.size_toArray,List.size_toArray];exact hsz)) ⟨ho,ho2,?_⟩
  rw [e]
  exact h2 hw
def sIx (n d:Nat):Option Int->Nat
 | none=>d
 | some v=>if v<0 then (v+(n:Int)).toNat else min v.toNat n
theorem sIx_none (n d:Nat):sIx n d none=d:=rfl
theorem sIx_nat (n d k:Nat):sIx n d (some (k:Int))=min k n:=by
 show (if (k:Int)<0 then ((k:Int)+(n:Int)).toNat else min (k:Int).toNat n)=min k n
 rw [if_neg (by omega),Int.toNat_natCast]
theorem ar3 (n d:Nat) (hd:d<=n) (o:Option Int):sIx n d o<=n:=by
 cases o with
 | none=>exact hd
 | some v=>
  show (if v<0 then (v+(n:Int)).toNat else min v.toNat n)<=n
  by_cases hv:v<0
  ·rw [if_pos hv];omega
  ·rw [if_neg hv];exact Nat.min_le_right _ _
theorem Rr (v:Int) (n d:Nat):(if v<0 then max (v+(n:Int)) 0 else min v (n:Int))=((sIx n d (some v):Nat):Int):=by
 show (if v<0 then max (v+(n:Int)) 0 else min v (n:Int))=(((if v<0 then (v+(n:Int)).toNat else min v.toNat n):Nat):Int)
 by_cases hv:v<0
 ·simp only [if_pos hv];omega
 ·simp only [if_neg hv];omega
theorem P0 (lo hi:Option Int) (n:Nat):Builtin.Slice.sliceAdjust lo hi 1 (n:Int)=(((sIx n 0 lo:Nat):Int),((sIx n n hi:Nat):Int)):=by
 have h1:¬ ((1:Int)<0):=by omega
 unfold Builtin.Slice.sliceAdjust
 simp only [h1,if_false]
 refine Prod.ext ?_ ?_
 ·cases lo with
  | none=>rfl
  | some v=>exact Rr v n 0
 ·cases hi with
  | none=>rfl
  | some v=>exact Rr v n n
theorem Qz (i j:Nat):Builtin.Slice.slicePlaces (i:Int) (j:Int) 1=j - i:=by
 unfold Builtin.Slice.slicePlaces
 have h1:(1:Int) > 0:=by omega
 simp only [h1,if_true,Int.ediv_one]
 split <;> omega
theorem J7 {v:Value} {o:Option Int} {Q:Option Int->Shared->Prop} (p:IsPart v o) (h:Q o s):wpAny (model prog w) A (Builtin.Slice.slicePartIndex v) Q E s:=by
 cases p with
 | none=>exact slicePart_none h
 | int i t=>exact slicePart_int h
theorem He {sl:Addr} {vl vu:Value} {lo hi:Option Int} {n:Nat} {Q:Int×Int×Nat->Shared->Prop} (hs:s.heap.IsSliceOf sl vl vu .none) (pl:IsPart vl lo) (pu:IsPart vu hi)
  (h:Q (((sIx n 0 lo:Nat):Int),1,sIx n n hi - sIx n 0 lo) s):wpAny (model prog w) A (Builtin.Slice.sliceApplied (.ref sl) (pure (n:Int))) Q E s:=by
 obtain⟨os,hos,hcs,hds⟩:=id hs
 unfold Builtin.Slice.sliceApplied Builtin.Slice.sliceFields
 refine wpAny_bind (wpAny_bind (wpAny_field hos hds (x:=vl) rfl (wpAny_bind (wpAny_field hos hds (x:=vu) rfl (wpAny_bind (wpAny_field hos hds (x:=.none) rfl (wpAny_pure ?_)))))))
 refine wpAny_bind (slicePart_none ?_)
 show wpAny _ _ (if ((1:Int)==0)=true then _ else _) _ _ s
 rw [if_neg (by decide)]
 refine wpAny_bind (J7 pl (wpAny_bind (J7 pu (wpAny_bind (wpAny_pure ?_)))))
 show wpAny _ _ (match Builtin.Slice.sliceAdjust lo hi 1 (n:Int) with|(lo,hi)=>pure (lo,(1:Int),Builtin.Slice.slicePlaces lo hi 1)) _ _ s
 rw [P0 lo hi n]
 show wpAny _ _ (pure (((sIx n 0 lo:Nat):Int),(1:Int),Builtin.Slice.slicePlaces ((sIx n 0 lo:Nat):Int) ((sIx n n hi:Nat):Int) 1)) _ _ s
 rw [Qz]
 exact wpAny_pure h
theorem Xw (xs:Array Value) (i k:Nat):((List.range k).filterMap fun (m:Nat)=>xs[((i:Int)+(m:Int) * 1).toNat]?).toArray=((xs.toList.drop i).take k).toArray:=by
 have e:(fun (m:Nat)=>xs[((i:Int)+(m:Int) * 1).toNat]?)=fun m=>xs[i+m]?:=by
  funext m
  have:((i:Int)+(m:Int) * 1).toNat=i+m:=by omega
  rw [this]
 rw [e]
 have:=pick_run xs i k
 rw [List.filterMap_map] at this
 have e2:((fun x=>xs[x]?)∘fun x=>i+x)=fun m=>xs[i+m]?:=rfl
 rw [e2] at this
 rw [this]
theorem getItem_tuple_cut {t sl:Addr} {items:Array Value} {vl vu:Value} {lo hi:Option Int} {Q:Value->Shared->Prop} (ht:IsTup s.heap t items) (hs:s.heap.IsSliceOf sl vl vu .none) (pl:IsPart vl lo) (pu:IsPart vu hi)
  (hw:¬ (sIx items.size 0 lo=0/\sIx items.size items.size hi=items.size))
  (h:Q (.ref s.heap.objs.size) { s with heap:=s.heap.push { cls:=.type "tuple", data:=.seq ((items.toList.drop (sIx items.size 0 lo)).take (sIx items.size items.size hi - sIx items.size 0 lo)).toArray } })
  (hsz:items.size<=sizeLine):wpAny (model prog w) A (getItem (.ref t) (.ref sl)) Q E s:=by
 have htake:sizeOk (.seq ((items.toList.drop (sIx items.size 0 lo)).take (sIx items.size items.size hi - sIx items.size 0 lo)).toArray):=by
  show ((items.toList.drop (sIx items.size 0 lo)).take (sIx items.size items.size hi - sIx items.size 0 lo)).toArray.size<=sizeLine
  rw [List.size_toArray,List.length_take,List.length_drop,Array.length_toList]
  omega
 have hj:sIx items.size items.size hi<=items.size:=ar3 _ _ (Nat.le_refl _) hi
 obtain⟨os,hos,hcs,hds⟩:=id hs
 have hTs:s.TypeIs (.ref sl) "slice" := ⟨os,hos,hcs⟩
 unfold getItem
 try with_reducible refine wpAny_holding ?_
 first|refine wpAny_bind (wpAny_pure ?_)|skip
 refine wpAny_bind (wpAny_sequenceKey ht.typeIs (by decide) ?_)
 refine wpAny_bind (wpAny_callSpecial?_slot (name:=Str.ofString "__getitem__") ht.typeIs PyProof.Rows.slot_tuple_getitem
  (wpAny_call_entry PyProof.Rows.slot_tuple_getitem ht.typeIs entry_tuple_getitem ?_ (args_tuple_getitem _ _)))
 show wpAny _ _ (Builtin.Tuple.tupleItemsOf (.ref t) >>= _) _ _ s
 refine wpAny_bind (tupleItemsOf_ ht ?_)
 refine wpAny_bind (wpAny_typeOf hTs ?_)
 rw [if_pos (by decide)]
 refine wpAny_bind (He hs pl pu ?_)
 have hno:¬ ((((sIx items.size 0 lo:Nat):Int)==0&&(1:Int)==1&&(sIx items.size items.size hi - sIx items.size 0 lo)==items.size)=true):=by
  intro q
  rw [Bool.and_eq_true,Bool.and_eq_true] at q
  have q1:((sIx items.size 0 lo:Nat):Int)=0:=eq_of_beq q.1.1
  have q2:sIx items.size items.size hi - sIx items.size 0 lo=items.size:=eq_of_beq q.2
  exact hw ⟨by omega,by omega⟩
 show wpAny _ _ (if (((sIx items.size 0 lo:Nat):Int)==0&&(1:Int)==1&&(sIx items.size items.size hi - sIx items.size 0 lo)==items.size)=true then _ else _) _ _ s
 rw [if_neg hno,Xw]
 first
  | exact wpAny_bind (m:=Builtin.Tuple.tupleExact _) (wpAny_newObj_type (wpAny_pure ⟨_,rfl,wpAny_pure h⟩) htake)
  | exact wpAny_bind (m:=Builtin.Tuple.tupleExact _) (wpAny_newObj_type (wpAny_bind (wpAny_pure (wpAny_pure ⟨_,rfl,wpAny_pure h⟩))) htake)
  | exact wpAny_bind (wpAny_bind (m:=Builtin.Tuple.tupleExact _) (wpAny_newObj_type (wpAny_pure (wpAny_pure ⟨_,rfl,wpAny_pure h⟩)) htake))
  | exact wpAny_bind (wpAny_bind (m:=Builtin.Tuple.tupleExact _) (wpAny_newObj_type (wpAny_pure ⟨_,rfl,wpAny_pure h⟩) htake))
end
end HT
namespace L2
open PySem PySem.Spec PyProof.Rows
abbrev TO:=St->Hp->(Option Int->Hp->Prop)->Prop
def PO (X:Cx) (e:Option Expr) (t:TO):Prop:=
 ∀ (pins:List (Addr×Obj)) (s:Shared) (σ:St) (H:Hp) (Q:Option Int->Hp->Prop),Inv X pins σ H s->t σ H Q ->
  wpAny (model X.prog X.w) X.A (evalPart e X.env) (fun u s'=>∃ o H',Inv X pins σ H' s'/\IsPart u o/\Q o H') X.xe s
def ae5:TO:=fun _ H Q=>Q none H
section
variable {X:Cx} {e:Expr} {te:TE} {lo hi:Option Expr} {tl th:TO} {pos p2:Pos}
theorem ab5:PO X none ae5:=by
 intro pins s σ H Q I h
 rw [evalPart_none]
 exact wpAny_pure ⟨none,H,I,.none,h⟩
def SlR (X:Cx) (r:V->Option Int->Option Int->Hp->VK->Prop):Prop:=
 ∀ (pins:List (Addr×Obj)) (s:Shared) (σ:St) (H:Hp) (x:V) (v vl vu:Value) (lo hi:Option Int) (sl:Addr) (Q:VK),Inv X pins σ H s->RelV x v->s.heap.IsSliceOf sl vl vu .none->IsPart vl lo->IsPart vu hi->r x lo hi H Q ->
  ∃ T id,typeLookup (.type T) "__getitem__" = pure (some (.builtin id))/\s.TypeIs v T/\wpAny (model X.prog X.w) X.A (getItem v (.ref sl)) (EP X pins σ Q) X.xe s
def cutV (xs:List V) (lo hi:Option Int):List V:=(xs.drop (HT.sIx xs.length 0 lo)).take (HT.sIx xs.length xs.length hi - HT.sIx xs.length 0 lo)
theorem Hk (xs:List V) (lo hi:Option Int):(cutV xs lo hi).length<=xs.length:=by
 unfold cutV
 rw [List.length_take,List.length_drop]
 omega
def rSlT (K:PySem.W.Frag):V->Option Int->Option Int->Hp->VK->Prop:=fun x lo hi H Q=>∃ a xs,x=.ref a/\SqT K H a xs /\
 ¬ (HT.sIx xs.length 0 lo=0/\HT.sIx xs.length xs.length hi=xs.length) /\ ∀ p,H p=none->Q (.ref p) (upd H p (.tup (cutV xs lo hi)))
theorem as3:SlR X (rSlT X.K):=by
 intro pins s σ H x v vl vu lo hi sl Q I rx hs pl pu h
 obtain⟨a,xs,rfl,hx,hw,q⟩:=h
 cases rx
 obtain⟨its,r,ht,hz⟩:=I.tuple hx
 have hlen:its.toArray.size=xs.length:=by rw [List.size_toArray];exact r.length.symm
 refine⟨"tuple", _,PyProof.Rows.slot_tuple_getitem.lookup,ht.typeIs,?_⟩
 refine HT.getItem_tuple_cut ht hs pl pu (by rw [hlen];exact hw) ?_ (by rw [hlen];exact hz)
 rw [hlen]
 refine⟨.ref s.heap.objs.size,_,I.laid (t':=s.toks) (o:=.tup (cutV xs lo hi)) (fun b ob q=>Heap.get?_push_of_some _ q) (Nat.le_refl _) ?_,rfl,q _ (I.hok.fresh (Nat.le_refl _))⟩
 exact⟨Nat.le_trans (Hk xs lo hi) hz,_,(r.drop (HT.sIx xs.length 0 lo)).take (HT.sIx xs.length xs.length hi - HT.sIx xs.length 0 lo),IsTup.new _ _⟩
def ag7 (K:PySem.W.Frag):R2:=fun x y H Q=>∃ a b xs ys,x=.ref a/\y=.ref b/\SqT K H a xs/\SqT K H b ys/\xs≠[]/\xs.length+ys.length<=sizeLine /\
 (ys=[]->Q (.ref a) H)/\(ys≠[] -> ∀ p,H p=none->Q (.ref p) (upd H p (.tup (xs++ys))))
theorem Vals.nil_iff {xs:List V} {us:List Value} (r:Vals xs us):us=[] ↔ xs=[]:=by
 cases r with
 | nil=>simp
 | cons _ _=>simp
theorem op_catT:OpR X (binaryOp .Add) (ag7 X.K):=by
 intro pins s σ H x y v u Q I rx ry h
 obtain⟨a,b,xs,ys,rfl,rfl,ha,hb,hx,hz,q1,q2⟩:=h
 cases rx
 cases ry
 obtain⟨its,r1,p1,_⟩:=I.tuple ha
 obtain⟨its2,r2,p2,_⟩:=I.tuple hb
 refine HT.cat_tup p1 p2 (fun z=>hx (r1.nil_iff.mp z)) (fun z=>⟨.ref a,H,I,rfl,q1 (r2.nil_iff.mp z)⟩) (fun z=>?_) (by rw [<- r1.length,<- r2.length];exact hz)
 refine⟨.ref s.heap.objs.size,_,I.laid (t':=s.toks) (o:=.tup (xs++ys)) (fun b ob q=>Heap.get?_push_of_some _ q) (Nat.le_refl _) ?_,rfl,q2 (fun w=>z (r2.nil_iff.mpr w)) _ (I.hok.fresh (Nat.le_refl _))⟩
 exact⟨by rw [List.length_append];exact hz,_,r1.append r2,IsTup.new _ _⟩
end
def ixN (n:Nat) (i:Int):Option Nat:=if 0<=i then (if i<n then some i.toNat else none) else if -(n:Int)<=i then some (i+n).toNat else none
def atI {α:Type} (xs:List α) (i:Int):Option α:=(ixN xs.length i).bind fun j=>xs[j]?
theorem Sc {n:Nat} {i:Int} {j:Nat} (h:ixN n i=some j):seqIndex? i n=some j/\j<n /\ -(n:Int)<=i/\i<n:=by
 unfold ixN at h
 by_cases h0:0<=i
 ·rw [if_pos h0] at h
  by_cases h1:i<n
  ·rw [if_pos h1] at h
   have e:i.toNat=j:=Option.some.inj h
   exact⟨by rw [seqIndex_of h0 h1,e],by omega,by omega,h1⟩
  ·rw [if_neg h1] at h;cases h
 ·rw [if_neg h0] at h
  by_cases h1:-(n:Int)<=i
  ·rw [if_pos h1] at h
   have e:(i+n).toNat=j:=Option.some.inj h
   exact⟨by rw [seqIndex_neg (by omega) h1,e],by omega,h1,by omega⟩
  ·rw [if_neg h1] at h;cases h
theorem Md {α:Type} {xs:List α} {i:Int} {v:α} (h:atI xs i=some v):∃ j,seqIndex? i xs.length=some j/\xs[j]? = some v/\j<xs.length /\ -(xs.length:Int)<=i/\i<xs.length:=by
 unfold atI at h
 cases e:ixN xs.length i with
 | none=>rw [e] at h;cases h
 | some j=>
  rw [e] at h
  obtain⟨h1,h2,h3,h4⟩:=Sc e
  exact⟨j,h1,h,h2,h3,h4⟩
theorem Bs {α:Type} {xs:List α} {j:Nat} {v:α} (h:xs[j]? = some v):atI xs (j:Int)=some v:=by
 have hj:j<xs.length:=(List.getElem?_eq_some_iff.mp h).1
 have e:ixN xs.length (j:Int)=some j:=by
  unfold ixN
  rw [if_pos (by omega),if_pos (by omega)];simp
 unfold atI;rw [e];exact h
def Rj (b:Expr):Prop:=∀ o i,subscripted b false o i=operate [o,i] (getItem o i)
def IxR (X:Cx) (r:R2):Prop:=
 ∀ (value slice:Expr) (pins:List (Addr×Obj)) (s:Shared) (σ:St) (H:Hp) (x y:V) (v u:Value) (Q:VK),Inv X pins σ H s->RelV x v->RelV y u->r x y H Q ->
  subscripted slice false v u=operate [v,u] (getItem v u)->wpAny (model X.prog X.w) X.A (subscriptTail value slice v u) (EP X pins σ Q) X.xe s
def MtR (X:Cx) (id:String) (r:V->List V->Hp->VK->Prop):Prop:=
 ∀ (pins:List (Addr×Obj)) (s:Shared) (σ:St) (H:Hp) (x:V) (xs:List V) (v:Value) (us:List Value) (Q:VK),Inv X pins σ H s->RelV x v->Vals xs us->r x xs H Q ->
  wpAny (model X.prog X.w) X.A (call (.builtin id) (v::us)) (EP X pins σ Q) X.xe s
section
variable {X:Cx} {a b:Expr} {ta tb:TE} {pos:Pos}
theorem az1 {r:R2} (hr:IxR X r) (ha:PE X a ta) (hb:PE X b tb) (hs:Rj b):PE X (.Subscript a b pos) (tOp r ta tb):=by
 intro pins s σ H Q I h
 exact Subscript_ (binT ha hb I h fun v u s2 x y H2 I2 rx ry q=>hr a b pins s2 σ H2 x y v u Q I2 rx ry q (hs _ _))
def rIxL (K:PySem.W.Frag):R2:=fun x y H Q=>∃ p xs i v,x=.ref p/\y=.int i/\SqL K H p xs/\atI xs i=some v/\Q v H
def rIxT (K:PySem.W.Frag):R2:=fun x y H Q=>∃ p xs i v,x=.ref p/\y=.int i/\SqT K H p xs/\atI xs i=some v/\Q v H
def rIxS:R2:=fun x y H Q=>∃ z i c,x=.str z/\y=.int i/\z.length<=sizeLine/\atI z.cps.toList i=some c/\Q (.str ⟨#[c]⟩) H
theorem Z7:IxR X (rIxL X.K):=by
 intro value slice pins s σ H x y v u Q I rx ry h hs
 obtain⟨p,xs,i,z,rfl,rfl,hq,he,q⟩:=h
 cases rx
 obtain⟨t,rfl⟩:=ry
 obtain⟨its,r,pl,hz⟩:=I.list hq
 obtain⟨j,h1,h2,h3,h4,h5⟩:=Md he
 obtain⟨w,ew,rw'⟩:=r.get h2
 have hl:=r.length
 have hn:=Fp
 have fin:EP X pins σ Q w s:=⟨z,H,I,rw',q⟩
 by_cases h0:0<=i
 ·have hj:i.toNat=j:=by
   rw [seqIndex_of h0 h5] at h1
   exact Option.some.inj h1
  exact item_listR pl.isList h0 (by omega) (by rw [hj];simpa using ew) fin hs
 ·have hj:(i+(its.toArray.size:Int)).toNat=j:=by
   rw [seqIndex_neg (by omega) h4] at h1
   rw [List.size_toArray,<- hl]
   exact Option.some.inj h1
  exact subscriptTail_builtinR (x:=w) pl.isList.typeIs slot_list_getitem.lookup
   (wpAny_getItem_list_neg (Q:=fun r s'=>r=w/\EP X pins σ Q r s') pl.isList (by omega) (by rw [List.size_toArray] <;> omega) (by omega) (by rw [hj];simpa using ew) ⟨rfl,fin⟩) hs
theorem aj0:IxR X (rIxT X.K):=by
 intro value slice pins s σ H x y v u Q I rx ry h hs
 obtain⟨p,xs,i,z,rfl,rfl,hq,he,q⟩:=h
 cases rx
 obtain⟨t,rfl⟩:=ry
 obtain⟨its,r,pl,hz⟩:=I.tuple hq
 obtain⟨j,h1,h2,h3,h4,h5⟩:=Md he
 obtain⟨w,ew,rw'⟩:=r.get h2
 have hl:=r.length
 have hn:=Fp
 have fin:EP X pins σ Q w s:=⟨z,H,I,rw',q⟩
 exact subscriptTail_builtinR (x:=w) pl.typeIs slot_tuple_getitem.lookup
  (getItem_tuple (j:=j) (Q:=fun r s'=>r=w/\EP X pins σ Q r s') pl (by omega) (by omega) (by rw [List.size_toArray,<- hl];exact h1) (by simpa using ew) ⟨rfl,fin⟩) hs
theorem ai9:IxR X rIxS:=by
 intro value slice pins s σ H x y v u Q I rx ry h hs
 obtain⟨z,i,c,rfl,rfl,hz,he,q⟩:=h
 obtain⟨t,rfl⟩:=rx
 obtain⟨t',rfl⟩:=ry
 obtain⟨j,h1,h2,h3,h4,h5⟩:=Md he
 have hl:z.cps.toList.length=z.length:=by simp [Str.length]
 rw [hl] at h1 h4 h5
 have hn:=Fp
 exact tail_any (typeIs_str s z t) slot_str_getitem.lookup (getItem_str (c:=c) (by
  have e1:decide (i < -(2 ^ 63:Int))=false:=decide_eq_false (by omega)
  have e2:decide (i ≥ 2 ^ 63)=false:=decide_eq_false (by omega)
  rw [e1,e2,Bool.or_false]) (by rw [h1];simpa using h2) ⟨.str ⟨#[c]⟩,H,I.tok _,⟨_,rfl⟩,q⟩) hs
theorem Qs (its:List Value) (n j:Nat) (u:Value):Obj.mapSeq (·.setIfInBounds j u) { cls:=.type "list", data:=.seq its.toArray n }={ cls:=.type "list", data:=.seq (its.set j u).toArray n }:=by
 simp [Obj.mapSeq]
theorem Inv.lst {pins:List (Addr×Obj)} {σ:St} {H:Hp} {s:Shared} {p:Addr} {xs:List V} (I:Inv X pins σ H s) (h:H p=some (.lst xs)) :
  ∃ (its:List Value) (n:Nat),Vals xs its/\s.heap.get? p=some { cls:=.type "list", data:=.seq its.toArray n }/\xs.length<=sizeLine:=by
 obtain⟨z,its,n,r,e⟩:=I.hok p _ h
 exact⟨its,n,r,e,z⟩
theorem Inv.lstUpd {pins:List (Addr×Obj)} {σ:St} {H:Hp} {s:Shared} {p:Addr} {xs ys:List V} {its its':List Value} {n n':Nat} {f:Obj->Obj} (I:Inv X pins σ H s) (h:H p=some (.lst xs))
  (ho:s.heap.get? p=some { cls:=.type "list", data:=.seq its.toArray n }) (hf:f { cls:=.type "list", data:=.seq its.toArray n }={ cls:=.type "list", data:=.seq its'.toArray n' }) (r:Vals ys its') (hz:ys.length<=sizeLine) (t:Nat) :
  Inv X pins σ (upd H p (.lst ys)) { s with heap:=s.heap.update p f,toks:=t }:=by
 have e:(s.heap.update p f).get? p=some { cls:=.type "list", data:=.seq its'.toArray n' }:=by
  rw [Heap.get?_update_self f ho (by rw [hf] <;> rfl),hf]
 refine I.write (x:=p) (e:=p) (by rw [h];trivial) (.inl rfl) (fun b u hb q=>(Heap.get?_update_other _ _ (Ne.symm hb)).trans q) ⟨_,e⟩ ?_
 exact⟨hz,its',n',r,e⟩
def a04:V->V->V->Hp->(Hp->Prop)->Prop:=fun o i v H Q=>∃ p xs k j,o=.ref p/\i=.int k/\H p=some (.lst xs)/\ixN xs.length k=some j/\Q (upd H p (.lst (xs.set j v)))
theorem Ys:PSet X a04:=by
 intro pins s σ H o i v ov iv u Q I ro ri rv h
 obtain⟨p,xs,k,j,rfl,rfl,hp,hj,q⟩:=h
 cases ro
 obtain⟨t,rfl⟩:=ri
 obtain⟨its,n,r,ho,hz⟩:=I.lst hp
 obtain⟨h1,h2,h3,h4⟩:=Sc hj
 have hl:=r.length
 have hn:=Fp
 have I':Inv X pins σ (upd H p (.lst (xs.set j v))) { s with heap:=s.heap.update p (Obj.mapSeq (·.setIfInBounds j u)) }:=
  I.lstUpd hp ho (Qs its n j u) (r.set rv j) (by rw [List.length_set];exact hz) s.toks
 by_cases h0:0<=k
 ·have hk:k.toNat=j:=by
   rw [seqIndex_of h0 h4] at h1
   exact Option.some.inj h1
  exact PySem.W.ki_setAt ho h0 (by omega) (by rw [List.size_toArray,<- hl];exact h4) (by rw [hk];exact⟨_,I',q⟩)
 ·have hk:(k+(its.toArray.size:Int)).toNat=j:=by
   rw [seqIndex_neg (by omega) h3] at h1
   rw [List.size_toArray,<- hl]
   exact Option.some.inj h1
  exact PySem.W.ki_setBack ho (by omega) (by rw [List.size_toArray,<- hl];exact h3) (by omega) (by rw [hk];exact⟨_,I',q⟩)
theorem Nb (lo hi:Option Int) (n:Nat):(sliceBounds lo hi none n).1=((HT.sIx n 0 lo:Nat):Int)/\(sliceBounds lo hi none n).2.1=((HT.sIx n n hi:Nat):Int)/\(sliceBounds lo hi none n).2.2=1:=by
 refine⟨?_,?_,rfl⟩
 ·cases lo with
  | none=>simp [sliceBounds,HT.sIx]
  | some i=>
   simp only [sliceBounds,HT.sIx,Option.getD_none,show (1:Int) > 0 by decide,if_true]
   by_cases h:i<0
   ·simp only [h,if_true] <;> omega
   ·simp only [h,if_false] <;> omega
 ·cases hi with
  | none=>simp [sliceBounds,HT.sIx]
  | some i=>
   simp only [sliceBounds,HT.sIx,Option.getD_none,show (1:Int) > 0 by decide,if_true]
   by_cases h:i<0
   ·simp only [h,if_true] <;> omega
   ·simp only [h,if_false] <;> omega
theorem Ks (its:List Value) (lo hi:Option Int):slicePick its.toArray lo hi none=((its.drop (HT.sIx its.length 0 lo)).take (HT.sIx its.length its.length hi - HT.sIx its.length 0 lo)).toArray:=by
 obtain⟨h1,h2,h3⟩:=Nb lo hi its.toArray.size
 unfold slicePick
 rw [h1,h2,h3]
 simp only [sliceRange_one,pick_run,List.size_toArray] <;> rfl
def rSlL (K:PySem.W.Frag):V->Option Int->Option Int->Hp->VK->Prop:=fun x lo hi H Q=>∃ a xs,x=.ref a/\SqL K H a xs /\ ∀ p,H p=none->Q (.ref p) (upd H p (.lst (cutV xs lo hi)))
theorem ad9:SlR X (rSlL X.K):=by
 intro pins s σ H x v vl vu lo hi sl Q I rx hs pl pu h
 obtain⟨a,xs,rfl,hx,q⟩:=h
 cases rx
 obtain⟨its,r,ht,hz⟩:=I.list hx
 have hlen:=r.length
 refine⟨"list", _,slot_list_getitem.lookup,ht.isList.typeIs,?_⟩
 refine wpAny_getItem_list_slice ht.isList hs pl pu .none (by simp) ?_ (by rw [List.size_toArray] <;> omega)
 rw [Ks,<- hlen]
 refine⟨.ref s.heap.objs.size,_,I.laid (t':=s.toks) (o:=.lst (cutV xs lo hi)) (fun b ob q=>Heap.get?_push_of_some _ q) (Nat.le_refl _) ?_,rfl,q _ (I.hok.fresh (Nat.le_refl _))⟩
 exact⟨Nat.le_trans (Hk xs lo hi) hz,_,0,(r.drop (HT.sIx xs.length 0 lo)).take (HT.sIx xs.length xs.length hi - HT.sIx xs.length 0 lo),Heap.get?_push_size _ rfl⟩
def Bx:V->Bool
 | .non=>true
 | .bl _=>true
 | .int _=>true
 | .str _=>true
 | _=>false
def eqV:V->V->Bool
 | .non,.non=>true
 | .bl a,.bl b=>a==b
 | .bl a,.int b=>(if a then 1 else 0)==b
 | .int a,.bl b=>a==(if b then 1 else 0)
 | .int a,.int b=>a==b
 | .str a,.str b=>a==b
 | _,_=>false
theorem Qg {A:Around} {s:Shared} {y x:V} {u v:Value} (ry:RelV y u) (rx:RelV x v) (fy:Bx y=true) (fx:Bx x=true):SeqAt.EqAt A s u v (eqV y x):=by
 cases y with
 | non=>
  cases ry
  cases x with
  | non=>cases rx;exact SeqAt.EqAt.same _
  | bl b=>cases rx;exact SeqAt.EqAt.none_bool b
  | int b=>obtain⟨t,rfl⟩:=rx;exact SeqAt.EqAt.none_int b t
  | str b=>obtain⟨t,rfl⟩:=rx;exact SeqAt.EqAt.none_str b t
  | _=>exact absurd (show false=true from fx) Bool.false_ne_true
 | bl a=>
  cases ry
  cases x with
  | non=>cases rx;exact SeqAt.EqAt.bool_none a
  | bl b=>cases rx;exact SeqAt.EqAt.bool_bool a b
  | int b=>obtain⟨t,rfl⟩:=rx;exact SeqAt.EqAt.bool_int a b t
  | str b=>obtain⟨t,rfl⟩:=rx;exact SeqAt.EqAt.bool_str a b t
  | _=>exact absurd (show false=true from fx) Bool.false_ne_true
 | int a=>
  obtain⟨t',rfl⟩:=ry
  cases x with
  | non=>cases rx;exact SeqAt.EqAt.int_none a t'
  | bl b=>cases rx;exact SeqAt.EqAt.int_bool a t' b
  | int b=>obtain⟨t,rfl⟩:=rx;exact SeqAt.EqAt.int_int a t' b t
  | str b=>obtain⟨t,rfl⟩:=rx;exact SeqAt.EqAt.int_str a t' b t
  | _=>exact absurd (show false=true from fx) Bool.false_ne_true
 | str a=>
  obtain⟨t',rfl⟩:=ry
  cases x with
  | non=>cases rx;exact SeqAt.EqAt.str_none a t'
  | bl b=>cases rx;exact SeqAt.EqAt.str_bool a t' b
  | int b=>obtain⟨t,rfl⟩:=rx;exact SeqAt.EqAt.str_int a t' b t
  | str b=>obtain⟨t,rfl⟩:=rx;exact SeqAt.EqAt.str_str a t' b t
  | _=>exact absurd (show false=true from fx) Bool.false_ne_true
 | _=>exact absurd (show false=true from fy) Bool.false_ne_true
def eqU (x:V) (u:Value):Bool:=match u with
 | .none=>eqV .non x
 | .bool b=>eqV (.bl b) x
 | .int i _=>eqV (.int i) x
 | .str z _=>eqV (.str z) x
 | _=>false
theorem Wr {x y:V} {u:Value} (r:RelV y u) (f:Bx y=true):eqU x u=eqV y x:=by
 cases y with
 | non=>cases r;rfl
 | bl b=>cases r;rfl
 | int i=>obtain⟨t,rfl⟩:=r;rfl
 | str z=>obtain⟨t,rfl⟩:=r;rfl
 | _=>exact absurd (show false=true from f) Bool.false_ne_true
theorem Fw {x:V}:∀ {xs:List V} {us:List Value},Vals xs us->xs.all Bx=true->us.any (eqU x)=xs.any fun y=>eqV y x
 | _,_,.nil,_=>rfl
 | y::xs,u::us,.cons r t,f=>by
  rw [List.all_cons,Bool.and_eq_true] at f
  rw [List.any_cons,List.any_cons,Wr r f.1,Fw t f.2]
theorem E3 {A:Around} {s:Shared} {x:V} {v:Value} (rx:RelV x v) (fx:Bx x=true):∀ {xs:List V} {us:List Value},Vals xs us->xs.all Bx=true -> ∀ u∈us,SeqAt.EqAt A s u v (eqU x u)
 | _,_,.nil,_=>fun u hu=>by cases hu
 | y::xs,u::us,.cons r t,f=>fun u' hu=>by
  rw [List.all_cons,Bool.and_eq_true] at f
  rcases List.mem_cons.mp hu with rfl|hu
  ·rw [Wr r f.1];exact Qg r rx f.1 fx
  ·exact E3 rx fx t f.2 u' hu
def inV (x:V) (xs:List V):Bool:=xs.any fun y=>eqV y x
def rIn (K:PySem.W.Frag) (neg:Bool):R2:=fun x y H Q=>∃ p xs,y=.ref p/\(SqL K H p xs\/SqT K H p xs)/\Bx x=true/\xs.all Bx=true/\Q (.bl (if neg then !inV x xs else inV x xs)) H
theorem Vc:OpR X (compareOp .In) (rIn X.K false):=by
 intro pins s σ H x y v u Q I rx ry h
 obtain⟨p,xs,rfl,hq,fx,fs,q⟩:=h
 cases ry
 rcases hq with hq|hq
 ·obtain⟨its,r,pl,hz⟩:=I.list hq
  refine SeqAt.in_listAt (eqU x) pl.isList (fun w hw=>E3 rx fx r fs w (by simpa using hw)) ⟨.bl _,H,I,rfl,?_⟩
  rw [show its.toArray.any (eqU x)=its.any (eqU x) by simp,Fw r fs]
  exact q
 ·obtain⟨its,r,pl,hz⟩:=I.tuple hq
  refine SeqAt.in_tupleAt (eqU x) pl (fun w hw=>E3 rx fx r fs w (by simpa using hw)) ⟨.bl _,H,I,rfl,?_⟩
  rw [show its.toArray.any (eqU x)=its.any (eqU x) by simp,Fw r fs]
  exact q
theorem M4:OpR X (compareOp .NotIn) (rIn X.K true):=by
 intro pins s σ H x y v u Q I rx ry h
 obtain⟨p,xs,rfl,hq,fx,fs,q⟩:=h
 cases ry
 rcases hq with hq|hq
 ·obtain⟨its,r,pl,hz⟩:=I.list hq
  refine SeqAt.notIn_listAt (eqU x) pl.isList (fun w hw=>E3 rx fx r fs w (by simpa using hw)) ⟨.bl _,H,I,rfl,?_⟩
  rw [show its.toArray.any (eqU x)=its.any (eqU x) by simp,Fw r fs]
  exact q
 ·obtain⟨its,r,pl,hz⟩:=I.tuple hq
  refine SeqAt.notIn_tupleAt (eqU x) pl (fun w hw=>E3 rx fx r fs w (by simpa using hw)) ⟨.bl _,H,I,rfl,?_⟩
  rw [show its.toArray.any (eqU x)=its.any (eqU x) by simp,Fw r fs]
  exact q
theorem Ml:Cr X (.builtin "len") (fun xs H Q=>∃ p ys,xs=[.ref p]/\(SqL X.K H p ys\/SqT X.K H p ys)/\Q (.int ys.length) H):=by
 intro pins s σ H xs us Q I r h
 obtain⟨p,ys,rfl,hq,q⟩:=h
 obtain⟨u,rfl,rx⟩:=Gp r
 cases rx
 have hn:=Fp
 rcases hq with hq|hq
 ·obtain⟨its,r',pl,hz⟩:=I.list hq
  have hlen:=r'.length
  exact Calls.call_len_list pl.isList (by simp only [List.size_toArray] <;> omega) ⟨.int ys.length,H,I.tok _,⟨s.toks+1,by rw [List.size_toArray,hlen]⟩,q⟩
 ·obtain⟨its,r',pl,hz⟩:=I.tuple hq
  have hlen:=r'.length
  exact len_tuple pl (by simp only [List.size_toArray] <;> omega) ⟨.int ys.length,H,I.tok _,⟨s.toks+1,by rw [List.size_toArray,hlen]⟩,q⟩
theorem Mm:Cr X (.builtin "len") (fun xs H Q=>∃ z,xs=[.str z]/\z.length<=sizeLine/\Q (.int z.length) H):=by
 intro pins s σ H xs us Q I r h
 obtain⟨z,rfl,hz,q⟩:=h
 obtain⟨u,rfl,t,rfl⟩:=Gp r
 have hn:=Fp
 exact len_str (by omega) ⟨.int z.length,H,I.tok _,⟨_,rfl⟩,q⟩
theorem Mn:Cr X (.type "list") (fun xs H Q=>∃ p ys,xs=[.ref p]/\(SqL X.K H p ys\/SqT X.K H p ys) /\ ∀ l,H l=none->Q (.ref l) (upd H l (.lst ys))):=by
 intro pins s σ H xs us Q I r h
 obtain⟨p,ys,rfl,hq,q⟩:=h
 obtain⟨u,rfl,rx⟩:=Gp r
 cases rx
 have fin:∀ (its:List Value),Vals ys its->ys.length<=sizeLine -> ∀ (h':Heap) (c':Nat),(∀ b o',s.heap.get? b=some o'->h'.get? b=some o') ->
   h'.get? s.heap.objs.size=some { cls:=.type "list", dict:=none,data:=.seq its.toArray c',slots:=#[] }->EP X pins σ Q (.ref s.heap.objs.size) { s with heap:=h' }:=fun its r' hz h' c' kp e=>
  ⟨.ref s.heap.objs.size,_,I.laid (t':=s.toks) kp (Nat.le_refl _) (show ObjOk X.prog X.w _ h' _ (.lst ys) from⟨hz,its,c',r',e⟩),rfl,q _ (I.hok.fresh (Nat.le_refl _))⟩
 rcases hq with hq|hq
 ·obtain⟨its,r',pl,hz⟩:=I.list hq
  have hlen:=r'.length
  obtain⟨o,ho,hc,n,hd⟩:=pl.isList
  exact call_list_seq p (.inl rfl) ho hc hd (fun h' c' kp e=>fin its r' hz h' c' kp e) (by simp only [List.size_toArray] <;> omega)
 ·obtain⟨its,r',pl,hz⟩:=I.tuple hq
  have hlen:=r'.length
  obtain⟨o,ho,hc,n,hd⟩:=pl
  exact call_list_seq p (.inr rfl) ho hc hd (fun h' c' kp e=>fin its r' hz h' c' kp e) (by simp only [List.size_toArray] <;> omega)
theorem Kn:Cr X (.type "tuple") (fun xs H Q=>∃ p ys,xs=[.ref p]/\((SqL X.K H p ys /\ ∀ l,H l=none->Q (.ref l) (upd H l (.tup ys)))\/(SqT X.K H p ys/\Q (.ref p) H))):=by
 intro pins s σ H xs us Q I r h
 obtain⟨p,ys,rfl,h⟩:=h
 obtain⟨u,rfl,rx⟩:=Gp r
 cases rx
 rcases h with ⟨hq,q⟩|⟨hq,q⟩
 ·obtain⟨its,r',pl,hz⟩:=I.list hq
  have hlen:=r'.length
  refine call_tuple_list pl.isList (fun h' kp=>?_) (by simp only [List.size_toArray] <;> omega)
  have I1:Inv X pins σ H { s with heap:=h' }:=I.kept (t':=s.toks) kp
  have I2:Inv X pins σ (upd H h'.objs.size (.tup ys)) { s with heap:=h'.push { cls:=.type "tuple", data:=.seq its.toArray } }:=
   I1.laid (t':=s.toks) (fun b o e=>Heap.get?_push_of_some _ e) (Nat.le_refl _) (show ObjOk X.prog X.w _ _ _ (.tup ys) from⟨hz,its,r',IsTup.new _ _⟩)
  exact⟨.ref h'.objs.size,_,I2,rfl,q _ (I1.hok.fresh (Nat.le_refl _))⟩
 ·obtain⟨its,r',pl,hz⟩:=I.tuple hq
  exact call_tuple_same pl ⟨.ref p,H,I,rfl,q⟩
def tyV (K:PySem.W.Frag) (T:String) (x:V) (H:Hp):Prop:=match x with
 | .str _=>T = "str"
 | .int _=>T = "int"
 | .ref p=>(T = "list" /\ ∃ xs,SqL K H p xs)\/(T = "tuple" /\ ∃ o,K.lookup p=some o/\o.cls=.type "tuple" /\ o.dict=none) \/
   (T = "dict" /\ ((∃ kvs,H p=some (.dK kvs)) \/ ∃ kvs,H p=some (.dT kvs)))\/(T = "set" /\ ∃ S n,H p=some (.set S n))
 | _=>False
theorem Zh {pins:List (Addr×Obj)} {σ:St} {H:Hp} {s:Shared} {T:String} {x:V} {v:Value} (I:Inv X pins σ H s) (r:RelV x v) (ty:tyV X.K T x H) :
  s.TypeIs v T /\ ∀ a,v=.ref a -> ∃ ob,s.heap.get? a=some ob/\ob.dict=none:=by
 cases x with
 | str z=>
  obtain⟨t,rfl⟩:=r
  cases (show T = "str" from ty)
  exact⟨typeIs_str s z t,fun _ e=>nomatch e⟩
 | int i=>
  obtain⟨t,rfl⟩:=r
  cases (show T = "int" from ty)
  exact⟨typeIs_int s i t,fun _ e=>nomatch e⟩
 | ref p=>
  cases r
  rcases ty with ⟨rfl,xs,hq⟩|⟨rfl,o,hk,hc,hd⟩|⟨rfl,hk⟩|⟨rfl,S,n,hk⟩
  ·obtain⟨its,_,pl,_⟩:=I.list hq
   refine⟨pl.isList.typeIs,fun a e=>?_⟩
   cases e
   obtain⟨o,n,e,c,hd,_⟩:=pl
   exact⟨o,e,hd⟩
  ·refine⟨⟨o,I.kIn p o hk,hc⟩,fun a e=>?_⟩
   cases e
   exact⟨o,I.kIn _ o hk,hd⟩
  ·have z:∃ o,s.heap.get? p=some o/\o.ExactDict:=by
    rcases hk with ⟨kvs,hk⟩|⟨kvs,hk⟩
    ·obtain⟨_,_,_,_,o,_,_,e,ex,_⟩:=I.hok p _ hk
     exact⟨o,e,ex⟩
    ·obtain⟨_,_,_,_,o,_,_,e,ex,_⟩:=I.hok p _ hk
     exact⟨o,e,ex⟩
   obtain⟨o,e,ex⟩:=z
   refine⟨⟨o,e,ex.1⟩,fun a e2=>?_⟩
   cases e2
   exact⟨o,e,ex.2.1⟩
  ·obtain⟨o,_,_,_,e,ex,_⟩:=I.hok p _ hk
   refine⟨⟨o,e,ex.1⟩,fun a e2=>?_⟩
   cases e2
   exact⟨o,e,ex.2.1⟩
 | _=>exact False.elim ty
variable {o e:Expr} {es:List Expr} {to:TE} {t:TA} {name:Str} {apos cpos:Pos} {T id:String} {r:V->List V->Hp->VK->Prop}
/- xs.append(e),list.index on a module's tuple .. are MtR facts of 06m -/
end
def MtM (X:Cx) (id:String) (r:V->List V->Hp->VK->Prop):Prop:=
 ∀ (pins:List (Addr×Obj)) (s:Shared) (σ:St) (H:Hp) (x:V) (xs:List V) (v:Value) (us:List Value) (Q:VK),Inv X pins σ H s->RelV x v->Vals xs us->r x xs H Q ->
  wpAny (model X.prog X.w) X.A (call (.builtin id) (v::us)) (EP X pins σ Q) X.xe s
theorem Vals.one:∀ {x:V} {us:List Value},Vals [x] us -> ∃ u,us=[u]/\RelV x u
 | _,_,.cons r .nil=>⟨_,rfl,r⟩
theorem Vals.two:∀ {x y:V} {us:List Value},Vals [x,y] us -> ∃ u v,us=[u,v]/\RelV x u/\RelV y v
 | _,_,_,.cons r (.cons q .nil)=>⟨_,_,rfl,r,q⟩
section
variable {X:Cx} {pins:List (Addr×Obj)} {σ:St} {H:Hp} {s:Shared} {l b:Addr} {xs ys zs:List V}
theorem Inv.lset {its its':List Value} {n:Nat} {f:Array Value->Array Value} {t':Nat} (I:Inv X pins σ H s) (hH:H l=some (.lst xs))
  (e:s.heap.get? l=some { cls:=.type "list", data:=.seq its.toArray n }) (hf:f its.toArray=its'.toArray) (hv:Vals ys its') (hz:ys.length<=sizeLine) :
  Inv X pins σ (upd H l (.lst ys)) { s with heap:=s.heap.update l (Obj.mapSeq f),toks:=t' }:=by
 have q:=PySem.IsL.update e f
 rw [hf] at q
 refine I.write (x:=l) (e:=l) (by rw [hH];exact trivial) (.inl rfl) (fun b' u hb hu=>(Heap.get?_update_other s.heap (Obj.mapSeq f) (Ne.symm hb)).trans hu) ⟨_,q⟩ ?_
 exact⟨hz,its',_,hv,q⟩
theorem Inv.lnew {its:List Value} {t':Nat} (I:Inv X pins σ H s) (hv:Vals ys its) (hz:ys.length<=sizeLine) :
  Inv X pins σ (upd H s.heap.objs.size (.lst ys)) { s with heap:=s.heap.push { cls:=.type "list", data:=.seq its.toArray },toks:=t' }:=
 I.laid (fun _ _ q=>Heap.get?_push_of_some _ q) (Nat.le_refl _) ⟨hz,its,0,hv,Heap.get?_push_size _ rfl⟩
theorem Inv.fresh (I:Inv X pins σ H s):H s.heap.objs.size=none:=I.hok.fresh (Nat.le_refl _)
theorem Inv.lstM (I:Inv X pins σ H s) (hH:H l=some (.lst xs)):xs.length<=sizeLine /\ ∃ (its:List Value) (n:Nat),Vals xs its/\xs.length=its.length/\s.heap.get? l=some { cls:=.type "list", data:=.seq its.toArray n }:=by
 obtain⟨z,its,n,r,e⟩:=I.hok l _ hH
 exact⟨z,its,n,r,r.length,e⟩
theorem Xo {n:Nat} (h:n<=sizeLine):Builtin.List.listTooLong n=false:=by
 unfold Builtin.List.listTooLong
 exact decide_eq_false (by omega)
end
section
variable {X:Cx}
def Dl:V->List V->Hp->VK->Prop:=fun x vs H Q=>∃ l xs y,x=.ref l/\vs=[y]/\H l=some (.lst xs)/\xs.length<sizeLine/\Q .non (upd H l (.lst (xs++[y])))
theorem Lv:MtM X "list.append" Dl:=by
 intro pins s σ H x vs v us Q I rx rv h
 obtain⟨l,xs,y,rfl,rfl,hH,hz,q⟩:=h
 cases rx
 obtain⟨u,rfl,ru⟩:=rv.one
 obtain⟨z,its,n,r,hl,e⟩:=I.lstM hH
 refine call_meets F.slot_list_append ⟨_,e,rfl⟩ F.entry_list_append (F.args_list_append_2 _ _) (PySem.list_append l its.toArray n u (by rw [List.size_toArray];omega)) ⟨e,?_⟩
 refine⟨.non,_,I.lset (its':=its++[u]) hH e (by simp) (r.append (.cons ru .nil)) ?_,rfl,q⟩
 rw [List.length_append,List.length_singleton]
 omega
def Ik:V->List V->Hp->VK->Prop:=fun x vs H Q=>∃ l b xs zs,x=.ref l/\vs=[.ref b]/\H l=some (.lst xs)/\H b=some (.lst zs)/\xs.length+zs.length<=sizeLine/\Q .non (upd H l (.lst (xs++zs)))
theorem U5:MtM X "list.extend" Ik:=by
 intro pins s σ H x vs v us Q I rx rv h
 obtain⟨l,b,xs,zs,rfl,rfl,hH,hB,hz,q⟩:=h
 cases rx
 obtain⟨u,rfl,ru⟩:=rv.one
 cases ru
 obtain⟨z,its,n,r,hl,e⟩:=I.lstM hH
 obtain⟨z2,its2,n2,r2,hl2,e2⟩:=I.lstM hB
 have hsz:its.toArray.size+its2.toArray.size<=sizeLine:=by rw [List.size_toArray,List.size_toArray];omega
 have hlong:¬ (!its.toArray.isEmpty&&Builtin.List.listTooLong (its.toArray.size+its2.toArray.size))=true:=by
  rw [Xo hsz,Bool.and_false]
  exact Bool.false_ne_true
 refine call_meets F.slot_list_extend ⟨_,e,rfl⟩ F.entry_list_extend (F.args_list_extend_2 _ _)
  (AutoSeq1.list_extend_list_list_0 l its.toArray n b its2.toArray n2 hlong (by rw [List.size_toArray];omega) (by omega)) ⟨e,e2,?_⟩
 refine⟨.non,_,I.lset (its':=its++its2) hH e (by simp) (r.append r2) ?_,rfl,q⟩
 rw [List.length_append]
 omega
def rCat:R2:=fun x y H Q=>∃ l b xs zs,x=.ref l/\y=.ref b/\H l=some (.lst xs)/\H b=some (.lst zs)/\xs.length+zs.length<=sizeLine /\ ∀ p,H p=none->Q (.ref p) (upd H p (.lst (xs++zs)))
theorem op_cat:OpR X (binaryOp .Add) rCat:=by
 intro pins s σ H x y v u Q I rx ry h
 obtain⟨l,b,xs,zs,rfl,rfl,hH,hB,hz,q⟩:=h
 cases rx
 cases ry
 obtain⟨z,its,n,r,hl,e⟩:=I.lstM hH
 obtain⟨z2,its2,n2,r2,hl2,e2⟩:=I.lstM hB
 refine PySem.P.add_list e e2 ?_ (by rw [List.size_toArray,List.size_toArray];omega)
 have ea:its.toArray++its2.toArray=(its++its2).toArray:=by simp
 rw [ea]
 exact⟨.ref _,_,I.lnew (t':=s.toks) (r.append r2) (by rw [List.length_append];omega),rfl,q _ I.fresh⟩
end
section
variable {prog:Program} {w:World} {A:Around} {E:Value->Shared->Prop} {s:Shared}
set_option maxRecDepth 100000 in
end
section
variable {X:Cx}
end
end L2
namespace Att
open PySem PySem.W PySem.Calls PyProof.Rows
theorem Ht {P:Params} {h:Heap}:∀ (ns:List Int) (vs:List Value),WellAll P h vs (ns.map WData.int)->IntsAre vs ns:=by
 intro ns
 induction ns with
 | nil=>
  intro vs w
  rw [List.map_nil] at w
  cases w
  exact .nil
 | cons n ns ih=>
  intro vs w
  rw [List.map_cons] at w
  cases w with
  | cons a b=>
   cases a
   exact .cons _ _ (ih _ b)
theorem Vn {l:OpenLaw} {n:Nat} (hn:l.most=some n) {P:Params} {h:Heap} {args:List WData} {vals:List Value}
  (hpre:l.row.toRowW.claim.pre args=true) (hwl:WellAll P h vals args) :
  ∃ a vs ns,vals=[Value.ref a]/\args=[WData.list (ns.map WData.int)]/\h.get? a=some { cls:=.type "list", data:=.seq vs.toArray }/\IntsAre vs ns/\ns.length<=n:=by
 have hsh:WShape.hasAll [] args [.list .int]=true:=(pre_splitW hpre).1
 have hc:l.pre.holds [] { args:=args }=true:=(pre_splitW hpre).2
 obtain⟨d,r,rfl,h1,h2⟩:=hasAllW_cons hsh
 obtain rfl:=hasAllW_nil h2
 obtain⟨xs,rfl,h3⟩:=hasW_list h1
 obtain⟨ns,rfl⟩:=items_int h3
 have hlen:ns.length<=n:=by
  unfold OpenLaw.pre at hc
  have h4:(WTm.not (.lt (.lit (.int (n:Int))) (.len (.arg 0)))).holds [] { args:=[.list (ns.map .int)] }=true:=by
   have h4:=(holds_andW hc).1
   rw [hn] at h4
   exact h4
  have h5:=condW_of h4 (w_not (w_lt w_lit (w_len_list (w_arg rfl))))
  rw [List.length_map] at h5
  refine Nat.le_of_not_lt fun q=>?_
  have q':(n:Int)<((ns.length:Nat):Int):=by omega
  first
   | (rw [decide_eq_true q'] at h5;exact absurd h5 (by decide))
   | (simp at h5;omega)
 cases hwl with
 | cons w1 w2=>
  cases w2
  cases w1 with
  | list ho hall=>exact⟨_,_,ns,rfl,rfl,ho,Ht ns _ hall,hlen⟩
theorem Vi (l:OpenLaw) (args:List WData):l.row.toRowW.claim.post args (.bool true) args=true:=
 postW_of (r:=l.row.toRowW) (X:=(true==true))
  (show WShape.has [] (.bool true) .bool=true by first|rfl|decide|simp [WShape.has,WShape.arms,WShape.armsAll])
  (show (WTm.eq .res (.lit (.bool true))).value [] { args:=args,res:=some (.bool true),after:=args }=some (.bool (true==true)) from w_eq_bool (w_res rfl) w_lit) rfl
theorem attach_call {l:OpenLaw} {n:Nat} {q:Program} {loose:List Str} {XP:(Str->Option Value)->Heap->Prop} {YP:World->Heap->Prop} {d:DefRec}
  (hn:l.most=some n) (hdf:d.params.defaults=[])
  (call:∀ (w:World) (s₀ s₁:Shared) (mg mb:Str->Option Value) (fa:Addr) (o:Obj) (pm cd doc:Value) (a:Addr) (vs:List Value) (ns:List Int),
   Ground q loose [] XP w s₀ mg mb s₁.heap->YP w s₁.heap ->
   s₁.heap.get? fa=some o->o.data=.func (docDef d.name d.params d.body d.scope pm cd doc)->s₁.heap.CodeRec cd d.name->mg d.name=some (.ref fa) ->
   s₁.heap.get? a=some { cls:=.type "list", data:=.seq vs.toArray }->IntsAre vs ns->ns.length<=n->s₁.gens = #[] ->
   codeAny (model l.prog w) callerA (.call (.ref fa) ⟨[.ref a],[]⟩) (fun r s'=>r=.ok (.ret (.bool true))/\OldK s₁.heap s'.heap/\s'.os=s₁.os/\AllBare s'.gens) s₁) :
  WalkO q loose XP YP l.row.toRowW d [] (fun f vs=>PySem.call f vs):=by
 intro w s₀ s₁ mg mb G Y fa o pm cd doc dV kV ho hd hcd hD hmg hg args vals as hpre hlay hrd hwl hlo
 obtain rfl:dV=.none:=Dflts.none hD hdf
 obtain rfl:kV=.none:=Dflts.noKw hD
 obtain⟨a,vs,ns,rfl,rfl,hobj,hints,hlen⟩:=Vn hn hpre hwl
 refine enter_call (codeAny_mono (call w s₀ s₁ mg mb fa o pm cd doc a vs ns G Y ho (fd_plain hd) hcd hmg hobj hints hlen hg) fun r s' hq=>?_)
 obtain⟨rfl,h2,h3,h4⟩:=hq
 exact⟨.inl ⟨.bool true,.bool true,[],rfl,fun _=>rfl,.bool true,Vi l _,fun _=>⟨List.Pairwise.nil,fun _ hm=>(nomatch hm)⟩⟩,h2,h3,h4⟩
section
variable {prog:Program} {w:World} {A:Around} {E:Value->Shared->Prop} {s:Shared} {K:Frag}
end
end Att
namespace L2
open PySem PySem.Spec PyProof.Rows
theorem Mb:∀ {vs:List Value} {ns:List Int},IntsAre vs ns->Vals (ns.map V.int) vs
 | _,_,.nil=>.nil
 | _,_,.cons n t h=>.cons ⟨t,rfl⟩ (Mb h)
def Only (H:Hp):Prop:=∀ b,H b=none \/ ∃ o xs,H b=some (.frz o (.lst xs))
theorem Xf {P:Program} {w:World} {K:PySem.W.Frag} {mg mb:Str->Option Value} {CX:CXT} {k:Nat} {fa a:Addr} {fd:FuncData} {x:Str} {sp:Sp} {s₁:Shared} {vs:List Value} {ns:List Int}
  (KX:K.In s₁.heap) (hns:s₁.heap.Ns mainGlobals mg) (hb:s₁.heap.Ns builtinsNs mb) (hbb:∀ x:Str,x ≠ "__name__" -> mb x=bootBuiltins x) (hlim:s₁.heap.NoLimit) (hg:s₁.gens = #[])
  (ha:s₁.heap.get? a=some { cls:=.type "list", data:=.seq vs.toArray }) (hi:IntsAre vs ns) (hl:ns.length<=sizeLine) (hr:Room k callerA)
  (F:∀ base:Heap,K.In base->base.Ns mainGlobals mg->FnOk P w K mg base CX k fa fd [x] sp) (hbind:∀ (s:Shared) (u:Value),BindsTo s fd ⟨[u],[]⟩ [(x,u)])
  (hsp:∀ H:Hp,Only H->SqL K H a (ns.map V.int)->sp [.ref a] H (fun v _=>v=.bl true) fun _ _ _=>False)
  (hCX:∀ H e s',CX [] H s₁ (fun _ _ _=>False) e s'->False) :
  codeAny (model P w) callerA (.call (.ref fa) ⟨[.ref a],[]⟩) (fun r s'=>r=.ok (.ret (.bool true))/\OldK s₁.heap s'.heap/\s'.os=s₁.os/\AllBare s'.gens) s₁:=by
 have rv:=Mb hi
 have lenV:=hi.length
 have core:∀ H:Hp,Only H->SqL K H a (ns.map V.int)->HOk P w H s₁.heap->(∀ b,H b≠none->b=a)->(H a≠none->K.lookup a=none) ->
   codeAny (model P w) callerA (.call (.ref fa) ⟨[.ref a],[]⟩) (fun r s'=>r=.ok (.ret (.bool true))/\OldK s₁.heap s'.heap/\s'.os=s₁.os/\AllBare s'.gens) s₁:=by
  intro H hO hS hok hA hK
  have base_of:∀ {b:Addr} {o:Obj},s₁.heap.get? b=some o->H b=none->(hidT s₁.heap H).get? b=some o:=fun e n=>W9 e n
  have noA:∀ {b:Addr} {o:Obj} {es:Array DictEntry} {ep:Nat},s₁.heap.get? b=some o->o.data=.dict es ep->H b=none:=fun {b o es ep} e d=>by
   cases q:H b with
   | none=>rfl
   | some u=>
    have e':b=a:=hA b (by rw [q];simp)
    subst e'
    rw [ha] at e;cases e
    have d':Data.seq vs.toArray _=Data.dict es ep:=d
    cases d'
  have nsK:∀ {b:Addr} {m:Str->Option Value},s₁.heap.Ns b m->(hidT s₁.heap H).Ns b m:=fun {b m} ⟨o,es,ep,e,d,r⟩=>⟨o,es,ep,base_of e (noA e d),d,r⟩
  have hKb:K.In (hidT s₁.heap H):=fun b o e=>base_of (KX b o e) (by
   cases q:H b with
   | none=>rfl
   | some u=>
    have e':b=a:=hA b (by rw [q];simp)
    subst e'
    rw [hK (by rw [q];simp)] at e;cases e)
  have hM:Mod K mg (hidT s₁.heap H):=⟨hKb,nsK hns,⟨mb,nsK hb,hbb⟩,let ⟨mc,h1,h2⟩:=hlim;⟨mc,nsK h1,h2⟩⟩
  have e0:Env0 P w K mg (hidT s₁.heap H) callerA [] s₁ H:=⟨rfl,hM,fun b o e=>aa4 e,Nat.le_of_eq (Uq _ _),trivial,fun b hb=>absurd (show b∈([]:List Addr) from hb) (by simp),hok,.of_eq hg⟩
  refine codeAny_mono ((F _ hKb (nsK hns)).run callerA [] s₁ H ⟨[.ref a],[]⟩ [.ref a] [.ref a] _ _ hr e0 (hbind s₁ (.ref a)) (.cons rfl .nil) (hsp H hO hS)) fun r s' h=>?_
  cases r with
  | error e=>exact (hCX H e s' h).elim
  | ok fl=>
   cases fl with
   | next=>exact False.elim h
   | brk=>exact False.elim h
   | cont=>exact False.elim h
   | ret u=>
    obtain⟨v,H',os,bare,un,hok',r',q⟩:=h
    have q':v=.bl true:=q
    subst q'
    obtain rfl:u=Value.bool true:=r'
    refine⟨rfl,OldK.of_keep fun b o e=>?_,os,bare⟩
    cases q:H b with
    | none=>exact un.keep b o e q (by intro z;exact absurd (show b∈([]:List Addr) from z) (by simp)) (by simp)
    | some u=>
     rcases hO b with z|⟨ob,xs,z⟩
     ·rw [q] at z;cases z
     ·have z2:=un.frzs b ob _ z
      obtain⟨e1,_⟩:=hok b _ z
      obtain⟨e2,_⟩:=hok' b _ z2
      rw [e] at e1;cases e1
      exact e2
 cases hk:K.lookup a with
 | some o=>
  have e:=KX a o hk
  rw [ha] at e
  cases e
  refine core (fun _=>none) (fun _=>.inl rfl) (.inr ⟨_,vs.toArray,_,hk,rfl,rfl,rfl,by rw [List.size_toArray,lenV];exact hl,by simpa using rv⟩) (fun b u z=>by have z':(none:Option HO)=some u:=z;cases z') (fun b z=>absurd rfl z) fun z=>absurd rfl z
 | none=>
  refine core (fun b=>if b=a then some (.frz { cls:=.type "list", data:=.seq vs.toArray } (.lst (ns.map V.int))) else none) (fun b=>?_) (.inl (.inr ⟨{ cls:=.type "list", data:=.seq vs.toArray },if_pos rfl⟩)) (fun b u z=>?_) (fun b z=>?_) fun _=>hk
  ·by_cases hb:b=a
   ·exact .inr ⟨_,_,if_pos hb⟩
   ·exact .inl (if_neg hb)
  ·by_cases hb:b=a
   ·have z':=(if_pos hb).symm.trans z
    cases z'
    subst hb
    exact⟨ha,by rw [List.length_map];exact hl,vs,_,rv,ha⟩
   ·have z':=(if_neg hb).symm.trans z
    cases z'
  ·by_cases hb:b=a
   ·exact hb
   ·exact absurd (if_neg hb) z
theorem walk_of {l:PySem.W.OpenLaw} {n k:Nat} {q:Program} {loose:List Str} {XP:(Str->Option Value)->Heap->Prop} {YP:World->Heap->Prop} {d:DefRec} {K:Params->PySem.W.Frag} {CX:World->CXT} {sp:World->Sp} {x:Str}
  (hn:l.most=some n) (hn2:n<=sizeLine) (hdf:d.params.defaults=[]) (hr:Room k callerA)
  (hY:∀ (w:World) (h:Heap),YP w h->(K w.params).In h)
  (F:∀ (w:World) (mg:Str->Option Value) (fa:Addr) (h:Heap),(K w.params).In h->h.Ns mainGlobals mg->mg d.name=some (.ref fa) ->
   ∃ fd:FuncData,(∀ (s:Shared) (u:Value),BindsTo s fd ⟨[u],[]⟩ [(x,u)]) /\
    ∀ base:Heap,(K w.params).In base->base.Ns mainGlobals mg->FnOk l.prog w (K w.params) mg base (CX w) k fa fd [x] (sp w))
  (hsp:∀ (w:World) (H:Hp) (a:Addr) (ns:List Int),ns.length<=n->Only H->SqL (K w.params) H a (ns.map V.int)->sp w [.ref a] H (fun v _=>v=.bl true) fun _ _ _=>False)
  (hCX:∀ (w:World) (H:Hp) (s:Shared) (e:Value) (s':Shared),CX w [] H s (fun _ _ _=>False) e s'->False) :
  PySem.W.WalkO q loose XP YP l.row.toRowW d [] (fun f vs=>PySem.call f vs):=by
 refine Att.attach_call hn hdf fun w s₀ s₁ mg mb fa o pm cd doc a vs ns G Y ho hd hcd hmg hobj hints hlen hg=>?_
 have KX:=hY w _ Y
 obtain⟨fd,hb,hF⟩:=F w mg fa _ KX G.T.g hmg
 exact Xf KX G.T.g G.T.b G.T.builtins G.T.nolimit hg hobj hints (Nat.le_trans hlen hn2) hr hF hb (fun H hO hS=>hsp w H a ns hlen hO hS) fun H e s'=>hCX w H s₁ e s'
end L2
/- THE LAST THEOREM (shape;LID,My.* are yours):
   My.Adr: a structure of the addresses that your layer names (classes,functions);My.Txt K t: a structure (Prop) of the equations over K;
   My.txt_mk:{K} {implicit addresses ..} (e1:nsIn K mainGlobals "law" = some (some (.ref f))) (e2:K.lookup f=some ⟨oc,od,.func (fnOf "law" "law" params body scope dV kV doc pm an cdv ct),sl⟩) (e3:codeIn K cdv "law" = true) ..:∃ t,My.Txt K t
set_option maxRecDepth 100000 in
set_option maxHeartbeats 0 in
theorem PySem.Challenge.cw_LID_holds : PySem.Challenge.rw_LID.Holds := by
 w_on;o_law;k_head;(case hw=>w_witness2)
 k_fill
 refine L2.walk_of (l:=PySem.Challenge.rw_LID) (n:=63) (k:=40) (x := "script") (CX:=fun w=>..) (sp:=fun _=>My.sp_law) rfl (by decide) rfl ⟨rfl,by decide,by decide⟩ (fun w h Y=>PySem.W.kIn_of Y) ?F ?S ?C
 case F=>
  intro w mg fa h KX G hmg
  have T:∃ t,My.Txt (L2.KOf KX) t:=by
   dsimp only [L2.KOf]                          -- K must stand as «<heap const> w.params» for k_is
   refine' My.txt_mk ?e1 ?e2 ?e3 ..
   (case e1=>PySem.W.k_is)                    -- in the order: a name->its address->its object->its parts
   (case e2=>PySem.W.k_is)
   ..
  obtain⟨t,T⟩:=T
  have e0:=hmg.symm.trans (PySem.W.mg_of KX G T.law)
  cases e0                                       -- fa is the law's own address
  exact⟨_,fun s u=>.of_eq rfl,fun base kb nb=>My.law_fn T kb nb⟩     -- if «.of_eq rfl» comes too early: refine' ⟨_,?b,fun base kb nb=>My.law_fn T kb nb⟩;exact fun s u=>.of_eq rfl
 case S=>exact fun w H a ns hl hO hS=>..
 case C=>exact ..
(the tactic k_is has no namespace: write k_is) -/
namespace L2
open PySem PySem.Spec PyProof.Rows
def Dg (s:Stmt) (j:Nat):Stmt:=match s with
 | .ClassDef _ _ _ body _ _ _ _ _ _ _=>body.getD j (.Pass ⟨0,0,0,0⟩)
 | _=>.Pass ⟨0,0,0,0⟩
def Bo (s:Stmt):Arguments:=match s with
 | .FunctionDef _ a _ _ _ _ _ _ _ _=>a
 | _=>{ posonlyargs:=[],args:=[],vararg:=none,kwonlyargs:=[],kw_defaults:=[],kwarg:=none,defaults:=[] }
def Ah (s:Stmt):List Stmt:=match s with
 | .FunctionDef _ _ b _ _ _ _ _ _ _=>b
 | _=>[]
def Ac (s:Stmt):Scope:=match s with
 | .FunctionDef _ _ _ _ _ _ sc _ _ _=>sc
 | _=>{ kind:=.function,names:=[],isGenerator:=false,isCoroutine:=false }
abbrev CX0:CXT:=fun _ _ _ _ _ _=>False
structure Fun (K:PySem.W.Frag) (x qual:Str) (st:Stmt) (f:Addr) (fd:FuncData):Prop where
 ex:∃ (oc:Value) (od:Option Addr) (kV doc pm:Value) (an:Option Addr) (cdv ct:Value) (osl:Array (Option Value)),
  fd=PySem.W.fnOf x qual (Bo st) (Ah st) (Ac st) .none kV doc pm an cdv ct/\K.lookup f=some ⟨oc,od,.func fd,osl⟩/\PySem.W.codeIn K cdv qual=true
 kp:PySem.W.keepIn K (.ref f)=true
section
variable {P:Program} {w:World} {K:PySem.W.Frag} {mg:Str->Option Value} {base:Heap}
theorem Fun.binds {x qual:Str} {st:Stmt} {f:Addr} {fd:FuncData} {ps:List Str} (F:Fun K x qual st f fd)
  (h:∀ (kV doc pm:Value) (an:Option Addr) (cdv ct:Value) (us:List Value),us.length=ps.length->bindArgs (PySem.W.fnOf x qual (Bo st) (Ah st) (Ac st) .none kV doc pm an cdv ct) ⟨us,[]⟩=pure (ps.zip us)):Binds K fd ps []:=by
 obtain⟨oc,od,kV,doc,pm,an,cdv,ct,osl,rfl,lk,hcd⟩:=F.ex
 exact .all (h kV doc pm an cdv ct)
theorem Qj {x qual:Str} {st:Stmt} {f:Addr} {oc:Value} {od an:Option Addr} {osl:Array (Option Value)} {kV doc pm cdv ct:Value} (l:K.lookup f=some ⟨oc,od,.func (PySem.W.fnOf x qual (Bo st) (Ah st) (Ac st) .none kV doc pm an cdv ct),osl⟩)
  (c:PySem.W.codeIn K cdv qual=true) (k:PySem.W.keepIn K (.ref f)=true):Fun K x qual st f (PySem.W.fnOf x qual (Bo st) (Ah st) (Ac st) .none kV doc pm an cdv ct):=⟨⟨oc,od,kV,doc,pm,an,cdv,ct,osl,rfl,l,c⟩,k⟩
end
section
variable {X:Cx}
end
theorem iteF {A B:Prop} (h:B):if false=true then A else B:=by
 rw [if_neg Bool.false_ne_true]
 exact h
theorem iteT {A B:Prop} (h:A):if true=true then A else B:=by
 rw [if_pos rfl]
 exact h
theorem ite2 {c A B:Prop} [Decidable c] (h1:c->A) (h2:¬ c->B):if c then A else B:=by
 by_cases h:c
 ·rw [if_pos h]
  exact h1 h
 ·rw [if_neg h]
  exact h2 h
def Same (H H':Hp):Prop:=∀ b o,H b=some o->H' b=some o
theorem Same.refl (H:Hp):Same H H:=fun _ _ h=>h
theorem Same.trans {H H1 H2:Hp} (a:Same H H1) (b:Same H1 H2):Same H H2:=fun c o h=>b c o (a c o h)
theorem Same.free {H H':Hp} (e:Same H H') {l:Addr} (h:H' l=Option.none):H l=Option.none:=by
 cases q:H l with
 | none=>rfl
 | some o=>
  rw [e l o q] at h
  cases h
def Cx.comp (X:Cx) (N':List Str) (scope:Scope) (cl:List (Str×Addr)) (fp:List Addr) (C:Addr) (s:Shared) (H:Hp) (xe:Value->Shared->Prop):Cx:=
 {prog:=X.prog,w:=X.w,K:=X.K,mg:=X.mg,base:=X.base,A:=X.A,N:=N',s₀:=s,H₀:=H,env:=compEnvC scope cl C X.env,outer:=X.stack,stack:=X.stack,
  ex:=fp,fn:=fun x=>(cl.lookup x).isNone,calm:=X.calm,pn:=[],xe:=xe }
def capt (srcs:List (Option Nat)) (σ:St):St:=srcs.map fun o=>o.bind fun j=>(σ[j]?).join
structure Io (X:Cx) (N':List Str) (srcs:List (Option Nat)) (scope:Scope) (cl:List (Str×Addr)):Prop where
 clos:closureFor scope X.env=pure cl
 nocell:∀ y∈scope.names,y.2≠.cell
 kind:scope.kind=.function
 names:∀ y∈scope.names,y.2=.local->scope.names.lookup y.1=some .local
 sub:∀ x c,cl.lookup x=some c->X.env.cells.lookup x=some c
 has:∀ x,((relabel scope X.env).names.lookup x=some .cell\/(relabel scope X.env).names.lookup x=some .free) -> ∃ c,cl.lookup x=some c
 len:srcs.length=N'.length
 src:∀ (k j:Nat) (x:Str),N'[k]? = some x->srcs[k]? = some (some j)->X.N[j]? = some x/\(X.env.scope.names.lookup x=some .cell\/X.env.scope.names.lookup x=some .free) /\
  ((relabel scope X.env).names.lookup x=some .cell\/(relabel scope X.env).names.lookup x=some .free)
def PIfs (X:Cx) (ifs:List Expr) (t:TT):Prop:=
 ∀ (pins:List (Addr×Obj)) (s:Shared) (σ:St) (H:Hp) (Q:Bool->Hp->Prop),Inv X pins σ H s->t σ H Q ->
  wpAny (model X.prog X.w) X.A (forIn ifs true fun c r=>if r=true then do let ok <- isTrue c X.env (eval c X.env);pure (ForInStep.yield ok) else pure (ForInStep.yield r)) (TP X pins σ Q) X.xe s
def tYes:TT:=fun _ H Q=>Q true H
theorem Xx {X:Cx}:PIfs X [] tYes:=fun _ _ _ H _ I h=>wpAny_tests_nil ⟨H,I,h⟩
theorem Xy {X:Cx} {c:Expr} {t:TT} (h:PT X c t):PIfs X [c] t:=fun pins s σ H Q I q=>wpAny_tests_one (h pins s σ H Q I q)
def Zd (srcs:List (Option Nat)) (wi:TI) (g:TG) (tc:TT) (te:TE):TE:=fun σ H Q=>wi σ H fun J H1=>∀ D,H1 D=none ->
 ∃ W:Nat->Nat->St->Hp->Prop,(∃ m,W 0 m (capt srcs σ) (upd H1 D (.lst []))) /\ ∀ i m σ' H',W i m σ' H' ->
  (J.stop i H'/\Q (.ref D) H')\/(J.go i H' /\ ∃ N:St->Hp->Prop,(∀ σ2 H2,N σ2 H2 -> ∃ m',m'<m/\W (i+1) m' σ2 H2) /\ ∀ x H2,J.yld i H' x H2->g x σ' H2 fun σ3 H3=>tc σ3 H3 fun b H4=>if b=true then
    te σ3 H4 fun v H5=>∃ ys,H5 D=some (.lst ys)/\ys.length<sizeLine/\N σ3 (upd H5 D (.lst (ys++[v])))
   else N σ3 H4)
section
variable {g:TG} {tc:TT} {te:TE} {D:Addr} {R:Hp->Prop} {σ:St} {H:Hp}
end
section
variable {prog:Program} {w:World} {A:Around} {E:Value->Shared->Prop} {R:Result->Shared->Prop} {s:Shared}
theorem Mp {elt target iter:Expr} {ifs:List Expr} {scope:Scope} {pos:Pos} {it acc:Value} {env:Env} (I:Nat->Shared->Prop)
  (turn:∀ n s,I n s->wpAny (model prog w) A (pyNext it) (fun r s₁=>match r with
   | none=>R (.ok .next) s₁
   | some v=>wpAny (model prog w) A (letOwnedTupleGo target it v) (fun _ s₀=>wpAny (model prog w) A (assign target env v) (fun _ s₂=>
     wpAny (model prog w) A (forIn ifs true fun c r=>if r=true then do let ok <- isTrue c env (eval c env);pure (ForInStep.yield ok) else pure (ForInStep.yield r)) (fun ok s₃=>
      if ok=true then wpAny (model prog w) A (eval elt env) (fun x s₄=>
       wpAny (model prog w) A (call (.builtin "list.append") [acc,x]) (fun _ s₅=>∃ m,m<n/\I m s₅) (notedBy (model prog w) A env fun e s'=>R (.error e) s') s₄) (notedBy (model prog w) A env fun e s'=>R (.error e) s') s₃
      else ∃ m,m<n/\I m s₃) (notedBy (model prog w) A env fun e s'=>R (.error e) s') s₂) (notedBy (model prog w) A env fun e s'=>R (.error e) s') s₀) (notedBy (model prog w) A env fun e s'=>R (.error e) s') s₁) (notedBy (model prog w) A env fun e s'=>R (.error e) s') s)
  (n:Nat) (h:I n s) :
  codeAny (model prog w) A (.compLoop (.ListComp elt [⟨target,iter,ifs,0⟩] scope pos) 0 it acc env) R s:=by
 refine codeAny_loop rfl I (fun n s hI=>?_) n h
 show wpAny _ A ((compTurn (.ListComp elt [⟨target,iter,ifs,0⟩] scope pos) 0 it acc env).onRaise (fun x=>do noteFrame x env;theTreesLotGoes x)) _ _ s
 refine wpAny_noted ?_
 rw [compTurn_list]
 refine wpAny_bind (wpAny_standAt (wpAny_bind (wpAny_mono (turn n s hI) (fun r s₁ h₁=>?_) fun _ _ h'=>h')))
 cases r with
 | none=>exact wpAny_pure h₁
 | some v=>
  refine wpAny_bind (wpAny_mono h₁ (fun _ s₀ h₀=>?_) fun _ _ h'=>h')
  refine wpAny_bind (wpAny_mono h₀ (fun _ s₂ h₂=>wpAny_bind (wpAny_mono h₂ (fun ok s₃ h₃=>?_) fun _ _ h'=>h')) fun _ _ h'=>h')
  cases ok with
  | false=>exact wpAny_pure ⟨rfl,h₃⟩
  | true=>
   exact wpAny_bind (wpAny_bind (wpAny_mono h₃ (fun x s₄ h₄=>wpAny_bind (wpAny_mono h₄ (fun _ s₅ h₅=>wpAny_pure (wpAny_pure ⟨rfl,h₅⟩)) fun _ _ h'=>h')) fun _ _ h'=>h'))
end
section
variable {X:Cx} {elt tg iter:Expr} {ifs:List Expr} {scope:Scope} {pos:Pos} {N':List Str} {srcs:List (Option Nat)} {cl:List (Str×Addr)} {wi:TI} {g:TG} {tc:TT} {te:TE}
theorem Qa {xe:Value->Shared->Prop} {pins:List (Addr×Obj)} {σ:St} {H:Hp} {s:Shared} {fp:List Addr} {C D:Addr} {h₁:Heap} {tk:Nat} (S:Io X N' srcs scope cl) (I:Inv X pins σ H s) (f:∀ b∈fp,FpOk X pins H b) (fo:∀ b∈fp,b<s.heap.objs.size)
  (hD:s.heap.objs.size<=D) (hC:s.heap.objs.size<=C) (hDC:C≠D) (hns:∃ m,h₁.Ns C m) (old:∀ b o,s.heap.get? b=some o->h₁.get? b=some o) (hacc:∃ n,h₁.get? D=some { cls:=.type "list", data:=.seq ([]:List Value).toArray n }) :
  Inv (X.comp N' scope cl fp C s H xe) [] (capt srcs σ) (upd H D (.lst [])) { s with heap:=h₁,toks:=tk }:=by
 have hfD:=I.hok.fresh hD
 have ok:(X.comp N' scope cl fp C s H xe).Ok:=by
  refine⟨I.ok.mod,S.kind,I.ok.glob,I.ok.blt,hC,fun x y c a b=>I.ok.inj x y c (S.sub x c a) (S.sub y c b),S.has,fun x c hf hl=>?_,I.ok.hd,I.ok.frames,.inl rfl,fun b hb=>⟨?_,fun x c hl=>?_⟩,I.bs,Nat.le_trans I.ok.bsz I.sz,fun b o e hb=>?_,fun b hb hfs=>?_,I.stack,I.stkFree⟩
  ·have hl':cl.lookup x=some c:=hl
   have hf':(cl.lookup x).isNone=true:=hf
   rw [hl'] at hf'
   cases hf'
  ·exact Nat.ne_of_lt (Nat.lt_of_lt_of_le (fo b hb) hC)
  ·exact (f b hb).2.2.2.2.1 x c (S.sub x c hl)
  ·rcases (f b hb).2.2.2.1 with z|z
   ·exact I.ok.noex b o e z
   ·exact absurd (Nat.lt_of_lt_of_le (Heap.lt_size e) (Nat.le_trans I.ok.bsz z)) (Nat.lt_irrefl _)
  ·rcases List.mem_cons.mp (I.stkSub b hfs) with z|z
   ·exact (f b hb).2.1 z
   ·exact (f b hb).2.2.1 z
 obtain⟨m0,hns⟩:=hns
 obtain⟨nn,hacc⟩:=hacc
 refine⟨ok,rfl,I.bare,Un.laid old hD hfD,⟨m0,hns,fun k x v e1 e2 e3=>?_⟩,fun x c hl=>?_,?_,fun x c hl=>?_,fun p hp=>absurd (show p∈([]:List (Addr×Obj)) from hp) (by simp),I.hok.laid old hD ⟨Nat.zero_le _,[],nn,.nil,hacc⟩,?_⟩
 ·-- the captured names
  have e1:N'[k]? = some x:=e1
  have e2:(srcs.map fun o=>o.bind fun j=>(σ[j]?).join)[k]? = some (some v):=e2
  rw [List.getElem?_map] at e2
  cases hk:srcs[k]? with
  | none=>rw [hk] at e2;cases e2
  | some o=>
   rw [hk] at e2
   cases o with
   | none=>cases e2
   | some j=>
    have e2':(σ[j]?).join=some v:=Option.some.inj e2
    have e3':σ[j]? = some (some v):=by
     cases hj:σ[j]? with
     | none=>rw [hj] at e2';cases e2'
     | some y=>rw [hj] at e2';exact congrArg some e2'
    obtain⟨a1,a2,a3⟩:=S.src k j x e1 hk
    obtain⟨m,hn,hl⟩:=I.loc
    obtain⟨u,r,l⟩:=hl j x v a1 e3' (a2.elim (fun z=>.inr (.inl z)) fun z=>.inr (.inr z))
    refine⟨u,r,.inr ⟨a3,?_⟩⟩
    obtain⟨c,hc⟩:=S.has x a3
    refine⟨c,hc,?_⟩
    rcases l with ⟨z,_⟩|⟨_,c',hc',o,ho,hd⟩
    ·have z':X.env.scope.names.lookup x=some .local:=z
     rcases a2 with q|q <;> rw [q] at z' <;> cases z'
    ·have e:=S.sub x c hc
     rw [hc'] at e
     cases e
     exact⟨o,old _ o ho,hd⟩
 ·obtain⟨v,o,ho,hd⟩:=I.cell x c (S.sub x c hl)
  exact⟨v,o,old _ o ho,hd⟩
 ·show upd H D (.lst []) C=none
  rw [Af hDC]
  exact I.hok.fresh hC
 ·have hx:=S.sub x c hl
  obtain⟨v,o,ho,hd⟩:=I.cell x c hx
  rw [Af (Nat.ne_of_lt (Nat.lt_of_lt_of_le (Heap.lt_size ho) hD))]
  exact I.freeC x c hx
 ·show (capt srcs σ).length=N'.length
  unfold capt
  rw [List.length_map,S.len]
def Bg (X:Cx) (scope:Scope) (cl:List (Str×Addr)) (use:Option (Value->Sem Unit)) (Q2:Value->Shared->Prop) (D C:Addr):Value->Shared->Prop:=
 notedBy (model X.prog X.w) X.A (compEnvC scope cl C X.env) fun e s'=>compPost (model X.prog X.w) X.A X.xe use Q2 (.ref D) C (.error e) s'
theorem K6 {pins:List (Addr×Obj)} {s:Shared} {σ:St} {H:Hp} {Q:VK} {use:Option (Value->Sem Unit)} {Q2:Value->Shared->Prop} (hc:X.calm=true) (S:Io X N' srcs scope cl) (hi:PI X tg iter wi)
  (hb:∀ fp C D s2 H2,Inv X pins σ H2 s2->(∀ b∈fp,FpOk X pins H2 b)->s2.heap.objs.size<=C->PG (X.comp N' scope cl fp C s2 H2 (Bg X scope cl use Q2 D C)) tg g/\PIfs (X.comp N' scope cl fp C s2 H2 (Bg X scope cl use Q2 D C)) ifs tc/\PE (X.comp N' scope cl fp C s2 H2 (Bg X scope cl use Q2 D C)) elt te)
  (I:Inv X pins σ H s) (h:Zd srcs wi g tc te σ H Q)
  (fin:∀ (D C:Addr) (H':Hp) (s':Shared),Inv X pins σ H' s'->(∃ m,s'.heap.Ns C m)->FpOk X pins H' C->Q (.ref D) H'->compPost (model X.prog X.w) X.A X.xe use Q2 (.ref D) C (.ok .next) s')
  (hs:∀ x,foldedSetIterable iter X.env x=pure x) :
  wpAny (model X.prog X.w) X.A (comprehension (.ListComp elt [⟨tg,iter,ifs,0⟩] scope pos) scope X.env (firstIterPos [⟨tg,iter,ifs,0⟩] pos) (newList []) false (eval iter X.env) use) Q2 X.xe s:=by
 refine wpAny_comprehension_free rfl hs S.clos S.kind S.names (thn (hi pins s σ H _ I h) fun v s1 h1=>thn h1 fun itv s2 h2=>?_)
 obtain⟨it,fp,tn,J,H2,e,I2,T,st2,f2,q2⟩:=h2
 subst e
 refine wpAny_newObj_type (wpAny_newFunctionEnv S.nocell (by intro y hy;simp at hy) (fun h₁ hns₁ hsb₁=>?_) S.kind)
 dsimp only at hns₁ hsb₁ ⊢
 generalize hH2:s2.heap.push { cls:=.type "list", dict:=none,data:=.seq ([]:List Value).toArray }=G2 at hns₁ hsb₁ ⊢
 have hCe:G2.objs.size=s2.heap.objs.size+1:=by rw [<- hH2,Heap.size_push]
 have hDC:G2.objs.size≠s2.heap.objs.size:=by rw [hCe];exact Nat.ne_of_gt (Nat.lt_succ_self _)
 have hCle:s2.heap.objs.size<=G2.objs.size:=by rw [hCe];exact Nat.le_succ _
 have old:∀ b o,s2.heap.get? b=some o->h₁.get? b=some o:=fun b o e=>
  hsb₁.extBut b o (Nat.ne_of_lt (Nat.lt_of_lt_of_le (Heap.lt_size e) hCle)) (Heap.get?_push_of_some _ (hH2▸Heap.get?_push_of_some _ e))
 have hacc:∃ n,h₁.get? s2.heap.objs.size=some { cls:=.type "list", data:=.seq ([]:List Value).toArray n }:=⟨_,hsb₁.extBut _ _ (Ne.symm hDC) (Heap.get?_push_of_some _ (hH2▸Heap.get?_push_size _ rfl))⟩
 have fo:∀ b∈fp,b<s2.heap.objs.size:=fun b hb=>by
  obtain⟨o,ho,_⟩:=T.obj _ _ st2 b hb
  exact Heap.lt_size ho
 have st3:tn 0 h₁:=T.keep _ _ _ st2 fun b _ o e=>old b o e
 obtain⟨hg,ht,he⟩:=hb fp G2.objs.size s2.heap.objs.size s2 H2 I2 f2 hCle
 obtain⟨W,⟨m0,w0⟩,turn⟩:=q2 s2.heap.objs.size (I2.hok.fresh (Nat.le_refl _))
 have loop:∀ s3:Shared,s3={ s2 with heap:=h₁,toks:=s2.toks+([]:List (Str×Value)).length } ->
   codeAny (model X.prog X.w) X.A (.compLoop (.ListComp elt [⟨tg,iter,ifs,0⟩] scope pos) 0 (.ref it) (.ref s2.heap.objs.size) (compEnvC scope cl G2.objs.size X.env))
    (compPost (model X.prog X.w) X.A X.xe use Q2 (.ref s2.heap.objs.size) G2.objs.size) s3:=by
  rintro s3 rfl
  have I3:Inv (X.comp N' scope cl fp G2.objs.size s2 H2 (Bg X scope cl use Q2 s2.heap.objs.size G2.objs.size)) [] (capt srcs σ) (upd H2 s2.heap.objs.size (.lst [])) { s2 with heap:=h₁,toks:=s2.toks+([]:List (Str×Value)).length }:=
   Qa S I2 f2 fo (Nat.le_refl _) hCle hDC ⟨_,hns₁⟩ old hacc
  have stat:∀ {H':Hp},(∀ b∈fp,H' b=none) -> ∀ b∈fp,FpOk (X.comp N' scope cl fp G2.objs.size s2 H2 (Bg X scope cl use Q2 s2.heap.objs.size G2.objs.size)) [] H' b:=fun hn b hb=>
   ⟨hn b hb,Nat.ne_of_lt (Nat.lt_of_lt_of_le (fo b hb) hCle),(fun z=>(List.mem_cons.mp (I2.stkSub b z)).elim (f2 b hb).2.1 (f2 b hb).2.2.1),.inl hb,fun x c hl=>(f2 b hb).2.2.2.2.1 x c (S.sub x c hl),fun p hp=>absurd (show p∈([]:List (Addr×Obj)) from hp) (by simp)⟩
  refine Mp (fun n s'=>∃ i σ' H',Inv (X.comp N' scope cl fp G2.objs.size s2 H2 (Bg X scope cl use Q2 s2.heap.objs.size G2.objs.size)) [] σ' H' s'/\tn i s'.heap/\(∀ b∈fp,H' b=none)/\W i n σ' H') ?_ m0
   ⟨0,_,_,I3,st3,fun b hb=>by rw [Af (Nat.ne_of_lt (fo b hb))];exact (f2 b hb).1,w0⟩
  rintro n s4 ⟨i,σ4,H4,I4,st4,fr4,w4⟩
  rcases turn i n σ4 H4 w4 with ⟨stop,qn⟩|⟨go,NN,hNN,step⟩
  ·refine thn (T.done (X.comp N' scope cl fp G2.objs.size s2 H2 (Bg X scope cl use Q2 s2.heap.objs.size G2.objs.size)) rfl rfl rfl hc i [] s4 σ4 H4 _ I4 (stat fr4) st4 stop) fun r s5 ⟨hr,I5⟩=>?_
   subst hr
   obtain⟨m5,hn5,_⟩:=id I5.loc
   have I6:Inv X pins σ H4 s5:=I2.call' (ch:=fp) I5.os I5.base I5.hok I5.bare fun b hb=>⟨(f2 b hb).2.2.2.1,(f2 b hb).2.1,(f2 b hb).2.2.2.2.1,(f2 b hb).2.2.2.2.2⟩
   exact fin _ _ H4 s5 I6 ⟨m5,hn5⟩ (I2.fpOk hCle I5.free) qn
  ·refine thn (T.item (X.comp N' scope cl fp G2.objs.size s2 H2 (Bg X scope cl use Q2 s2.heap.objs.size G2.objs.size)) rfl rfl rfl hc i [] s4 σ4 H4 _ I4 (stat fr4) st4 go) fun r s5 ⟨u,hr,h5⟩=>?_
   subst hr
   refine thn h5 fun _ s6 ⟨x,H6,I6,r6,y6,st6,fr6⟩=>?_
   have I6':=I6.pinned (stat fr6) (T.obj _ _ st6)
   refine thn (hg _ s6 σ4 H6 x u _ I6' r6 (step x H6 y6)) fun _ s7 ⟨σ7,H7,I7,q7⟩=>?_
   have again:∀ {s9:Shared} {H9:Hp},Inv (X.comp N' scope cl fp G2.objs.size s2 H2 (Bg X scope cl use Q2 s2.heap.objs.size G2.objs.size)) ([]++Ha fp s6.heap) σ7 H9 s9->NN σ7 H9 ->
     ∃ m,m<n /\ ∃ i σ' H',Inv (X.comp N' scope cl fp G2.objs.size s2 H2 (Bg X scope cl use Q2 s2.heap.objs.size G2.objs.size)) [] σ' H' s9/\tn i s9.heap/\(∀ b∈fp,H' b=none)/\W i m σ' H':=fun {s9 H9} I9 n9=>by
    obtain⟨m',hm,w9⟩:=hNN σ7 H9 n9
    refine⟨m',hm,i+1,σ7,H9,I9.unpinned,T.keep _ _ _ st6 fun b hb o e=>(I9.pin (b,o) (List.mem_append_right _ (List.mem_append_right _ (Eg hb e)))).1,fun b hb=>?_,w9⟩
    obtain⟨o,e,d⟩:=T.obj _ _ st6 b hb
    exact (I9.pin (b,o) (List.mem_append_right _ (List.mem_append_right _ (Eg hb e)))).2.1
   refine thn (ht _ s7 σ7 H7 _ I7 q7) fun b s8 ⟨H8,I8,q8⟩=>?_
   cases b with
   | false=>
    rw [if_neg Bool.false_ne_true] at q8
    exact again I8 q8
   | true=>
    rw [if_pos rfl] at q8
    refine thn (he _ s8 σ7 H8 _ I8 q8) fun y s9 ⟨v9,H9,I9,r9,ys,hD,hlen,w9⟩=>?_
    refine thn (Lv (X:=X.comp N' scope cl fp G2.objs.size s2 H2 (Bg X scope cl use Q2 s2.heap.objs.size G2.objs.size)) ([]++Ha fp s6.heap) s9 σ7 H9 (.ref s2.heap.objs.size) [v9] (.ref s2.heap.objs.size) [y] (fun _ H'=>H'=upd H9 s2.heap.objs.size (.lst (ys++[v9]))) I9 rfl (.cons r9 .nil)
     ⟨_,ys,v9,rfl,rfl,hD,hlen,rfl⟩) fun _ s10 ⟨_,H10,I10,_,e10⟩=>?_
    subst e10
    exact again I10 w9
 exact codeAny_compStart_list (loop _ rfl) (T.self X.A 0 _ _ _ st3 (loop _ rfl))
theorem Wk {pins:List (Addr×Obj)} {s:Shared} {σ:St} {H:Hp} {Q:VK} (hc:X.calm=true) (S:Io X N' srcs scope cl) (hi:PI X tg iter wi)
  (hb:∀ Q2 fp C D s2 H2,Inv X pins σ H2 s2->(∀ b∈fp,FpOk X pins H2 b)->s2.heap.objs.size<=C->PG (X.comp N' scope cl fp C s2 H2 (Bg X scope cl none Q2 D C)) tg g/\PIfs (X.comp N' scope cl fp C s2 H2 (Bg X scope cl none Q2 D C)) ifs tc/\PE (X.comp N' scope cl fp C s2 H2 (Bg X scope cl none Q2 D C)) elt te)
  (I:Inv X pins σ H s) (h:Zd srcs wi g tc te σ H Q) (hs:∀ x,foldedSetIterable iter X.env x=pure x) :
  wpAny (model X.prog X.w) X.A (eval (.ListComp elt [⟨tg,iter,ifs,0⟩] scope pos) X.env) (EP X pins σ Q) X.xe s:=by
 rw [eval_ListComp]
 refine K6 (use:=none) hc S hi (fun fp C D s2 H2=>hb _ fp C D s2 H2) I h (fun D C H' s' I' ns fo q=>?_) hs
 obtain⟨m,hn⟩:=ns
 obtain⟨f0,f1,f2,f3,f4,f5⟩:=fo
 exact⟨m,hn,fun h' sb=>⟨.ref D,H',I'.turned (t':=s'.toks) (fun b o hb e=>(sb.2 b hb).trans e) f0 f1 f3 f4 f5,rfl,q⟩⟩
theorem Wj {i:Nat} {x:Str} {pos' spos:Pos} {pins:List (Addr×Obj)} {s:Shared} {σ:St} {H:Hp} {D:Ends} (hc:X.calm=true) (hN:X.N.Nodup) (hx:X.N[i]? = some x) (hl:X.env.scope.names.lookup x=some .local) (S:Io X N' srcs scope cl) (hi:PI X tg iter wi)
  (hb:∀ us Q2 fp C D s2 H2,Inv X pins σ H2 s2->(∀ b∈fp,FpOk X pins H2 b)->s2.heap.objs.size<=C->PG (X.comp N' scope cl fp C s2 H2 (Bg X scope cl us Q2 D C)) tg g/\PIfs (X.comp N' scope cl fp C s2 H2 (Bg X scope cl us Q2 D C)) ifs tc/\PE (X.comp N' scope cl fp C s2 H2 (Bg X scope cl us Q2 D C)) elt te)
  (I:Inv X pins σ H s) (h:tAsg (Zd srcs wi g tc te) (W3 i) D σ H)
  (hsw:swapsWith (.ListComp elt [⟨tg,iter,ifs,0⟩] scope pos) (some (.Name x pos')) spos.line X.env=pure true) (hs:∀ x,foldedSetIterable iter X.env x=pure x) :
  wpAny (model X.prog X.w) X.A (exec (.Assign [.Name x pos'] (.ListComp elt [⟨tg,iter,ifs,0⟩] scope pos) spos) X.env) (SP X pins D) X.xe s:=by
 rw [exec_Assign_Name_used _ _ _ _ hsw]
 refine wpAny_bind (wpAny_standAt (wpAny_bind ?_))
 show wpAny _ X.A (do let _ <- comprehension (.ListComp elt [⟨tg,iter,ifs,0⟩] scope pos) scope X.env _ (newList []) false (eval iter X.env) (some (assign (.Name x pos') X.env))) _ _ s
 refine wpAny_bind (thn (K6 (use:=some (assign (.Name x pos') X.env)) (Q:=fun v H'=>D.nx (σ.set i (some v)) H') (Q2:=fun _ s'=>SP X pins D .next s') hc S hi (fun fp C D s2 H2=>hb _ _ fp C D s2 H2) I h (fun L C H' s' I' ns fo q=>?_) hs) fun _ s' hq=>wpAny_pure (wpAny_pure hq))
 obtain⟨m,hn⟩:=ns
 obtain⟨f0,f1,f2,f3,f4,f5⟩:=fo
 obtain⟨oC,es,ep,hoC,hd,hr⟩:=id hn
 have I2:Inv X (pins++[(C,oC)]) σ H' s':=I'.pins_of fun p hp=>(List.mem_append.mp hp).elim (fun z=>I'.pin p (List.mem_append_right _ z)) fun z=>by
  have z':p=(C,oC):=by simpa using z
  subst z'
  exact⟨hoC,f0,f1,f2,fun v e=>by rw [hd] at e;cases e⟩
 refine wpAny_assign_Name (Gk (i:=i) (v:=.ref L) I2 hN hx (.inl hl) rfl (fun s2 I3=>?_) (.inr hl))
 have hoC':=(I3.pin (C,oC) (List.mem_append_right _ (List.mem_append_right _ (by simp)))).1
 refine⟨m,⟨oC,es,ep,hoC',hd,hr⟩,fun h' sb=>?_⟩
 exact⟨_,H',(I3.unpinned).turned (t':=s2.toks) (fun b o hb e=>(sb.2 b hb).trans e) f0 f1 f3 f4 f5,q⟩
end
def Its (x:Str):It:=⟨fun i _=>i<x.cps.size,fun i H v H'=>H'=H /\ ∃ c,x.cps[i]? = some c/\v=.str ⟨#[c]⟩,fun i _=>i=x.cps.size⟩
theorem Zg {P:Program} {w:World} {K:PySem.W.Frag} {tg:Expr} (it:Addr) (x:Str) (t:Tok) (ty:String) (hty:ty = "str_ascii_iterator" \/ ty = "str_iterator") :
  Turn P w K tg (Its x) [it] it (fun i h=>h.IsStrIter it ty x t i) where
 mem:=by simp
 obj:=fun i h st b hb=>by
  have e:b=it:=by simpa using hb
  subst e
  obtain⟨o,e,c,d⟩:=st
  exact⟨o,e,fun v z=>by rw [d] at z;cases z⟩
 keep:=fun i h h' st k=>by
  obtain⟨o,e,r⟩:=st
  exact⟨o,k it (by simp) o e,r⟩
 item:=by
  intro X hP hw hK hc i pins s σ H E I hf st hg
  subst hP hw hK
  obtain⟨f0,f1,f2,f3,f4,f5⟩:=hf it (by simp)
  have W:Walks X.prog X.w X.A it [it] [it] x.cps.size (SignAt x) (fun i h=>h.IsStrIter it ty x t i):=by
   rcases hty with rfl|rfl
   ·exact Walks.strAscii (I.ok.hd hc) it x t
   ·exact Walks.strWide (I.ok.hd hc) it x t
  refine W.item i s _ _ hg st fun v h' tk hv st' kk=>?_
  obtain⟨c,u,hcp,rfl⟩:=hv
  have I1:Inv X pins σ H { s with heap:=h',toks:=tk }:=I.turned (fun b o hb e=>kk b o (by simpa using hb) e) f0 f1 f3 f4 f5
  obtain⟨o,e,cc,d⟩:=id st'
  exact⟨_,rfl,Lc (s:={ s with heap:=h',toks:=tk }) e cc d (by rcases hty with rfl|rfl <;> decide) ⟨.str ⟨#[c]⟩,H,I1,⟨_,rfl⟩,⟨rfl,c,hcp,rfl⟩,st',fun b hb=>(hf b hb).1⟩⟩
 done:=by
  intro X hP hw hK hc i pins s σ H E I hf st hg
  subst hP hw hK
  obtain⟨f0,f1,f2,f3,f4,f5⟩:=hf it (by simp)
  have hg:i=x.cps.size:=hg
  subst hg
  have W:Walks X.prog X.w X.A it [it] [it] x.cps.size (SignAt x) (fun i h=>h.IsStrIter it ty x t i):=by
   rcases hty with rfl|rfl
   ·exact Walks.strAscii (I.ok.hd hc) it x t
   ·exact Walks.strWide (I.ok.hd hc) it x t
  exact W.done s _ _ st fun h' tk kk=>⟨rfl,I.turned (fun b o hb e=>kk b o (by simpa using hb) e) f0 f1 f3 f4 f5⟩
 self:=by
  intro A i s Q E st h
  rcases hty with rfl|rfl
  ·exact wpAny_pyIter_striter_ascii st h
  ·exact wpAny_pyIter_striter_wide st h
section
variable {X:Cx} {tg:Expr}
end
section
variable {X:Cx} {pins:List (Addr×Obj)} {σ:St} {H:Hp} {s:Shared} {h':Heap} {ch:List Addr} {t':Nat}
theorem Inv.turnedL (I:Inv X pins σ H s) (hf:∀ b∈ch,FpOk X pins H b) (k:∀ b o,b∉ch->s.heap.get? b=some o->h'.get? b=some o):Inv X pins σ H { s with heap:=h',toks:=t' }:=by
 have tr:∀ b ob,H b=some ob->b∉ch:=fun b ob e hb=>by rw [(hf b hb).1] at e;cases e
 refine I.step (g':=s.gens) (d':=s.drawn) (ch:=ch) (fun b hb=>⟨(hf b hb).2.2.2.1,(hf b hb).2.1,(hf b hb).2.2.2.2.1,(hf b hb).2.2.2.2.2⟩) (fun b o _ _ hb e _=>k b o hb e) (fun b o _ _ hb e _=>⟨o.slots,k b o hb e⟩) (fun _ _ _ _ n=>n) (fun b o hb e=>⟨o,k b o hb e⟩)
  (fun _ _ e=>e) (fun _ _ _ e=>e) (fun b ps e=>⟨#[],by rw [e];simp⟩) (fun m hm=>?_) (fun b ob e=>?_) I.bare
 ·obtain⟨o,es,ep,ho,r⟩:=hm
  exact⟨o,es,ep,k _ o (fun z=>(hf _ z).2.1 rfl) ho,r⟩
 ·refine (I.hok b ob e).stay (fun b' w' hc' q=>k b' w' ?_ q) (fun _ q=>q) fun _ _ q=>q
  rcases hc' with rfl|hc'
  ·exact tr _ _ e
  ·exact tr _ _ hc'
theorem Inv.turnedN {T:Addr} {o:HO} (I:Inv X pins σ H s) (hf:∀ b∈ch,FpOk X pins H b) (k:∀ b o,b∉ch->s.heap.get? b=some o->h'.get? b=some o) (hT:s.heap.objs.size<=T) (new:ObjOk X.prog X.w (upd H T o) h' T o) :
  Inv X pins σ (upd H T o) { s with heap:=h',toks:=t' }:=by
 have tr:∀ b ob,H b=some ob->b∉ch:=fun b ob e hb=>by rw [(hf b hb).1] at e;cases e
 have hn:=I.hok.fresh hT
 have nT:∀ {b o},s.heap.get? b=some o->b≠T:=fun e=>Nat.ne_of_lt (Nat.lt_of_lt_of_le (Heap.lt_size e) hT)
 refine I.step (g':=s.gens) (d':=s.drawn) (ch:=ch) (fun b hb=>⟨(hf b hb).2.2.2.1,(hf b hb).2.1,(hf b hb).2.2.2.2.1,(hf b hb).2.2.2.2.2⟩) (fun b o _ _ hb e _=>k b o hb e) (fun b o _ _ hb e _=>⟨o.slots,k b o hb e⟩) (fun b o _ e n=>by rw [Af (nT e)];exact n) (fun b o hb e=>⟨o,k b o hb e⟩)
  (fun b zs e=>by rw [Af (Ae e hn)];exact e) (fun b o zs e=>by rw [Af (Ae e hn)];exact e) (fun b ps e=>⟨#[],by rw [Af (Ae e hn),e];simp⟩) (fun m hm=>?_) (fun b ob e=>?_) I.bare
 ·obtain⟨o,es,ep,ho,r⟩:=hm
  exact⟨o,es,ep,k _ o (fun z=>(hf _ z).2.1 rfl) ho,r⟩
 ·by_cases hb:b=T
  ·subst hb
   rw [Ab] at e
   cases e
   exact new
  ·rw [Af hb] at e
   refine (I.hok b ob e).stay (fun b' w' hc' q=>k b' w' ?_ q) (fun b' q=>by rw [Af (Ae q hn)];exact q) fun b' zs q=>by rw [Af (Ae q hn)];exact q
   rcases hc' with rfl|hc'
   ·exact tr _ _ e
   ·exact tr _ _ hc'
end
section
variable {X:Cx}
end
theorem Vk {bs:List Bool}:(List.range bs.length).all (fun i=>bs.getD i true)=bs.all fun b=>b:=by
 rw [Bool.eq_iff_iff,List.all_eq_true,List.all_eq_true]
 constructor
 ·intro h b hb
  obtain⟨i,hi,e⟩:=List.mem_iff_getElem.mp hb
  have q:=h i (List.mem_range.mpr hi)
  rw [List.getD_eq_getElem?_getD,List.getElem?_eq_getElem hi,e] at q
  exact q
 ·intro h i hi
  have hi:=List.mem_range.mp hi
  rw [List.getD_eq_getElem?_getD,List.getElem?_eq_getElem hi]
  exact h _ (List.getElem_mem hi)
section
variable {X:Cx}
theorem Wg (hc:X.calm=true):Cr X (.builtin "all") (fun xs H Q=>∃ (p:Addr) (bs:List Bool),xs=[.ref p]/\SqL X.K H p (bs.map V.bl)/\Q (.bl (bs.all fun b=>b)) H):=by
 intro pins s σ H xs us Q I r h
 obtain⟨p,bs,rfl,hq,q⟩:=h
 obtain⟨u,rfl,ru⟩:=r.one
 cases ru
 obtain⟨its,rv,pl,hz⟩:=I.list hq
 have hlen:=rv.length
 rw [List.length_map] at hlen
 obtain⟨o,n,e,c,hd,ds⟩:=id pl
 have plt:=Heap.lt_size e
 refine call_all_walk (wpAny_pyIter_list pl.isList ?_)
 refine⟨s.heap.objs.size,_,_,_,_,_,(fun i=>bs.getD i true),rfl,Walks.list (A:=X.A.in1) (show X.A.in1.handled=none from I.ok.hd hc) s.heap.objs.size p (Nat.ne_of_lt plt) its.toArray,⟨⟨_,Heap.get?_push_size _ rfl,rfl,rfl⟩,pl.isList.push _⟩,?_,fun h' tk kk=>?_⟩
 ·intro i v s' Q' E' hv hq'
  have hv:its[i]? = some v:=by simpa using hv
  have hi:i<bs.length:=by rw [hlen];exact (List.getElem?_eq_some_iff.mp hv).1
  have e1:(bs.map V.bl)[i]? = some (.bl bs[i]):=by simp [hi]
  obtain⟨u',hu',ru'⟩:=rv.get e1
  rw [hv] at hu'
  cases hu'
  cases ru'
  have e2:bs.getD i true=bs[i]:=by simp [List.getD_eq_getElem?_getD,hi]
  have hq':Q' (bs.getD i true) s':=hq'
  rw [e2] at hq'
  exact wpAny_truthy_bool hq'
 ·have e3:(List.range its.toArray.size).all (fun i=>bs.getD i true)=bs.all fun b=>b:=by
   rw [List.size_toArray,<- hlen]
   exact Vk
  rw [e3]
  refine⟨.bl _,H,I.kept (t':=tk) fun b o' eb=>kk b o' ?_ (Heap.get?_push_of_some _ eb),rfl,q⟩
  have hb:b≠s.heap.objs.size:=Nat.ne_of_lt (Heap.lt_size eb)
  simpa using hb
theorem Wh:Cr X (.builtin "isinstance") (fun xs H Q=>∃ x T t b,xs=[x,.ty T]/\TyOf X.K H x t/\PySem.W.kitOne X.K t (.type T)=some b/\Q (.bl b) H):=by
 intro pins s σ H xs us Q I r h
 obtain⟨x,T,t,b,rfl,ty,e,q⟩:=h
 obtain⟨u,v,rfl,ru,rv⟩:=r.two
 cases rv
 exact Lk I ru ty e fun tk=>⟨.bl b,H,I.tok tk,rfl,q⟩
theorem Vd:OpR X (compareOp .LtE) (fun x y H Q=>∃ i j,x=.str i/\y=.str j/\Q (.bl (!decide (j.cps.toList<i.cps.toList))) H):=by
 intro pins s σ H x y v u Q I rx ry h
 obtain⟨i,j,rfl,rfl,q⟩:=h
 obtain⟨t,rfl⟩:=rx
 obtain⟨t',rfl⟩:=ry
 exact PySem.P.le_str ⟨.bl _,H,I,rfl,q⟩
end
def eqVs (xs ys:List V):Bool:=decide (xs.length=ys.length)&&(List.range xs.length).all fun j=>eqV (xs.getD j .non) (ys.getD j .non)
theorem Gb {xs ys:List V} (h:xs.length≠ys.length):eqVs xs ys=false:=by
 unfold eqVs
 rw [decide_eq_false h]
 rfl
def rEqL (K:PySem.W.Frag) (neg:Bool):R2:=fun x y H Q=>∃ a b xs ys,x=.ref a/\y=.ref b/\SqL K H a xs/\SqL K H b ys/\xs.all Bx=true/\ys.all Bx=true/\Q (.bl (if neg then !eqVs xs ys else eqVs xs ys)) H
section
variable {X:Cx}
theorem Jh {A:Around} {s:Shared} {xs ys:List V} {us ws:List Value} (rx:Vals xs us) (ry:Vals ys ws) (fx:xs.all Bx=true) (fy:ys.all Bx=true) (j:Nat) (h1:j<us.toArray.size) (h2:j<ws.toArray.size) :
  SeqAt.EqAt A s us.toArray[j] ws.toArray[j] (eqV (xs.getD j .non) (ys.getD j .non)):=by
 have e1:=rx.length
 have e2:=ry.length
 have h1':j<us.length:=by simpa using h1
 have h2':j<ws.length:=by simpa using h2
 have a1:xs[j]? = some (xs[j]'(by omega)):=by simp
 have a2:ys[j]? = some (ys[j]'(by omega)):=by simp
 obtain⟨u,hu,ru⟩:=rx.get a1
 obtain⟨v,hv,rv⟩:=ry.get a2
 have b1:us.toArray[j]=u:=by
  have:us[j]? = some us[j]:=by simp
  rw [this] at hu
  simpa using Option.some.inj hu
 have b2:ws.toArray[j]=v:=by
  have:ws[j]? = some ws[j]:=by simp
  rw [this] at hv
  simpa using Option.some.inj hv
 have c1:xs.getD j .non=xs[j]'(by omega):=by rw [List.getD_eq_getElem?_getD,a1];rfl
 have c2:ys.getD j .non=ys[j]'(by omega):=by rw [List.getD_eq_getElem?_getD,a2];rfl
 rw [b1,b2,c1,c2]
 exact Qg ru rv (List.all_eq_true.mp fx _ (List.getElem_mem _)) (List.all_eq_true.mp fy _ (List.getElem_mem _))
theorem ak9 (hu:X.A.units<cLine):OpR X (compareOp .Eq) (rEqL X.K false):=by
 intro pins s σ H x y v u Q I rx ry h
 obtain⟨a,b,xs,ys,rfl,rfl,qa,qb,fx,fy,q⟩:=h
 cases rx
 cases ry
 obtain⟨its,r,pl,hz⟩:=I.list qa
 obtain⟨its2,r2,pl2,hz2⟩:=I.list qb
 have e1:=r.length
 have e2:=r2.length
 by_cases hl:xs.length=ys.length
 ·refine SeqAt.eq_listAt (e:=fun j=>eqV (xs.getD j .non) (ys.getD j .non)) pl.isList pl2.isList (by simp;omega) hu (fun j h1 h2=>Jh r r2 fx fy j h1 h2) ⟨.bl _,H,I,rfl,?_⟩
  have e:eqVs xs ys=(List.range its.toArray.size).all fun j=>eqV (xs.getD j .non) (ys.getD j .non):=by
   unfold eqVs
   rw [decide_eq_true hl,List.size_toArray,<- e1]
   rfl
  rw [<- e]
  exact q
 ·refine SeqAt.eq_list_lengthsAt pl.isList pl2.isList (by simp;omega) hu ⟨.bl _,H,I,rfl,?_⟩
  rw [Gb hl] at q
  exact q
theorem al4 (hu:X.A.units<cLine):OpR X (compareOp .NotEq) (rEqL X.K true):=by
 intro pins s σ H x y v u Q I rx ry h
 obtain⟨a,b,xs,ys,rfl,rfl,qa,qb,fx,fy,q⟩:=h
 cases rx
 cases ry
 obtain⟨its,r,pl,hz⟩:=I.list qa
 obtain⟨its2,r2,pl2,hz2⟩:=I.list qb
 have e1:=r.length
 have e2:=r2.length
 by_cases hl:xs.length=ys.length
 ·refine SeqAt.RcNeAt.lists (e:=fun j=>eqV (xs.getD j .non) (ys.getD j .non)) pl.isList pl2.isList (by simp;omega) hu (fun j h1 h2=>Jh r r2 fx fy j h1 h2) _ _ _ _ ⟨.bl _,H,I,rfl,?_⟩
  have e:eqVs xs ys=(List.range its.toArray.size).all fun j=>eqV (xs.getD j .non) (ys.getD j .non):=by
   unfold eqVs
   rw [decide_eq_true hl,List.size_toArray,<- e1]
   rfl
  rw [<- e]
  exact q
 ·refine SeqAt.RcNeAt.lists_lengths pl.isList pl2.isList (by simp;omega) hu _ _ _ _ ⟨.bl _,H,I,rfl,?_⟩
  rw [Gb hl] at q
  exact q
end
theorem Xh {cl:List (Str×Addr)} {x:Str} (h:x∈cl.map (·.1)):∃ c,cl.lookup x=some c:=by
 induction cl with
 | nil=>simp at h
 | cons p r ih=>
  obtain⟨n,a⟩:=p
  rw [List.lookup_cons]
  cases e:x==n with
  | true=>exact⟨a,rfl⟩
  | false=>
   refine ih ?_
   rcases List.mem_cons.mp h with q|q
   ·rw [show x=n from q] at e;simp at e
   ·exact q
section
variable {X:Cx} {e:Expr} {te:TE} {lo hi:Option Expr} {tl th:TO} {pos p2:Pos}
theorem Q9 {ys:List Str}:∀ {us:List Value},Vals (ys.map V.str) us->StrsAre us ys:=by
 induction ys with
 | nil=>intro us r;rw [List.map_nil] at r;cases r;exact .nil
 | cons y ys ih=>
  intro us r
  rw [List.map_cons] at r
  cases r with
  | cons r1 r2=>
   obtain⟨t,e⟩:=r1
   subst e
   exact .cons y t (ih r2)
theorem aa3:MtR X "str.join" (fun x xs H Q=>∃ z p ys,x=.str z/\xs=[.ref p]/\SqL X.K H p (ys.map V.str)/\(ys.map (·.length)).sum+ys.length * z.length<=16777216/\Q (.str (Txt.join z ys)) H):=by
 intro pins s σ H x xs v us Q I rx rs h
 obtain⟨z,p,ys,rfl,rfl,hq,hz,q⟩:=h
 obtain⟨t,rfl⟩:=rx
 obtain⟨u,rfl,ru⟩:=rs.one
 cases ru
 obtain⟨its,rv,pl,_⟩:=I.list hq
 exact PyProof.Rows.join_list pl.isList (by simpa using Q9 rv) hz fun t' k=>⟨.str _,H,I.tok k,⟨_,rfl⟩,q⟩
end
end L2
set_option maxHeartbeats 4000000
namespace L2
open PySem PySem.Spec PyProof.Rows
section
variable {κ:Type} [DecidableEq κ]
def valV (kvs:List (κ×V)) (k:κ):Option V:=(kvs.find? fun kv=>decide (kv.1=k)).map (·.2)
def putK (kvs:List (κ×V)) (k:κ) (v:V):List (κ×V):=
 if (kvs.any fun kv=>decide (kv.1=k))=true then kvs.map (fun kv=>if kv.1=k then (kv.1,v) else kv) else kvs++[(k,v)]
theorem D6 {p:κ×V} {r:List (κ×V)} {k:κ} (e:p.1=k):valV (p::r) k=some p.2:=by simp [valV,List.find?_cons,e]
theorem Df {p:κ×V} {r:List (κ×V)} {k:κ} (e:¬ p.1=k):valV (p::r) k=valV r k:=by simp [valV,List.find?_cons,e]
theorem Kj (k:κ):∀ kvs:List (κ×V),(kvs.any fun kv=>decide (kv.1=k))=(valV kvs k).isSome
 | []=>rfl
 | p::r=>by
  rw [List.any_cons]
  by_cases e:p.1=k
  ·simp only [D6 e,decide_eq_true e,Bool.true_or,Option.isSome_some]
  ·rw [Df e,decide_eq_false e,Bool.false_or];exact Kj k r
theorem E1 (kvs:List (κ×V)) (k:κ) (v:V):(putK kvs k v).length<=kvs.length+1:=by
 unfold putK
 split
 ·rw [List.length_map];omega
 ·rw [List.length_append,List.length_cons,List.length_nil];omega
theorem Ju {kvs:List (κ×V)} {k:κ} (v:V) (h:valV kvs k=none):putK kvs k v=kvs++[(k,v)]:=by
 unfold putK
 rw [Kj,h]
 exact if_neg (by decide)
theorem RelO.isSome_eq {o:Option V} {u:Option Value} (r:RelO o u):o.isSome=u.isSome:=by
 cases o with
 | none=>cases u with
  | none=>rfl
  | some _=>exact (show False from r).elim
 | some _=>cases u with
  | none=>exact (show False from r).elim
  | some _=>rfl
theorem KV.val {kvs:List (κ×V)} {vs:List (κ×Value)} (r:KV kvs vs) (k:κ):RelO (valV kvs k) (valueAt vs k):=by
 unfold KV at r
 induction r with
 | nil=>exact True.intro
 | @cons p q ps qs h t ih=>
  obtain⟨h1,h2⟩:=h
  by_cases e:p.1=k
  ·have e':q.1=k:=h1.symm.trans e
   have b:valueAt (q::qs) k=some q.2:=by simp [valueAt,List.find?_cons,e']
   rw [D6 e,b];exact h2
  ·have e':¬ q.1=k:=fun z=>e (h1.trans z)
   have b:valueAt (q::qs) k=valueAt qs k:=by simp [valueAt,List.find?_cons,e']
   rw [Df e,b];exact ih
theorem KV.any {kvs:List (κ×V)} {vs:List (κ×Value)} (r:KV kvs vs) (k:κ):(kvs.any fun kv=>decide (kv.1=k))=vs.any fun kv=>decide (kv.1=k):=by
 unfold KV at r
 induction r with
 | nil=>rfl
 | cons h t ih=>rw [List.any_cons,List.any_cons,ih,h.1]
theorem KV.repl {kvs:List (κ×V)} {vs:List (κ×Value)} (r:KV kvs vs) (k:κ) {y:V} {u:Value} (ry:RelV y u) :
  KV (kvs.map fun kv=>if kv.1=k then (kv.1,y) else kv) (vs.map fun kv=>if kv.1=k then (kv.1,u) else kv):=by
 unfold KV at r ⊢
 induction r with
 | nil=>exact .nil
 | @cons p q ps qs h t ih=>
  rw [List.map_cons,List.map_cons]
  refine .cons ?_ ih
  obtain⟨h1,h2⟩:=h
  by_cases e:p.1=k
  ·rw [if_pos e,if_pos (h1.symm.trans e)];exact⟨h1,ry⟩
  ·rw [if_neg e,if_neg (fun z=>e (h1.trans z))];exact⟨h1,h2⟩
theorem KV.put {kvs:List (κ×V)} {vs:List (κ×Value)} (r:KV kvs vs) (k:κ) {y:V} {u:Value} (ry:RelV y u):KV (putK kvs k y) (stored vs k u):=by
 unfold putK stored
 rw [r.any k]
 by_cases e:(vs.any fun kv=>decide (kv.1=k))=true
 ·rw [if_pos e,if_pos e];exact r.repl k ry
 ·rw [if_neg e,if_neg e];exact Paired.snoc r ⟨rfl,ry⟩
theorem KV.keys {kvs:List (κ×V)} {vs:List (κ×Value)} (r:KV kvs vs):kvs.map (·.1)=vs.map (·.1):=by
 unfold KV at r
 induction r with
 | nil=>rfl
 | cons h t ih=>rw [List.map_cons,List.map_cons,ih,h.1]
theorem KV.length {kvs:List (κ×V)} {vs:List (κ×Value)} (r:KV kvs vs):kvs.length=vs.length:=Paired.length r
end
theorem Ln {P:Program} {w:World} {k:Key} {u:Value} (r:RelV (kV k) u):(A0 P w).is k u=true:=by
 cases k with
 | inl i=>obtain⟨t,e⟩:=(show ∃ t,u=Value.int i t from r);subst e;exact Oq P w i t
 | inr x=>obtain⟨t,e⟩:=(show ∃ t,u=Value.str x t from r);subst e;exact Os P w x t
theorem Ll {P:Program} {w:World}:∀ {ks:List Key} {us:List Value},Vals (ks.map kV) us->ItemsAre (A0 P w) ks us
 | [],_,r=>by rw [List.map_nil] at r;cases r;exact .nil
 | k::ks,_,r=>by
  rw [List.map_cons] at r
  cases r with
  | cons h t=>exact .cons (Ln h) (Ll t)
abbrev KT (H:Hp):List (List Key×V)->List (List Key×Addr×Value)->Prop:=Paired fun p q=>p.1=q.1/\H q.2.1=some (.tup (p.1.map kV))/\RelV p.2 q.2.2
theorem KT.val {H:Hp} {kvs:List (List Key×V)} {xs:List (List Key×Addr×Value)} (r:KT H kvs xs) (k:List Key):RelO (valV kvs k) ((atKey xs k).map (·.2)):=by
 induction r with
 | nil=>exact True.intro
 | @cons p q ps qs h t ih=>
  obtain⟨h1,_,h2⟩:=h
  by_cases e:p.1=k
  ·have e':q.1=k:=h1.symm.trans e
   have b:atKey (q::qs) k=some q.2:=by simp [atKey,List.find?_cons,e']
   rw [D6 e,b];exact h2
  ·have e':¬ q.1=k:=fun z=>e (h1.trans z)
   have b:atKey (q::qs) k=atKey qs k:=by simp [atKey,List.find?_cons,e']
   rw [Df e,b];exact ih
theorem KT.repl {H:Hp} {kvs:List (List Key×V)} {xs:List (List Key×Addr×Value)} (r:KT H kvs xs) (k:List Key) {y:V} {u:Value} (ry:RelV y u) :
  KT H (kvs.map fun kv=>if kv.1=k then (kv.1,y) else kv) (xs.map (putAt k u)):=by
 induction r with
 | nil=>exact .nil
 | @cons p q ps qs h t ih=>
  rw [List.map_cons,List.map_cons]
  refine .cons ?_ ih
  obtain⟨h1,h2,h3⟩:=h
  unfold putAt
  by_cases e:p.1=k
  ·rw [if_pos e,if_pos (h1.symm.trans e)];exact⟨h1,h2,ry⟩
  ·rw [if_neg e,if_neg (fun z=>e (h1.trans z))];exact⟨h1,h2,h3⟩
theorem KT.put {H:Hp} {kvs:List (List Key×V)} {xs:List (List Key×Addr×Value)} (r:KT H kvs xs) (k:List Key) {b:Addr} {y:V} {u:Value} (hb:H b=some (.tup (k.map kV))) (ry:RelV y u) :
  KT H (putK kvs k y) (storedH xs k b u):=by
 have e:(kvs.any fun kv=>decide (kv.1=k))=(atKey xs k).isSome:=by
  rw [Kj,(r.val k).isSome_eq,Option.isSome_map]
 unfold putK storedH
 rw [e]
 by_cases q:(atKey xs k).isSome=true
 ·rw [if_pos q,if_pos q];exact r.repl k ry
 ·rw [if_neg q,if_neg q];exact Paired.snoc r ⟨rfl,hb,ry⟩
theorem KT.keeps {H H':Hp} {kvs:List (List Key×V)} {xs:List (List Key×Addr×Value)} (r:KT H kvs xs) (ht:∀ b ys,H b=some (.tup ys)->H' b=some (.tup ys)):KT H' kvs xs:=
 Paired.mapP r fun _ _ z=>⟨z.1,ht _ _ z.2.1,z.2.2⟩
section
variable {P:Program} {w:World} {H:Hp} {h:Heap} {a:Addr}
theorem ag8 {u:HO} (ok:HOk P w H h) (e:Rd H a u):ObjOk P w H h a u:=e.ok ok
theorem Eo {kvs:List (Key×V)} (ok:HOk P w H h) (e:Rd H a (.dK kvs)):kvs.length<=sizeLine/\(a==sysModules)=false /\ ∃ vs,KV kvs vs/\h.DictOf (A0 P w) a vs:=
 show ObjOk P w H h a (.dK kvs) from ag8 ok e
theorem af1 {kvs:List (Key×V)} (ok:HOk P w H h) (e:H a=some (.dK kvs)):kvs.length<=sizeLine/\(a==sysModules)=false /\ ∃ vs,KV kvs vs/\h.DictOf (A0 P w) a vs:=Eo ok (.inl e)
theorem Ji {ks:List Key} (ok:HOk P w H h) (e:H a=some (.tup (ks.map kV))):(tupleKind (A0 P w)).is h ks a:=by
 obtain⟨_,its,r,o,h1,h2,n,h3⟩:=(show ObjOk P w H h a (.tup (ks.map kV)) from ok a _ e)
 exact⟨o,its.toArray,n,h1,h2,h3,by simpa using Ll r⟩
theorem Oe {kvs:List (List Key×V)} (ok:HOk P w H h) (e:Rd H a (.dT kvs)):kvs.length<=sizeLine/\(a==sysModules)=false /\
  ∃ xs,KT H kvs xs/\h.DictOfH (tupleKind (A0 P w)) a xs:=by
 obtain⟨z,y,xs,r,o,es,ep,h1,h2,h3,h4,h5⟩:=(show ObjOk P w H h a (.dT kvs) from ag8 ok e)
 refine⟨z,y,xs,r,o,es,ep,h1,h2,h3,h4,fun x hx=>?_,h5⟩
 have all:∀ {l:List (List Key×V)} {m:List (List Key×Addr×Value)},KT H l m -> ∀ x∈m,(tupleKind (A0 P w)).is h x.1 x.2.1:=by
  intro l m q
  induction q with
  | nil=>intro x hx;exact nomatch hx
  | @cons p q ps qs hq t ih=>
   intro x hx
   rcases List.mem_cons.mp hx with e|hx
   ·subst e
    exact Ji ok (by rw [<- hq.1];exact hq.2.1)
   ·exact ih x hx
 exact all r x hx
theorem au8 {kvs:List (List Key×V)} (ok:HOk P w H h) (e:H a=some (.dT kvs)):kvs.length<=sizeLine/\(a==sysModules)=false /\
  ∃ xs,KT H kvs xs/\h.DictOfH (tupleKind (A0 P w)) a xs:=Oe ok (.inl e)
end
def DGet (H:Hp) (a:Addr) (y:V) (r:Option V):Prop:=
 (∃ kvs k,Rd H a (.dK kvs)/\y=kV k/\r=valV kvs k) \/ ∃ kvs k b,Rd H a (.dT kvs)/\y=.ref b/\H b=some (.tup (k.map kV))/\r=valV kvs k
def DPut (H:Hp) (a:Addr) (y v:V) (H':Hp):Prop:=
 (∃ kvs k,H a=some (.dK kvs)/\y=kV k/\kvs.length<sizeLine/\H'=upd H a (.dK (putK kvs k v))) \/
 ∃ kvs k b,H a=some (.dT kvs)/\y=.ref b/\H b=some (.tup (k.map kV))/\kvs.length<sizeLine/\H'=upd H a (.dT (putK kvs k v))
theorem DGet.k {H:Hp} {a:Addr} {kvs:List (Key×V)} {k:Key} (e:H a=some (.dK kvs)):DGet H a (kV k) (valV kvs k):=.inl ⟨kvs,k,.inl e,rfl,rfl⟩
theorem DPut.k {H:Hp} {a:Addr} {kvs:List (Key×V)} {k:Key} {v:V} (e:H a=some (.dK kvs)) (hl:kvs.length<sizeLine):DPut H a (kV k) v (upd H a (.dK (putK kvs k v))):=.inl ⟨kvs,k,e,rfl,hl,rfl⟩
theorem DPut.t {H:Hp} {a b:Addr} {kvs:List (List Key×V)} {k:List Key} {v:V} (e:H a=some (.dT kvs)) (eb:H b=some (.tup (k.map kV))) (hl:kvs.length<sizeLine) :
  DPut H a (.ref b) v (upd H a (.dT (putK kvs k v))):=.inr ⟨kvs,k,b,e,rfl,eb,hl,rfl⟩
section
variable {X:Cx} {pins:List (Addr×Obj)} {σ:St} {H:Hp} {s:Shared} {a:Addr} {y v:V} {u r:Value} {o:Option V} {A:Around} {E:Value->Shared->Prop}
theorem Inv.big (I:Inv X pins σ H s):sysModules<s.heap.objs.size:=by
 have h:mainGlobals<s.heap.objs.size:=(I.mod.glob.keeps I.bk).lt
 exact Nat.lt_trans (by decide) h
theorem Ue {Q:Value->Shared->Prop} (hu:A.units+1<cLine) (I:Inv X pins σ H s) (g:DGet H a y (some v)) (ry:RelV y u) (h:∀ w' s',Inv X pins σ H s'->RelV v w'->Q w' s') :
  wpAny (model X.prog X.w) A (getItem (.ref a) u) Q E s:=by
 rcases g with ⟨kvs,k,e,ey,l⟩|⟨kvs,k,b,e,ey,eb,l⟩
 ·subst ey
  obtain⟨z,hd,vs,rel,dd⟩:=Eo I.hok e
  obtain⟨w',hw,rw'⟩:=RelO.some_of (v:=v) (o:=valueAt vs k) (by rw [l];exact rel.val k)
  exact wpAny_getItem_of (Ln ry) dd.mapOf hw (h w' _ (I.tok _) rw')
 ·subst ey
  cases (show u=Value.ref b from ry)
  obtain⟨z,hd,xs,rel,dd⟩:=Oe I.hok e
  obtain⟨w',hw,rw'⟩:=RelO.some_of (v:=v) (o:=(atKey xs k).map (·.2)) (by rw [l];exact rel.val k)
  obtain⟨p,hp,hp2⟩:=Option.map_eq_some_iff.mp hw
  refine wpAny_getItem_heap (tupleKind_room_in1 hu) (Ji I.hok eb) dd hp ?_
  rw [hp2]
  exact h w' _ (I.tok _) rw'
theorem d_in {Q:Value->Shared->Prop} (hu:A.units+1<cLine) (I:Inv X pins σ H s) (g:DGet H a y o) (ry:RelV y u) (h:∀ s',Inv X pins σ H s'->Q (.bool o.isSome) s') :
  wpAny (model X.prog X.w) A (compareOp .In u (.ref a)) Q E s:=by
 rcases g with ⟨kvs,k,e,ey,l⟩|⟨kvs,k,b,e,ey,eb,l⟩
 ·subst ey
  obtain⟨z,hd,vs,rel,dd⟩:=Eo I.hok e
  refine wpAny_in_of (Ln ry) hd dd.mapOf ?_
  rw [<- (rel.val k).isSome_eq,<- l]
  exact h _ (I.tok _)
 ·subst ey
  cases (show u=Value.ref b from ry)
  obtain⟨z,hd,xs,rel,dd⟩:=Oe I.hok e
  refine wpAny_in_heap (tupleKind_room_in1 hu) (Ji I.hok eb) hd dd ?_
  have q:=(rel.val k).isSome_eq
  rw [Option.isSome_map] at q
  rw [<- q,<- l]
  exact h _ (I.tok _)
theorem Zx {Q:Value->Shared->Prop} (hu:A.units+1<cLine) (I:Inv X pins σ H s) (g:DGet H a y o) (ry:RelV y u) (h:∀ s',Inv X pins σ H s'->Q (.bool (!o.isSome)) s') :
  wpAny (model X.prog X.w) A (compareOp .NotIn u (.ref a)) Q E s:=by
 rcases g with ⟨kvs,k,e,ey,l⟩|⟨kvs,k,b,e,ey,eb,l⟩
 ·subst ey
  obtain⟨z,hd,vs,rel,dd⟩:=Eo I.hok e
  refine wpAny_notIn_of (Ln ry) hd dd.mapOf ?_
  rw [<- (rel.val k).isSome_eq,<- l]
  exact h _ (I.tok _)
 ·subst ey
  cases (show u=Value.ref b from ry)
  obtain⟨z,hd,xs,rel,dd⟩:=Oe I.hok e
  refine wpAny_notIn_heap (tupleKind_room_in1 hu) (Ji I.hok eb) hd dd ?_
  have q:=(rel.val k).isSome_eq
  rw [Option.isSome_map] at q
  rw [<- q,<- l]
  exact h _ (I.tok _)
theorem Mr {h':Heap} {t':Nat} {ob:HO} (I:Inv X pins σ H s) (mu:Mut (H a)) (hs:Heap.SameBut a s.heap h') (he:∃ q,h'.get? a=some q) (new:ObjOk X.prog X.w (upd H a ob) h' a ob) :
  Inv X pins σ (upd H a ob) { s with heap:=h',toks:=t' }:=
 I.write (x:=a) (e:=a) mu (.inl rfl) (fun b q hb z=>(hs.2 b hb).trans z) he new
theorem Wm {P:Program} {w:World} {H':Hp} {h':Heap} {kvs:List (Key×V)} {vs:List (Key×Value)} (z:kvs.length<=sizeLine) (hd:(a==sysModules)=false) (rel:KV kvs vs) (dd:h'.DictOf (A0 P w) a vs) :
  ObjOk P w H' h' a (.dK kvs):=⟨z,hd,vs,rel,dd⟩
theorem Uf {H':Hp} {Q:Unit->Shared->Prop} (hu:A.units+1<cLine) (I:Inv X pins σ H s) (g:DPut H a y v H') (ry:RelV y u) (rv:RelV v r) (h:∀ s',Inv X pins σ H' s'->Q () s') :
  wpAny (model X.prog X.w) A (setItem (.ref a) u r) Q E s:=by
 rcases g with ⟨kvs,k,e,ey,l,eH⟩|⟨kvs,k,b,e,ey,eb,l,eH⟩
 ·subst ey eH
  obtain⟨z,hd,vs,rel,dd⟩:=af1 I.hok e
  have hz:vs.length<=sizeLine:=by rw [<- rel.length];exact z
  have hl:(putK kvs k v).length<=sizeLine:=by have:=E1 kvs k v;omega
  refine wpAny_setItem_pairs (hsz:=hz) (Ln ry) dd fun h' dd' hs=>h _ ?_
  have he:∃ q,h'.get? a=some q:=let ⟨q,_,_,hq,_⟩:=dd';⟨q,hq⟩
  exact Mr I (by rw [e];exact True.intro) hs he (Wm hl hd (rel.put k rv) dd')
 ·subst ey eH
  cases (show u=Value.ref b from ry)
  obtain⟨z,hd,xs,rel,dd⟩:=au8 I.hok e
  have hz:xs.length<=sizeLine:=by rw [<- Paired.length rel];exact z
  have hl:(putK kvs k v).length<=sizeLine:=by have:=E1 kvs k v;omega
  refine wpAny_setItem_heap (hsz:=hz) (tupleKind_room_in1 hu) (Ji I.hok eb) dd fun h' dd' hs=>h _ ?_
  obtain⟨q,es,ep,hq,h2,h3,h4,_,h5⟩:=dd'
  refine Mr I (by rw [e];exact True.intro) hs ⟨q,hq⟩ ⟨hl,hd,_,(rel.put k eb rv).keeps fun c ys ec=>?_,q,es,ep,hq,h2,h3,h4,h5⟩
  rw [Af (av7 ec e (fun z=>nomatch z))]
  exact ec
end
section
variable {X:Cx} {pins:List (Addr×Obj)} {σ:St} {H:Hp} {s:Shared} {a:Addr} {kvs:List (Key×V)} {k:Key} {u:Value} {A:Around} {E:Value->Shared->Prop}
theorem au6 {Q:Value->Shared->Prop} (I:Inv X pins σ H s) (e:Rd H a (.dK kvs)) (h:∀ t s',Inv X pins σ H s'->Q (.int kvs.length t) s'):wpAny (model X.prog X.w) A (call (.builtin "len") [.ref a]) Q E s:=by
 obtain⟨z,hd,vs,rel,dd⟩:=Eo I.hok e
 refine call_len_dict hd dd (by rw [<- rel.length];rw [sizeLine_eq] at z;omega) ?_
 rw [<- rel.length]
 exact h _ _ (I.tok _)
end
theorem Oc {X:Cx} {pins:List (Addr×Obj)} {σ:St} {H:Hp} {s:Shared} {a:Addr} {y:V} {o:Option V} (I:Inv X pins σ H s) (g:DGet H a y o):s.TypeIs (.ref a) "dict" := by
 rcases g with ⟨kvs,k,e,_,_⟩|⟨kvs,k,b,e,_,_,_⟩
 ·obtain⟨_,_,vs,_,dd⟩:=Eo I.hok e
  exact dd.typeIs
 ·obtain⟨_,_,xs,_,dd⟩:=Oe I.hok e
  exact dd.typeIs
section
variable {X:Cx} {o i e value:Expr} {pos pos' tpos:Pos} {td ty tv:TE}
end
theorem Od {P:Program} {w:World} {H:Hp} (h:Heap) (hb:sysModules<h.objs.size):ObjOk P w H (h.push { cls:=.type "dict", data:=.dict #[] }) h.objs.size (.dK []):=
 ⟨Nat.zero_le _,beq_eq_false_iff_ne.mpr (Ne.symm (Nat.ne_of_lt hb)),[],.nil,Heap.DictOf.new h⟩
theorem Wn {P:Program} {w:World} {H:Hp} (h:Heap) (hb:sysModules<h.objs.size):ObjOk P w H (h.push { cls:=.type "dict", data:=.dict #[] }) h.objs.size (.dT []):=
 ⟨Nat.zero_le _,beq_eq_false_iff_ne.mpr (Ne.symm (Nat.ne_of_lt hb)),[],.nil,_,#[],0,Heap.get?_push_size _ rfl,⟨rfl,rfl,rfl⟩,rfl,rfl,List.nodup_nil⟩
section
variable {X:Cx} {pos:Pos}
end
def Ni:List (TE×TE)->St->Hp->(List (V×V)->Hp->Prop)->Prop
 | [],_,H,Q=>Q [] H
 | (tk,tv)::r,σ,H,Q=>tk σ H fun x H1=>tv σ H1 fun y H2=>Ni r σ H2 fun ps H3=>Q ((x,y)::ps) H3
abbrev VV:List (V×V)->List (Value×Value)->Prop:=Paired fun p q=>RelV p.1 q.1/\RelV p.2 q.2
def PPs (X:Cx) (pos:Pos) (keys:List (Option Expr)) (values:List Expr) (trs:List (TE×TE)):Prop:=
 ∀ (pins:List (Addr×Obj)) (s:Shared) (σ:St) (H:Hp) (Q:List (V×V)->Hp->Prop),Inv X pins σ H s->Ni trs σ H Q ->
  wpAny (model X.prog X.w) X.A (evalPairs (pairTrees keys values X.env pos)) (fun vs s'=>∃ ps H',Inv X pins σ H' s'/\VV ps vs/\Q ps H') X.xe s
theorem ab6 {X:Cx} {pos:Pos}:PPs X pos [] [] []:=fun pins s σ H Q I h=>pairTrees_nil_walk ⟨[],H,I,.nil,h⟩
theorem X0 {X:Cx} {pos:Pos} {k v:Expr} {ks:List (Option Expr)} {vs:List Expr} {tk tv:TE} {trs:List (TE×TE)} (hk:PE X k tk) (hv:PE X v tv) (hr:PPs X pos ks vs trs) :
  PPs X pos (some k::ks) (v::vs) ((tk,tv)::trs):=fun pins s σ H Q I h=>
 pairTrees_cons_walk (thn (hk pins s σ H _ I h) fun u s1 ⟨x,H1,I1,rx,q1⟩=>thn (hv pins s1 σ H1 _ I1 q1) fun w2 s2 ⟨y,H2,I2,ry,q2⟩=>
  thn (hr pins s2 σ H2 _ I2 q2) fun ws s3 ⟨ps,H3,I3,rel,q3⟩=>⟨(x,y)::ps,H3,I3,.cons ⟨rx,ry⟩ rel,q3⟩)
def G5 (kvs more:List (Key×V)):List (Key×V):=more.foldl (fun acc kv=>putK acc kv.1 kv.2) kvs
theorem KV.merge:∀ {more:List (Key×V)} {rs:List (Key×Value)} {kvs:List (Key×V)} {vs:List (Key×Value)},KV more rs->KV kvs vs->KV (G5 kvs more) (merged vs rs):=by
 intro more rs kvs vs r
 unfold KV at r
 induction r generalizing kvs vs with
 | nil=>intro q;exact q
 | @cons p q ps qs h t ih=>
  intro r0
  have e:KV (putK kvs p.1 p.2) (stored vs q.1 q.2):=by
   have:=r0.put p.1 h.2
   rw [<- h.1];exact this
  exact ih e
theorem Fj:∀ (more kvs:List (Key×V)),(G5 kvs more).length<=kvs.length+more.length
 | [],kvs=>by show kvs.length<=kvs.length+0;omega
 | p::r,kvs=>by
  have h1:=Fj r (putK kvs p.1 p.2)
  have h2:=E1 kvs p.1 p.2
  show (G5 (putK kvs p.1 p.2) r).length<=_
  rw [List.length_cons];omega
theorem Iv {P:Program} {w:World}:∀ {kvs:List (Key×V)} {ws:List (Value×Value)},VV (kvs.map fun kv=>(kV kv.1,kv.2)) ws -> ∃ rs,Carries (A0 P w) ws rs/\KV kvs rs
 | [],_,r=>by rw [List.map_nil] at r;cases r;exact⟨[],True.intro,.nil⟩
 | p::kvs,_,r=>by
  rw [List.map_cons] at r
  cases r with
  | @cons a b as bs h t=>
   obtain⟨rs,c,q⟩:=Iv (P:=P) (w:=w) t
   obtain⟨b1,b2⟩:=b
   exact⟨(p.1,b2)::rs,⟨Ln h.1,rfl,c⟩,.cons ⟨rfl,h.2⟩ q⟩
def a62 (trs:List (TE×TE)):TE:=fun σ H Q=>∀ p,H p=none->Ni trs σ (upd H p (.dK [])) fun ps H2=>H2 p=some (.dK []) /\ ∃ kvs:List (Key×V),ps=kvs.map (fun kv=>(kV kv.1,kv.2))/\kvs.length<=15/\Q (.ref p) (upd H2 p (.dK (G5 [] kvs)))
theorem ab2 {X:Cx} {pos:Pos} {keys:List (Option Expr)} {values:List Expr} {trs:List (TE×TE)} (h:PPs X pos keys values trs) (hall:keys.all (·.isSome)=true) (hl:keys.length=values.length) (h0:keys≠[])
  (h15:keys.length<=15):PE X (.Dict keys values pos) (a62 trs):=by
 intro pins s σ H Q I q
 have hn:=I.hok.fresh (Nat.le_refl s.heap.objs.size)
 have I1:=I.laid (a:=s.heap.objs.size) (o:=.dK []) (h':=s.heap.push { cls:=.type "dict", data:=.dict #[] }) (t':=s.toks) (fun _ _ q=>Heap.get?_push_of_some _ q) (Nat.le_refl _) (Od s.heap I.big)
 refine wpAny_Dict_walk (knd:=A0 X.prog X.w) hall hl h0 h15 (thn (h pins _ σ _ _ I1 (q _ hn)) fun ws s2 ⟨ps,H2,I2,rel,e,kvs,ep,lk,q2⟩=>?_)
 subst ep
 obtain⟨rs,c,rk⟩:=Iv (P:=X.prog) (w:=X.w) rel
 obtain⟨z,hd,vs0,r0,dd⟩:=af1 I2.hok e
 cases r0
 refine⟨rs,c,dd,fun h' dd' hs=>⟨.ref s.heap.objs.size,_,?_,rfl,q2⟩⟩
 have hz:(G5 [] kvs).length<=sizeLine:=by
  have h1:=Fj kvs []
  rw [List.length_nil] at h1
  rw [sizeLine_eq];omega
 have he:∃ q,h'.get? s.heap.objs.size=some q:=let ⟨q,_,_,hq,_⟩:=dd';⟨q,hq⟩
 exact Mr I2 (by rw [e];exact True.intro) hs he (Wm hz hd (rk.merge .nil) dd')
section
variable {X:Cx} {pins:List (Addr×Obj)} {σ:St} {H:Hp} {s:Shared} {a:Addr} {y d:V} {u r:Value} {o:Option V} {A:Around} {E:Value->Shared->Prop}
end
section
variable {X:Cx} {o e f:Expr} {apos cpos:Pos} {td ty tx:TE}
end
section
variable {X:Cx} {pins:List (Addr×Obj)} {σ:St} {H:Hp} {s:Shared} {a:Addr} {kvs:List (Key×V)} {A:Around} {E:Value->Shared->Prop}
end
section
variable {X:Cx} {pins:List (Addr×Obj)} {σ:St} {H:Hp} {s:Shared} {a:Addr} {y:V} {u:Value} {A:Around} {E:Value->Shared->Prop}
end
abbrev EK:=Addr->Hp->Prop
abbrev DE:=St->Hp->VK->EK->Prop
abbrev DT:=St->Hp->(Bool->Hp->Prop)->EK->Prop
abbrev DA:=St->Hp->(List V->Hp->Prop)->EK->Prop
structure Outs where
 nx:St->Hp->Prop
 rt:VK
 bk:St->Hp->Prop
 ct:St->Hp->Prop
 ex:St->EK
abbrev DS:=Outs->St->Hp->Prop
abbrev Aq (C:Addr) (dx:Option Addr) (vs:Array Value):Obj:={ cls:=.ref C,dict:=dx,data:=.fields vs }
def excO (a C:Addr) (dx:Option Addr):HO:=.ext fun h=>∃ vs:Array Value,h.get? a=some (Aq C dx vs)/\vs.size=6/\vs[1]? = some .none/\vs[2]? = some .none
def flO (a C:Addr) (dx:Option Addr):HO:=.ext fun h=>∃ vs:Array Value,h.get? a=some (Aq C dx vs)/\vs.size=6/\vs[2]? = some .none
def fcO (a C:Addr) (dx:Option Addr):HO:=.ext fun h=>∃ vs:Array Value,h.get? a=some (Aq C dx vs)/\vs.size=6
def FlO (H:Hp) (a C:Addr) (dx:Option Addr):Prop:=H a=some (flO a C dx)\/H a=some (fcO a C dx)
def xdO (dx:Addr) (fs:List (Str×V)):HO:=.ext fun h=>fs.length<=1000 /\ ∃ mA,h.Ns1 dx mA/\(∀ f,RelO (fs.lookup f) (mA f))/\PySem.Within mA (fs.map (·.1))
def Fi (X:Cx) (pins:List (Addr×Obj)) (H:Hp) (a:Addr) (s:Shared):Prop:=
 ∃ (C:Addr) (dx:Option Addr) (vs:Array Value),FlO H a C dx/\s.heap.get? a=some (Aq C dx vs)/\vs.size=6 /\
  (vs[1]? = some .none \/ ∃ (T:Addr) (oT:Obj) (ts:Array Value),vs[1]? = some (.ref T)/\T≠a/\s.heap.get? T=some oT/\oT.data=.fields ts/\(∃ z,ts[3]? = some z)/\FpOk X pins H T)
def Ca (X:Cx) (Ex:St->EK):Prop:=
 ∀ (pins:List (Addr×Obj)) (σ:St) (H:Hp) (s:Shared) (a:Addr),Inv X pins σ H s->Fi X pins H a s->Ex σ a H->X.xe (.ref a) s
def QE (X:Cx) (e:Expr) (t:DE):Prop:=∀ Ex,Ca X Ex->PE X e (fun σ H Q=>t σ H Q (Ex σ))
def QT (X:Cx) (e:Expr) (t:DT):Prop:=∀ Ex,Ca X Ex->PT X e (fun σ H Q=>t σ H Q (Ex σ))
def QW (X:Cx) (e:Expr) (t:DT):Prop:=∀ Ex,Ca X Ex->PW X e (fun σ H Q=>t σ H Q (Ex σ))
def QA (X:Cx) (es:List Expr) (t:DA):Prop:=∀ Ex,Ca X Ex->PA X es (fun σ H Q=>t σ H Q (Ex σ))
def outs (Ex:St->EK) (D:Ends):Outs:=⟨D.nx,D.rt,D.bk,D.ct,Ex⟩
def QS (X:Cx) (st:Stmt) (t:DS):Prop:=∀ Ex,Ca X Ex->PS X st (fun D σ H=>t (outs Ex D) σ H)
def QSs (X:Cx) (st:List Stmt) (t:DS):Prop:=∀ Ex,Ca X Ex->PSs X st (fun D σ H=>t (outs Ex D) σ H)
def dNo:DE:=fun _ _ _ _=>False
def dVar (i:Nat):DE:=fun σ H Q _=>match σ[i]? with
 | some (some v)=>Q v H
 | _=>False
def dC (v:V):DE:=fun _ H Q _=>Q v H
def dBin (r:R2) (a b:DE):DE:=fun σ H Q E=>a σ H (fun x H1=>b σ H1 (fun y H2=>r x y H2 Q) E) E
def dUn (r:V->Hp->VK->Prop) (a:DE):DE:=fun σ H Q E=>a σ H (fun x H1=>r x H1 Q) E
def Eb (r r':R2) (a b c:DE):DE:=fun σ H Q E=>a σ H (fun x H1=>b σ H1 (fun y H2=>r x y H2 fun z H3=>match z with
 | .bl k=>if k=true then c σ H3 (fun w H4=>r' y w H4 Q) E else Q (.bl false) H3
 | _=>False) E) E
def dAnd (a b:DT):DT:=fun σ H Q E=>a σ H (fun k H1=>if k=true then b σ H1 Q E else Q false H1) E
def dOr (a b:DT):DT:=fun σ H Q E=>a σ H (fun k H1=>if k=true then Q true H1 else b σ H1 Q E) E
def dNot (a:DT):DT:=fun σ H Q E=>a σ H (fun k H1=>Q (!k) H1) E
def dIfE (t:DT) (a b:DE):DE:=fun σ H Q E=>t σ H (fun k H1=>if k=true then a σ H1 Q E else b σ H1 Q E) E
def truD (K:PySem.W.Frag) (x:V) (H:Hp) (Q:Bool->Hp->Prop):Prop:=match x with
 | .bl k=>Q k H
 | .non=>Q false H
 | .int i=>Q (i != 0) H
 | .str y=>y.length<=sizeLine/\Q ((y.length:Int) != 0) H
 | .ref p=>∃ k,TruV K (.ref p) H k/\Q k H
 | _=>False
def N8 (K:PySem.W.Frag) (a b:DE):DE:=fun σ H Q E=>a σ H (fun x H1=>truD K x H1 fun k H2=>if k=true then b σ H2 Q E else Q x H2) E
def dOrV (K:PySem.W.Frag) (a b:DE):DE:=fun σ H Q E=>a σ H (fun x H1=>truD K x H1 fun k H2=>if k=true then Q x H2 else b σ H2 Q E) E
def Ev (K:PySem.W.Frag) (a:DE):DE:=fun σ H Q E=>a σ H (fun x H1=>truD K x H1 fun k H2=>Q (.bl (!k)) H2) E
def dTru (K:PySem.W.Frag) (a:DE):DT:=fun σ H Q E=>a σ H (fun x H1=>truD K x H1 Q) E
def dTst (a:DE):DT:=fun σ H Q E=>a σ H (fun x H1=>match x with
 | .bl k=>Q k H1
 | _=>False) E
def dNil:DA:=fun _ H Q _=>Q [] H
def Aa (a:DE) (r:DA):DA:=fun σ H Q E=>a σ H (fun x H1=>r σ H1 (fun xs H2=>Q (x::xs) H2) E) E
def dTup (t:DA):DE:=fun σ H Q E=>t σ H (fun xs H1=>xs.length<=sizeLine /\ ∀ p,H1 p=none->Q (.ref p) (upd H1 p (.tup xs))) E
def dLst (t:DA):DE:=fun σ H Q E=>t σ H (fun xs H1=>xs.length<=sizeLine /\ ∀ p,H1 p=none->Q (.ref p) (upd H1 p (.lst xs))) E
def dFn (r:List V->Hp->VK->EK->Prop) (t:DA):DE:=fun σ H Q E=>t σ H (fun vs H1=>r vs H1 Q E) E
def dMt (r:V->Hp->(Hp->(List V->Hp->Prop)->Prop)->VK->Prop) (o:DE) (t:DA):DE:=fun σ H Q E=>o σ H (fun x H1=>r x H1 (fun H2 R=>t σ H2 R E) Q) E
def Ad:DS:=fun D σ H=>D.nx σ H
def B7:DS:=fun _ _ _=>False
def dSeq (t u:DS):DS:=fun D σ H=>t { D with nx:=u D } σ H
def dRet (e:DE):DS:=fun D σ H=>e σ H D.rt (D.ex σ)
def af0:DS:=fun D _ H=>D.rt .non H
def Eu (e:DE):DS:=fun D σ H=>e σ H (fun _ H1=>D.nx σ H1) (D.ex σ)
def dIf (c:DT) (t u:DS):DS:=fun D σ H=>c σ H (fun b H1=>if b=true then t D σ H1 else u D σ H1) (D.ex σ)
def dBrk:DS:=fun D σ H=>D.bk σ H
def dCnt:DS:=fun D σ H=>D.ct σ H
def dSet (i:Nat) (e:DE):DS:=fun D σ H=>e σ H (fun v H1=>D.nx (σ.set i (some v)) H1) (D.ex σ)
abbrev DG:=TG
def dAsg (e:DE) (g:DG):DS:=fun D σ H=>e σ H (fun v H1=>g v σ H1 D.nx) (D.ex σ)
abbrev DI:=St->Hp->(It->Hp->Prop)->EK->Prop
def ForW (J:It) (g:DG) (tb:DS) (D:Outs) (σ:St) (H:Hp):Prop:=∃ W:Nat->Nat->St->Hp->Prop,(∃ m,W 0 m σ H) /\ ∀ i m σ H,W i m σ H ->
 (J.stop i H/\D.nx σ H)\/(J.go i H /\ ∃ N:St->Hp->Prop,(∀ σ' H',N σ' H' -> ∃ m',m'<m/\W (i+1) m' σ' H') /\ ∀ x H',J.yld i H x H'->g x σ H' (fun σ2 H2=>tb { D with nx:=N,ct:=N,bk:=D.nx } σ2 H2))
def Thaw (H0 H:Hp) (P:Hp->Prop):Prop:=P H \/ ∃ p o kvs,H0 p=some (.dK kvs)/\H p=some (.frz o (.dK kvs))/\P (upd H p (.dK kvs))
def dFor (wi:DI) (g:DG) (tb:DS):DS:=fun D σ H=>wi σ H (fun J H1=>ForW J g tb { D with nx:=fun σ' H'=>Thaw H H' (D.nx σ') } σ H1) (D.ex σ)
def CmpW (J:It) (g:DG) (tc:DT) (te:DE) (D:Addr) (R:Hp->Prop) (σ:St) (H:Hp) (E:EK):Prop:=
 ∃ W:Nat->Nat->St->Hp->Prop,(∃ m,W 0 m σ H) /\ ∀ i m σ' H',W i m σ' H' ->
  (J.stop i H'/\R H')\/(J.go i H' /\ ∃ N:St->Hp->Prop,(∀ σ2 H2,N σ2 H2 -> ∃ m',m'<m/\W (i+1) m' σ2 H2) /\ ∀ x H2,J.yld i H' x H2->g x σ' H2 (fun σ3 H3=>tc σ3 H3 (fun b H4=>if b=true then
    te σ3 H4 (fun v H5=>∃ ys,H5 D=some (.lst ys)/\ys.length<sizeLine/\N σ3 (upd H5 D (.lst (ys++[v])))) E
   else N σ3 H4) E))
def Bt (srcs:List (Option Nat)) (wi:DI) (g:DG) (tc:DT) (te:DE):DE:=fun σ H Q E=>wi σ H (fun J H1=>∀ D,H1 D=none->CmpW J g tc te D (fun H'=>Q (.ref D) H') (capt srcs σ) (upd H1 D (.lst [])) E) E
def dYes:DT:=fun _ H Q _=>Q true H
def gdN (i:Nat):DG:=fun v σ H Q=>Q (σ.set i (some v)) H
end L2
namespace L2
open PySem PySem.Spec PyProof.Rows PySem.W
section
variable {prog:Program} {w:World} {A:Around} {E:Value->Shared->Prop} {s:Shared} {K:PySem.W.Frag} {x C:Addr} {ox:Obj} {od:Option Obj} {name:Str} {expr:Bool} {Q:Value->Shared->Prop}
theorem We (self:Value):bindSpecial (.builtin "BaseException.__getattribute__") self=pure (.builtin "BaseException.__getattribute__", [self]):=by
 have hop:withoutEnding? "BaseException.__getattribute__" "#opaque" = none:=by decide +kernel
 have hdat:withoutEnding? "BaseException.__getattribute__" "#data" = none:=by decide +kernel
 have hk:builtinKind "BaseException.__getattribute__" = some .slot:=by decide +kernel
 simp only [bindSpecial,typeOf,builtinType,hop,hdat,hk];rfl
end
end L2
namespace L2
open PySem PySem.Spec PyProof.Rows PySem.W Builtin Builtin.ObjectAttr
def A9:List Value->Bool
 | [.type a,.type b,.type c,.type d]=>a == "ValueError" && b == "Exception" && c == "BaseException" && d == "object"
 | .ref _::r=>A9 r
 | _=>false
def valTail:List Value:=[.type "ValueError", .type "Exception", .type "BaseException", .type "object"]
theorem Ec:∀ {l:List Value},A9 l=true -> ∃ rs:List Addr,l=rs.map Value.ref++valTail
 | [.type a,.type b,.type c,.type d],e=>by
  have e:(a == "ValueError" && b == "Exception" && c == "BaseException" && d == "object")=true:=e
  simp only [Bool.and_eq_true,beq_iff_eq] at e
  obtain⟨⟨⟨rfl,rfl⟩,rfl⟩,rfl⟩:=e
  exact⟨[],rfl⟩
 | .ref a::r,e=>by
  have e:A9 r=true:=by cases r <;> first|exact e|cases e
  obtain⟨rs,h⟩:=Ec e
  exact⟨a::rs,by rw [h];rfl⟩
theorem Ze (rs:List Addr) {T:String} (h:valTail.contains (.type T)=true):(rs.map Value.ref++valTail).contains (.type T)=true:=by
 induction rs with
 | nil=>exact h
 | cons a r ih=>rw [List.map_cons,List.cons_append,List.contains_cons,ih,Bool.or_true]
section
variable {prog:Program} {w:World} {A:Around} {s:Shared} {K:PySem.W.Frag} {x C:Addr} {R:Result->Shared->Prop}
end
section
variable {prog:Program} {w:World} {A:Around} {E:Value->Shared->Prop} {s:Shared} {K:PySem.W.Frag} {x dx C f:Addr} {mA:Str->Option Value} {name:Str} {v:Value} {vs:Array Value}
end
end L2
namespace L2
open PySem PySem.Spec PySem.W Builtin Builtin.ObjectAttr
open Sem (wp)
structure ECls (K:PySem.W.Frag) (C:Addr):Prop where
 obj:∃ nm q N bs bm hdct sn sub ab col dd k0 k1 k2 k3 k5,K.lookup C=some (excClassObj nm q C N bs bm hdct sn sub ab col dd k0 k1 k2 k3 k5 "ValueError.__new__")/\A9 bm=true/\hdct=true
 sa:findIn K (.ref C) "__setattr__" = some (some (.builtin "object.__setattr__"))
 ga:findIn K (.ref C) "__getattribute__" = some (some (.builtin "BaseException.__getattribute__"))
 gt:findIn K (.ref C) "__getattr__" = some none
 ca:findIn K (.ref C) "__class__" = some (some (.builtin "object.__class__"))
 hn:specialIn K (.builtin "object.__class__") "__get__" = some (some (.builtin "getset_descriptor.__get__"))
 htk:takesIn K (.builtin "object.__class__")=some true
theorem Bm {bm:List Value} (h:A9 bm=true) {T:String} {b:Bool} (hb:valTail.contains (.type T)=b):bm.contains (.type T)=b:=by
 obtain⟨rs,rfl⟩:=Ec h
 induction rs with
 | nil=>exact hb
 | cons a r ih=>
  have h':A9 (r.map Value.ref++valTail)=true:=by
   cases r <;> exact h
  rw [List.map_cons,List.cons_append,List.contains_cons,ih h']
  rfl
section
variable {M:Model} {A:Around} {E:Value->Shared->Prop} {h:Heap} {g:Array GenState} {d:Drawn} {t:Nat} {os:OsState}
variable {nm q:Str} {C N:Addr} {bs bm:List Value} {hdct:Bool} {sn:List Str} {sub:List Value} {ab:Bool} {col:Option Bool} {dd:Option Addr} {k0 k1 k2 k3 k5:Option Value}
theorem Gq (T:A9 bm=true) {rest:List Value} {Q:Unit->Shared->Prop} (hC:h.get? C=some (excClassObj nm q C N bs bm hdct sn sub ab col dd k0 k1 k2 k3 k5 "ValueError.__new__"))
  (hq:Q () ⟨h,g,d,t,os⟩):wpAny M A (checkBuiltinCall "ValueError.__new__" ⟨.ref C::rest,[]⟩) Q E ⟨h,g,d,t,os⟩:=by
 have F:=PySem.F.excBase_ValueError
 have hcont:(Value.ref C::bm).contains (.type "ValueError")=true:=by rw [List.contains_cons,Bm T (show valTail.contains (.type "ValueError")=true by decide +kernel),Bool.or_true]
 have hstar:=F.noStar
 simp only [checkBuiltinCall,F.newKind,F.newSplit,F.newRow]
 repeat (first|refine wpAny_loadPart_at hC ?_|(refine wpAny_isSubtype_exc hC ?_;rw [hcont])|refine wpAny_staticBase_exc hC ?_|refine wpAny_madeBy_exc hC ?_|simp only [bne_self_eq_false,Bool.false_eq_true,if_false] | wp_step)
 exact hq
end
section
variable {prog:Program} {w:World} {A:Around} {R:Result->Shared->Prop} {h:Heap} {g:Array GenState} {d:Drawn} {t:Nat} {os:OsState}
variable {nm q:Str} {C N:Addr} {bs bm:List Value} {hdct:Bool} {sn:List Str} {sub:List Value} {ab:Bool} {col:Option Bool} {dd:Option Addr} {k0 k1 k2 k3 k5:Option Value}
theorem F8 (T:A9 bm=true) {rest:List Value} (hC:h.get? C=some (excClassObj nm q C N bs bm hdct sn sub ab col dd k0 k1 k2 k3 k5 "ValueError.__new__"))
  (hq:R (.ok (.ret (.ref (h.objs.size+1)))) ⟨(h.push { cls:=.type "tuple", data:=.seq rest.toArray }).push
   {cls:=.ref C,data:=.fields #[.ref h.objs.size,.none,.none,.none,.bool false,.none] },g,d,t,os⟩) (hrest:rest.length<=sizeLine) :
  codeAny (model prog w) A (.builtin "ValueError.__new__" ⟨.ref C::rest,[]⟩) R ⟨h,g,d,t,os⟩:=by
 have F:=PySem.F.excBase_ValueError
 have hends:=F.ends
 have hcB:(Value.ref C::bm).contains (.type "ValueError")=true:=by rw [List.contains_cons,Bm T (show valTail.contains (.type "ValueError")=true by decide +kernel),Bool.or_true]
 have hcA:(Value.ref C::bm).contains (.type "AttributeError")=false:=by rw [List.contains_cons,Bm T (show valTail.contains (.type "AttributeError")=false by decide +kernel)];rfl
 have hcN:(Value.ref C::bm).contains (.type "NameError")=false:=by rw [List.contains_cons,Bm T (show valTail.contains (.type "NameError")=false by decide +kernel)];rfl
 refine codeAny_builtinAt F.entry ?_
 unfold Builtin.«BaseException.__new__»
 refine wpAt_bind ?_
 show wpAt _ _ _ (stack >>= _) _ _ _
 refine wpAt_bind (wpAt_stack fun p below=>wpAt_of_wpAny ?_)
 wp_walk
 refine wpAt_of_wpAny ?_
 rw [F.owner]
 repeat (first|with_reducible refine wpAny_madeHere_exc F.canon hC ?_|with_reducible refine wpAny_loadPart_at hC ?_|(with_reducible refine wpAny_isSubtype_exc hC ?_;first|rw [hcB] | rw [hcA] | rw [hcN])|wp_step)
 show R _ _
 rw [Heap.size_push]
 exact hq
end
end L2
namespace L2
open PySem PySem.Spec PySem.W Builtin Builtin.ObjectAttr
open Sem (wp)
section
variable {prog:Program} {w:World} {A:Around} {E:Value->Shared->Prop} {h:Heap} {g:Array GenState} {d:Drawn} {t:Nat} {os:OsState}
variable {nm q:Str} {C N f:Addr} {bs bm:List Value} {hdct:Bool} {sn:List Str} {sub:List Value} {ab:Bool} {col:Option Bool} {dd:Option Addr} {k0 k1 k2 k3 k5:Option Value}
abbrev Id (h:Heap) (C:Addr) (rest:List Value):Heap:=(h.push { cls:=.type "tuple", data:=.seq rest.toArray }).push { cls:=.ref C,data:=.fields #[.ref h.objs.size,.none,.none,.none,.bool false,.none] }
theorem Fv (T:A9 bm=true) {rest:List Value} {Q:Fin->Shared->Prop}
  (hC:h.get? C=some (excClassObj nm q C N bs bm hdct sn sub ab col dd k0 k1 k2 k3 k5 "ValueError.__new__"))
  (hi:Looks (model prog w) h (typeLookup (.ref C) "__init__") (some (.builtin "ValueError.__init__")))
  (hq:∀ h' e,Heap.MadeExcOf h h' e (.ref C) rest->e=h.objs.size+1->Q (.done (.ret (.ref e))) ⟨h',g,d,t,os⟩) (hrest:rest.length<=sizeLine) :
  wpAny (model prog w) A (Builtin.«type.__call__» ⟨.ref C::rest,[]⟩) Q E ⟨h,g,d,t,os⟩:=by
 have F:=PySem.F.excBase_ValueError
 repeat (first|with_reducible refine wpAny_loadPart_at hC ?_|with_reducible refine wpAny_madeBy_exc hC ?_|wp_step)
 refine codeAny_call_builtin_code (Code.quiet_builtin _ F.quiet) (Gq T hC ?_)
 refine F8 T hC ?_ hrest
 show wpAny _ _ _ _ _ _
 have kp:∀ b o,h.get? b=some o->(Id h C rest).get? b=some o:=fun b o e=>Heap.get?_push_of_some _ (Heap.get?_push_of_some _ e)
 have hC₁:=kp _ _ hC
 have hget:(Id h C rest).get? (h.objs.size+1)=some { cls:=.ref C,data:=.fields #[.ref h.objs.size,.none,.none,.none,.bool false,.none] }:=by heap_get
 have hcC:(Value.ref C::bm).contains (.ref C)=true:=by simp
 have hcB:(Value.ref C::bm).contains (.type "ValueError")=true:=by rw [List.contains_cons,Bm T (show valTail.contains (.type "ValueError")=true by decide +kernel),Bool.or_true]
 unfold isInstance
 repeat (first|with_reducible refine wpAny_loadPart_at hget ?_|(with_reducible refine wpAny_isSubtype_exc hC₁ ?_;rw [hcC])|wp_step)
 show wpAny _ _ (typeLookup (.ref C) _) _ _ _
 refine (hi.keeps kp).at ?_
 refine wpAny_holding (wpAny_bind (wpAny_of_eq (F.init.bind _) ?_))
 have chk:∀ {Q':Unit->Shared->Prop} {E':Value->Shared->Prop} {A':Around},Q' () ⟨Id h C rest,g,d,t,os⟩->wpAny (model prog w) A' (checkBuiltinCall "ValueError.__init__" ⟨.ref (h.objs.size+1)::rest,[]⟩) Q' E' ⟨Id h C rest,g,d,t,os⟩:=fun {Q' E' A'} hq'=>by
  have hshort:=F.noStar
  simp only [checkBuiltinCall,F.initKind,F.initSplit,F.initRow]
  repeat (first|with_reducible refine wpAny_loadPart_at hget ?_|with_reducible refine wpAny_loadPart_at hC₁ ?_|(with_reducible refine wpAny_isSubtype_exc hC₁ ?_;rw [hcB])|wp_step)
  refine wpAny_onRaise ?_
  rw [show ∀ (a b:String) (n:Nat),Bind.check ⟨.positional, "*", "ValueError", .self,[⟨"args", .varPos,false⟩]⟩ a b n (List.map (fun x=>x.fst) ({ pos:=Value.ref (h.objs.size+1)::rest }:Args).kw)=pure () from
   fun a b n=>check_star_args _ _ _ _ _ _]
  exact wpAny_pure hq'
 refine wpAny_bind (wpAny_call (codeAny_call_builtin F.init.plain F.initEntry (chk ?_)))
 wp_walk
 refine hq _ _ ⟨fun b o hb=>?_,Heap.get?_none_of_le (Nat.le_succ _),h.objs.size+2,?_,Heap.get?_none_of_le (by omega),?_⟩ rfl
 ·rw [Heap.get?_update_other _ _ (Nat.ne_of_gt (Nat.lt_succ_of_lt (Heap.lt_size hb)))]
  exact Heap.get?_push_of_some _ (Heap.get?_push_of_some _ (Heap.get?_push_of_some _ hb))
 ·rw [Heap.get?_update_self _ (Heap.get?_push_of_some _ hget) rfl]
  simp only [Heap.size_push]
  rfl
 ·rw [Heap.get?_update_other _ _ (show h.objs.size+1≠h.objs.size+2 by omega)]
  exact Heap.get?_push_at (by simp only [Heap.size_push]) rfl
theorem Ux (T:A9 bm=true) {rest:List Value} {R:Result->Shared->Prop}
  (hC:h.get? C=some (excClassObj nm q C N bs bm hdct sn sub ab col dd k0 k1 k2 k3 k5 "ValueError.__new__"))
  (hi:Looks (model prog w) h (typeLookup (.ref C) "__init__") (some (.builtin "ValueError.__init__")))
  (hq:∀ h' e,Heap.MadeExcOf h h' e (.ref C) rest->e=h.objs.size+1->R (.ok (.ret (.ref e))) ⟨h',g,d,t,os⟩) (hrest:rest.length<=sizeLine) :
  codeAny (model prog w) A (.call (.ref C) ⟨rest,[]⟩) R ⟨h,g,d,t,os⟩:=by
 have f1:=tc_lookup
 have f2:=tc_bind (.ref C)
 have hT:(⟨h,g,d,t,os⟩:Shared).TypeIs (.ref C) "type" := ⟨_,hC,rfl⟩
 refine codeAny_of_tree ?_
 show wpAny _ _ (callAny (.ref C) _) _ _ _
 repeat (any_goals (first|assumption|with_reducible refine wpAny_loadPart_at hC ?_|wp_step))
 refine⟨rfl,?_⟩
 exact codeAny_call_builtin_at (Code.quiet_builtin _ (by decide +kernel)) entry_typeCall (wpAny_check_type_call_sub hC (Fv T hC hi hq hrest))
end
end L2
namespace L2
open PySem PySem.Spec PySem.W PyProof.Rows
theorem ECls.cls {K:PySem.W.Frag} {C:Addr} (c:ECls K C):∃ cd,clsIn K C=some cd/\A9 cd.mro=true/\cd.hasDict=true:=by
 obtain⟨nm,q,N,bs,bm,hdct,sn,sub,ab,col,dd,k0,k1,k2,k3,k5,hl,ht,hd⟩:=c.obj
 refine⟨_,by unfold clsIn;rw [hl],?_,hd⟩
 obtain⟨rs,e⟩:=Ec ht
 show A9 (Value.ref C::bm)=true
 rw [e]
 clear e
 show A9 (List.map Value.ref (C::rs)++valTail)=true
 have:∀ l:List Addr,A9 (List.map Value.ref l++valTail)=true:=fun l=>by
  induction l with
  | nil=>decide +kernel
  | cons a r ih=>cases r <;> exact ih
 exact this _
theorem ECls.sub {K:PySem.W.Frag} {C:Addr} (c:ECls K C) {T:String} (h:valTail.contains (.type T)=true):mroIn K C (.type T)=some true:=by
 obtain⟨cd,h1,h2,_⟩:=c.cls
 obtain⟨rs,e⟩:=Ec h2
 unfold mroIn
 rw [h1,Option.bind_some,e,Ze rs h,if_neg]
 cases rs <;> exact Bool.false_ne_true
section
variable {prog:Program} {w:World} {A:Around} {E:Value->Shared->Prop} {s:Shared} {K:PySem.W.Frag} {x C:Addr} {ox:Obj} {od:Option Obj} {name:Str}
theorem W5 {g a v:Value} {Q:Option Value->Shared->Prop} (X:K.In s.heap) (I:PySem.W.InstAt s.heap x ox C od) (hga:PySem.W.findIn K (.ref C) "__getattribute__" = some (some (.builtin "BaseException.__getattribute__"))) (hgt:PySem.W.findIn K (.ref C) "__getattr__" = some none)
  (hB:PySem.W.mroIn K C (.type "BaseException")=some true) (hf:PySem.W.findObj K C od name=some (.bind g a)) (hh:PySem.W.handedIn v=true)
  (h:∀ {A':Around} {R:Result->Shared->Prop},R (.ok (.ret v)) { s with toks:=s.toks+1 }->codeAny (model prog w) A' (.call g ⟨[a,.ref x,.ref C],[]⟩) R { s with toks:=s.toks+1 }) (hq:Q (some v) { s with toks:=s.toks+1 }) :
  wpAny (model prog w) A (getAttr? (.ref x) name) Q E s:=by
 obtain⟨hp,gg,d,t,os⟩:=s
 have L0:=I.type (M:=model prog w)
 have L1:=PySem.W.looks_findIn (M:=model prog w) X hga
 have L2:=PySem.W.looks_findIn (M:=model prog w) X hgt
 have L3:=PySem.W.looks_find (M:=model prog w) X I hf
 have L4:=PySem.W.looks_mroIn (M:=model prog w) X hB
 unfold getAttr? getAttrBy? getAttrBy
 refine wpAny_bind (wpAny_mkText (wpAny_bind (wpAny_attempt (wpAny_holding (wpAny_bind (L0.at (wpAny_bind (L1.at ?_))))))))
 have hx2:(Value.builtin "BaseException.__getattribute__" == Value.builtin "object.__getattribute__")=false:=by decide +kernel
 have hx1:(onTheHeap (Value.ref C)&&Value.builtin "BaseException.__getattribute__" == Value.builtin "object.__getattribute__")=false:=by rw [hx2];rfl
 dsimp only
 rw [hx1,if_neg Bool.false_ne_true]
 unfold getAttrByItsOwn
 refine wpAny_bind (show wpAny _ _ (typeLookup (.ref C) "__getattr__") _ _ _ from L2.at ?_)
 refine wpAny_bind (wpAny_attempt (wpAny_holding ?_))
 have hx0:(false&&onTheHeap (Value.builtin "BaseException.__getattribute__"))=false:=rfl
 unfold callGetattribute
 rw [hx0,if_neg Bool.false_ne_true]
 unfold boundAndCalled
 rw [We]
 refine wpAny_bind (wpAny_pure ?_)
 refine wpAny_call (codeAny_call_builtin (by decide +kernel) F.entry_bexc_ga (check_slot (i := "BaseException.__getattribute__") (owner := "BaseException") (n := "__getattribute__") (by decide +kernel) (by decide +kernel) (L0.andThen L4) (F.args_bexc_ga _ _) ?_))
 unfold Builtin.«object.__getattribute__»
 refine wpAny_bind (wpAny_pure (wpAny_bind (wpAny_pure (wpAny_bind (L0.at (wpAny_bind (L3.at ?_)))))))
 refine wpAny_bind (wpAny_holding (wpAny_call (h ?_)))
 refine wpAny_pure ?_
 show wpAny _ _ (handedOut v) _ _ _
 rw [PySem.W.handedOut_of hh]
 exact wpAny_pure (wpAny_pure hq)
theorem Kr {a g:Value} (hc:(clsIn K C).isSome=true) (ha:findIn K (.ref C) name=some (some a)) (hg:specialIn K a "__get__" = some (some g)) (ht:takesIn K a=some true):findObj K C od name=some (.bind g a):=by
 obtain⟨cd,hc⟩:=Option.isSome_iff_exists.mp hc
 unfold findObj
 rw [hc,Option.bind_some,ha,Option.bind_some]
 simp [hg,ht]
theorem Uj {Q:Option Value->Shared->Prop} (c:ECls K C) (X:K.In s.heap) (I:InstAt s.heap x ox C od) (h:Q (some (.ref C)) { s with toks:=s.toks+1 }):wpAny (model prog w) A (getAttr? (.ref x) "__class__") Q E s:=by
 have hf:findObj K C od "__class__" = some (.bind (.builtin "getset_descriptor.__get__") (.builtin "object.__class__")):=Kr (by obtain⟨cd,hc,_⟩:=c.cls;rw [hc];rfl) c.ca c.hn c.htk
 exact W5 (v:=.ref C) X I c.ga c.gt (c.sub (by decide +kernel)) hf rfl (fun q=>class_get (s:={ s with toks:=s.toks+1 }) (ox:=ox) (od:=od) X I (c.sub (by decide +kernel)) q) h
end
theorem Xd {K:PySem.W.Frag} {x D:Addr} (c:ECls K D):KitX K (.ref x) (.ref D) (fun h=>∃ ox od,InstAt h x ox D od) where
 ty:=fun _ _ _ ⟨_,_,I⟩=>I.type
 it:=fun _ _ X _=>by
  obtain⟨cdD,hcD,_⟩:=c.cls
  unfold clsIn at hcD
  split at hcD
  ·rename_i c' d' cd' sl' ho
   intro A' Q' E' s' k q
   unfold isType loadHead
   exact wpAny_bind (wpAny_loadPart (k _ _ (X _ _ ho)) (wpAny_pure q))
  ·cases hcD
 ne:=fun h tp dd its n sl X htp=>by
  obtain⟨cdD,hcD,_⟩:=c.cls
  refine Bool.eq_false_iff.mpr fun q=>?_
  have e:D=tp:=Value.ref.inj (beq_iff_eq.mp q)
  subst e
  unfold clsIn at hcD
  split at hcD
  ·rename_i c' d' cd' sl' ho
   have z:=(X _ _ ho).symm.trans htp
   cases z
  ·cases hcD
 ca:=fun X ⟨_,_,I⟩ k=>Uj c X I k
def ExcAt (H:Hp) (a C:Addr) (fs:List (Str×V)):Prop:=(fs=[]/\(H a=some (excO a C none)\/FlO H a C none)) \/ ∃ dx,dx≠a/\(H a=some (excO a C (some dx))\/FlO H a C (some dx))/\H dx=some (xdO dx fs)
inductive TyX (K:PySem.W.Frag) (H:Hp) (x:V) (t:Value):Prop where
 | of (h:TyOf K H x t)
 | exc {a C:Addr} {fs:List (Str×V)} (ex:x=.ref a) (e:ExcAt H a C fs) (c:ECls K C) (et:t=.ref C)
 | sqT {a:Addr} {xs:List V} (ex:x=.ref a) (e:SqT K H a xs) (et:t=.type "tuple")
 | sqL {a:Addr} {xs:List V} (ex:x=.ref a) (e:SqL K H a xs) (et:t=.type "list")
section
variable {X:Cx} {pins:List (Addr×Obj)} {σ:St} {H:Hp} {s:Shared} {A:Around} {E:Value->Shared->Prop} {a C:Addr} {fs:List (Str×V)}
theorem Qh {dx:Option Addr} (I:Inv X pins σ H s) (e:H a=some (excO a C dx)):∃ vs:Array Value,s.heap.get? a=some (Aq C dx vs)/\vs.size=6/\vs[1]? = some .none/\vs[2]? = some .none:=(I.hok a _ e).1
theorem Ww {dx:Option Addr} (I:Inv X pins σ H s) (e:H a=some (flO a C dx)):∃ vs:Array Value,s.heap.get? a=some (Aq C dx vs)/\vs.size=6/\vs[2]? = some .none:=(I.hok a _ e).1
theorem Rw {dx:Option Addr} (I:Inv X pins σ H s) (e:H a=some (excO a C dx)\/FlO H a C dx):∃ vs:Array Value,s.heap.get? a=some (Aq C dx vs)/\vs.size=6:=by
 rcases e with e|e|e
 ·obtain⟨vs,h1,h2,_⟩:=Qh I e;exact⟨vs,h1,h2⟩
 ·obtain⟨vs,h1,h2,_⟩:=Ww I e;exact⟨vs,h1,h2⟩
 ·exact (I.hok a _ e).1
theorem ba1 {dx:Addr} (I:Inv X pins σ H s) (e:H dx=some (xdO dx fs)):fs.length<=1000 /\ ∃ mA,s.heap.Ns1 dx mA/\(∀ f,RelO (fs.lookup f) (mA f))/\PySem.Within mA (fs.map (·.1)):=(I.hok dx _ e).1
theorem ExcAt.inst (I:Inv X pins σ H s) (e:ExcAt H a C fs):∃ vs dx od,InstAt s.heap a (Aq C dx vs) C od/\(∀ o,od=some o -> ∀ name,∃ v,lookIn name o=some v/\RelO (fs.lookup name) v)/\(od=none->fs=[]):=by
 rcases e with ⟨rfl,e⟩|⟨dx,ne,e,ed⟩
 ·obtain⟨vs,h1,_⟩:=Rw I e
  exact⟨vs,none,none,⟨h1,rfl,rfl,True.intro⟩,fun o z=>(nomatch z),fun _=>rfl⟩
 ·obtain⟨vs,h1,_⟩:=Rw I e
  obtain⟨_,mA,hn,hr,_⟩:=ba1 I ed
  obtain⟨od,ho,hl⟩:=Lr hn
  refine⟨vs,some dx,some od,⟨h1,rfl,rfl,ho⟩,fun o z name=>?_,fun z=>nomatch z⟩
  cases z
  exact⟨_,hl name,hr name⟩
theorem Jg {Q:Value->Shared->Prop} {c:Value} {b:Bool} {x:V} {u t:Value} (I:Inv X pins σ H s) (rx:RelV x u) (ty:TyX X.K H x t) (e:PySem.W.kitOne X.K t c=some b) (h:∀ tk,Q (.bool b) { s with toks:=tk }) :
  wpAny (model X.prog X.w) A (call (.builtin "isinstance") [u,c]) Q E s:=by
 cases ty with
 | of ty=>exact Lk I rx ty e h
 | @exc a C fs ex ea cl et=>
  subst ex et
  cases (show u=Value.ref a from rx)
  obtain⟨vs,dx,od,J,_⟩:=ea.inst I
  exact PySem.W.kia_one (Xd cl) I.kIn ⟨_,_,J⟩ e (fun z=>nomatch z) h
 | @sqT a xs ex q et=>
  subst ex et
  cases (show u=Value.ref a from rx)
  obtain⟨_,_,⟨o,h1,h2,_⟩,_⟩:=I.tuple q
  exact PySem.W.kia_one PySem.W.kitx_tuple I.kIn ⟨o,h1,h2⟩ e (fun z=>nomatch z) h
 | @sqL a xs ex q et=>
  subst ex et
  cases (show u=Value.ref a from rx)
  obtain⟨_,_,⟨o,_,h1,h2,_⟩,_⟩:=I.list q
  exact PySem.W.kia_one PySem.W.kitx_list I.kIn ⟨o,h1,h2⟩ e (fun z=>nomatch z) h
theorem Z1 {P:Program} {w:World} {H:Hp} {h:Heap} {dx:Option Addr} {vs:Array Value} (h1:h.get? a=some (Aq C dx vs)) (h2:vs.size=6) (h3:vs[1]? = some .none) (h4:vs[2]? = some .none):ObjOk P w H h a (excO a C dx):=
 ⟨⟨vs,h1,h2,h3,h4⟩,⟨_,h1⟩,fun _ _ ⟨vs',q1,q2⟩ k=>⟨vs',k _ q1,q2⟩⟩
theorem Wv {P:Program} {w:World} {H:Hp} {h:Heap} {dx:Option Addr} {vs:Array Value} (h1:h.get? a=some (Aq C dx vs)) (h2:vs.size=6) (h4:vs[2]? = some .none):ObjOk P w H h a (flO a C dx):=
 ⟨⟨vs,h1,h2,h4⟩,⟨_,h1⟩,fun _ _ ⟨vs',q1,q2⟩ k=>⟨vs',k _ q1,q2⟩⟩
theorem Wu {P:Program} {w:World} {H:Hp} {h:Heap} {dx:Option Addr} {vs:Array Value} (h1:h.get? a=some (Aq C dx vs)) (h2:vs.size=6):ObjOk P w H h a (fcO a C dx):=
 ⟨⟨vs,h1,h2⟩,⟨_,h1⟩,fun _ _ ⟨vs',q1,q2⟩ k=>⟨vs',k _ q1,q2⟩⟩
variable {CX:CXT} {k:Nat} {f:Addr} {fd:FuncData} {ps:List Str} {sp:Sp} {dvs:List V} {ds us:List Value} {vs:List V} {Q:VK}
theorem Q5 (c:ECls X.K C) (hi:findIn X.K (.ref C) "__init__" = some (some (.builtin "ValueError.__init__"))) (I:Inv X pins σ H s) (r:Vals vs us) (hl:vs.length<=1000) (h:∀ a,H a=none->Q (.ref a) (upd H a (excO a C none))) :
  wpAny (model X.prog X.w) X.A (call (.ref C) us) (EP X pins σ Q) X.xe s:=by
 obtain⟨nm,q,N,bs,bm,hdct,sn,sub,ab,col,dd,k0,k1,k2,k3,k5,hC,ht,_⟩:=c.obj
 obtain⟨hh,g,d,t,os⟩:=s
 refine wpAny_call (Ux ht (I.kIn _ _ hC) (looks_findIn I.kIn hi) (fun h' e M ee=>?_) (by rw [<- r.length,sizeLine_eq];omega))
 subst ee
 obtain⟨kp,_,t0,q1,_,_⟩:=M
 refine⟨.ref (hh.objs.size+1),upd H (hh.objs.size+1) (excO (hh.objs.size+1) C none),?_,rfl,h _ (I.hok.fresh (Nat.le_succ _))⟩
 exact I.laid (t':=t) kp (Nat.le_succ _) (Z1 q1 rfl rfl rfl)
end
end L2
namespace L2
open PySem PySem.Spec PyProof.Rows
def Ite (K:PySem.W.Frag) (l:Addr):It:=
  ⟨fun i H=>∃ xs x,SqL K H l xs/\xs[i]? = some x,
   fun i H v H'=>∃ T x,H T=none/\v=.ref T/\(∀ xs,SqL K H l xs->xs[i]? = some x)/\H'=upd H T (.tup [.int i,x]),
   fun i H=>∃ xs,SqL K H l xs/\xs.length<=i⟩
theorem Vv {P:Program} {w:World} {K:PySem.W.Frag} {elts:List Expr} {kt:Nat} {pt:Pos} {e it l:Addr} (ne:e≠it) :
  Turn P w K (.Tuple elts kt pt) (Ite K l) [e,it] e (fun i h=>(∃ old,IsEnum h e it (i:Int) old)/\h.IsListIter it l i) where
 mem:=by simp
 obj:=fun i h st b hb=>by
  obtain⟨⟨old,he⟩,⟨o1,e1,c1,d1⟩⟩:=st
  have hb:b=e\/b=it:=by simpa using hb
  rcases hb with rfl|rfl
  ·exact⟨_,he,fun v q=>nomatch q⟩
  ·exact⟨o1,e1,fun v q=>by rw [d1] at q;cases q⟩
 keep:=fun i h h' st k=>by
  obtain⟨⟨old,he⟩,h1⟩:=st
  exact⟨⟨old,k e (by simp) _ he⟩,h1.at fun o q=>k it (by simp) o q⟩
 item:=by
  intro X hP hw hK hc i pins s σ H E I hf st hg
  subst hP hw hK
  obtain⟨xs,x,q1,hx⟩:=hg
  obtain⟨its1,r1,p1,z1⟩:=I.list q1
  obtain⟨u,hu,ru⟩:=r1.get hx
  obtain⟨⟨old,he⟩,h1⟩:=st
  refine wpAny_pyNext_enum_item he h1 p1.isList (x:=u) (by simpa using hu) ne fun h' a1 a2 a3 a4 hk=>?_
  refine⟨_,rfl,wpAny_letOwnedTupleGo_enum a1 fun h'' hz' hs'=>?_⟩
  have hT:=I.hok.fresh (Nat.le_refl s.heap.objs.size)
  have up':∀ b o,b∉[e,it]->s.heap.get? b=some o->h''.get? b=some o:=fun b o hb q=>by
   have b1:b≠e:=by rintro rfl;exact hb (by simp)
   have b2:b≠it:=by rintro rfl;exact hb (by simp)
   exact hs'.extBut b o b1 (hk b o b1 b2 q)
  have nT:∀ {b o},s.heap.get? b=some o->b≠s.heap.objs.size:=fun q=>Nat.ne_of_lt (Heap.lt_size q)
  have Tnew:h''.get? s.heap.objs.size=some { cls:=.type "tuple", data:=.seq #[.int i s.toks,u] }:=hs'.extBut _ _ (Ne.symm (nT he)) a3
  have I1:Inv X pins σ (upd H s.heap.objs.size (.tup [.int i,x])) { s with heap:=h'',toks:=s.toks+1 }:=
   I.turnedN (t':=s.toks+1) (ch:=[e,it]) (fun b hb=>hf b hb) up' (Nat.le_refl _) ⟨by show 2<=sizeLine;decide,[.int i s.toks,u],.cons ⟨_,rfl⟩ (.cons ru .nil),⟨_,Tnew,rfl,_,rfl⟩⟩
  refine⟨.ref s.heap.objs.size,_,I1,rfl,⟨s.heap.objs.size,x,hT,rfl,fun xs' h'=>by rw [I.list_inj h' q1];exact hx,rfl⟩,⟨⟨_,hz'⟩,a2.at fun o q=>hs'.extBut _ o (Ne.symm ne) q⟩,fun b hb=>?_⟩
  have q:=(hf b hb).1
  rw [Af ?_]
  ·exact q
  ·have hb:b=e\/b=it:=by simpa using hb
   rcases hb with rfl|rfl
   ·exact nT he
   ·obtain⟨_,q,_⟩:=h1;exact nT q
 done:=by
  intro X hP hw hK hc i pins s σ H E I hf st hg
  subst hP hw hK
  obtain⟨xs,q1,hx⟩:=hg
  obtain⟨its1,r1,p1,z1⟩:=I.list q1
  have e1:=r1.length
  obtain⟨⟨old,he⟩,h1⟩:=st
  refine wpAny_pyNext_enum_end (I.ok.hd hc) he h1 p1.isList (by simp;omega) fun h' hk=>⟨rfl,?_⟩
  refine I.turnedL (t':=s.toks) (ch:=[e,it]) (fun b hb=>hf b hb) fun b o hb q=>?_
  have b2:b≠it:=by rintro rfl;exact hb (by simp)
  exact hk b o b2 q
 self:=fun A i s Q E st h=>let ⟨_,he⟩:=st.1;wpAny_pyIter_enum he h
section
variable {X:Cx} {pins:List (Addr×Obj)} {σ σ0:St} {H H0:Hp} {s s0:Shared} {p:Addr} {kvs:List (Key×V)} {o:Obj}
def EpOf (o:Obj) (ep:Nat):Prop:=∃ es,o.data=.dict es ep
theorem Inv.froze (I:Inv X pins σ H s) (h:H p=some (.dK kvs)):∃ ob ep,s.heap.get? p=some ob/\EpOf ob ep/\Inv X pins σ (upd H p (.frz ob (.dK kvs))) s:=by
 have K:=I.hok p _ h
 obtain⟨z,y,vs,r,ob,es,ep,e,c,d,q⟩:=id K
 refine⟨ob,ep,e,⟨es,d⟩,?_⟩
 exact I.write (x:=p) (e:=p) (t':=s.toks) (h':=s.heap) (by rw [h];trivial) (.inl rfl) (fun b u _ q=>q) ⟨ob,e⟩ ⟨e,K⟩
theorem Inv.thaw (I0:Inv X pins σ0 H0 s0) (h0:H0 p=some (.dK kvs)) (I:Inv X pins σ H s) (h:H p=some (.frz o (.dK kvs))):Inv X pins σ (upd H p (.dK kvs)) s:=by
 have ne:∀ b,H b=none->b≠p:=fun b e z=>by rw [z,h] at e;cases e
 have ntup:∀ b xs,H b=some (.tup xs)->b≠p:=fun b xs e z=>by rw [z,h] at e;cases e
 have nown:∀ b c,H b=some (.own c)->b≠p:=fun b c e z=>by rw [z,h] at e;cases e
 refine⟨I.ok,I.os,I.bare,⟨I.base.keep,I.base.slot,fun b ob e n hx=>?_,I.base.there,fun b xs e=>?_,fun b ob u e=>?_,fun b ps e=>?_⟩,I.loc,I.cell,?_,fun x c e=>?_,fun q hq=>?_,fun b u e=>?_,I.len⟩
 ·have q:=I.base.free b ob e n hx
  rw [Af (ne b q)];exact q
 ·have q:=I.base.tups b xs e
  rw [Af (ntup b xs q)];exact q
 ·have q:=I.base.frzs b ob u e
  have n:b≠p:=fun z=>by
   have q0:=I0.base.frzs b ob u e
   rw [z,h0] at q0;cases q0
  rw [Af n];exact q
 ·obtain⟨more,q⟩:=I.base.tbls b ps e
  have n:b≠p:=fun z=>by rw [z,h] at q;cases q
  exact⟨more,by rw [Af n];exact q⟩
 ·rw [Af (ne _ I.free)];exact I.free
 ·have q:=I.freeC x c e
  rw [Af (ne _ q)];exact q
 ·obtain⟨a,b,c⟩:=I.pin q hq
  exact⟨a,by rw [Af (ne _ b)];exact b,c⟩
 ·by_cases z:b=p
  ·subst z
   rw [Ab] at e
   cases e
   exact (I.hok b _ h).2
  ·rw [Af z] at e
   exact (I.hok b u e).stay (fun _ _ _ q=>q) (fun c q=>by rw [Af (nown c b q)];exact q) fun c xs q=>by rw [Af (ntup c xs q)];exact q
theorem Thaw.inv {P:Hp->Prop} (I0:Inv X pins σ0 H0 s0) (I:Inv X pins σ H s) (t:Thaw H0 H P):∃ H',Inv X pins σ H' s/\P H':=by
 rcases t with t|⟨p,o,kvs,h0,h,t⟩
 ·exact⟨H,I,t⟩
 ·exact⟨_,I0.thaw h0 I h,t⟩
theorem Inv.kdict (I:Inv X pins σ H s) (h:H p=some (.frz o (.dK kvs))) {ep:Nat} (he:EpOf o ep):∃ vs,KV kvs vs/\s.heap.DictAt (A0 X.prog X.w) p vs ep/\(p==sysModules)=false:=by
 obtain⟨e1,z,y,vs,r,ob,es,ep',e,c,d,q⟩:=I.hok p _ h
 obtain⟨es',d'⟩:=he
 rw [e1] at e
 cases e
 have d2:=d
 rw [d'] at d2
 cases d2
 exact⟨vs,r,⟨o,_,e1,c,d,q⟩,y⟩
end
def Itd (p:Addr) (o:Obj) (kvs:List (Key×V)):It:=
 ⟨fun i H=>H p=some (.frz o (.dK kvs))/\i<kvs.length,fun i H x H'=>H'=H /\ ∃ k v,kvs[i]? = some (k,v)/\x=kV k,fun i H=>H p=some (.frz o (.dK kvs))/\kvs.length<=i⟩
theorem Xe:∀ {kvs:List (Key×V)} {vs:List (Key×Value)} {i:Nat} {k:Key} {v:V},KV kvs vs->kvs[i]? = some (k,v) -> ∃ u,vs[i]? = some (k,u)/\RelV v u
 | _,_,0,k,v,.cons (b:=q) r _,e=>by
  simp only [List.getElem?_cons_zero,Option.some.injEq] at e
  subst e
  exact⟨q.2,congrArg some (Prod.ext r.1.symm rfl),r.2⟩
 | _,_,i+1,k,v,.cons r t,e=>by
  simp only [List.getElem?_cons_succ] at e ⊢
  exact Xe t e
theorem ag2 {P:Program} {w:World} {k:Key} {u:Value} (h:(A0 P w).is k u=true):RelV (kV k) u:=by
 cases k with
 | inl i=>obtain⟨t,rfl⟩:=Value.isInt_shape (show Value.isInt i u=true from h);exact⟨t,rfl⟩
 | inr z=>obtain⟨t,rfl⟩:=Value.isStrOf_shape (show Value.isStrOf z u=true from h);exact⟨t,rfl⟩
theorem Vu {P:Program} {w:World} {K:PySem.W.Frag} {tg:Expr} (p it:Addr) (o:Obj) (kvs:List (Key×V)) {ep:Nat} (he:EpOf o ep):Turn P w K tg (Itd p o kvs) [it] it (fun i h=>h.IsKeyIter it p i kvs.length ep) where
 mem:=by simp
 obj:=fun i h st b hb=>by
  have e:b=it:=by simpa using hb
  subst e
  obtain⟨o,e,c,d⟩:=st
  exact⟨o,e,fun v z=>by rw [d] at z;cases z⟩
 keep:=fun i h h' st k=>st.at fun o e=>k it (by simp) o e
 item:=by
  intro X hP hw hK hc i pins s σ H E I hf st hg
  subst hP hw hK
  obtain⟨hH,hi⟩:=hg
  obtain⟨vs,rel,hd,hm⟩:=I.kdict hH he
  obtain⟨f0,f1,f2,f3,f4,f5⟩:=hf it (by simp)
  obtain⟨⟨k,v⟩,hx⟩:∃ q,kvs[i]? = some q:=⟨kvs[i],by simp [hi]⟩
  obtain⟨u,hu,_⟩:=Xe rel hx
  have hl:kvs.length=vs.length:=rel.length
  rw [hl] at st
  refine wpAny_pyNext_dict_item st hd hu fun key h' hk st' sb=>?_
  have I1:Inv X pins σ H { s with heap:=h' }:=I.turned (t':=s.toks) (fun b o hb e=>sb.extBut b o hb e) f0 f1 f3 f4 f5
  obtain⟨o1,e,c,d⟩:=id st'
  exact⟨key,rfl,Lc (s:={ s with heap:=h' }) e c d (by decide) ⟨kV k,H,I1,ag2 hk,⟨rfl,k,v,hx,rfl⟩,by rw [hl];exact st',fun b hb=>(hf b hb).1⟩⟩
 done:=by
  intro X hP hw hK hc i pins s σ H E I hf st hg
  subst hP hw hK
  obtain⟨hH,hi⟩:=hg
  obtain⟨vs,rel,hd,hm⟩:=I.kdict hH he
  obtain⟨f0,f1,f2,f3,f4,f5⟩:=hf it (by simp)
  have hl:kvs.length=vs.length:=rel.length
  rw [hl] at st
  exact wpAny_pyNext_dict_end (I.ok.hd hc) st hd (by simp;omega) fun h' eb=>⟨rfl,I.turned (t':=s.toks) (fun b o hb e=>eb b o hb e) f0 f1 f3 f4 f5⟩
 self:=fun _ _ _ _ _ st h=>wpAny_pyIter_keyiter st h
theorem Zz {X:Cx} {tg:Expr} {pins:List (Addr×Obj)} {σ:St} {H:Hp} {s:Shared} {R:It->Hp->Prop} {E:Value->Shared->Prop} {p:Addr} {o:Obj} {kvs:List (Key×V)} (I:Inv X pins σ H s) (h:H p=some (.frz o (.dK kvs)))
  (q:R (Itd p o kvs) H):wpAny (model X.prog X.w) X.A (pyIter (.ref p)) (PIE X pins σ tg R) E s:=by
 have he:∃ ep,EpOf o ep:=by
  obtain⟨e1,z,y,vs,r,ob,es,ep,e,c,d,_⟩:=I.hok p _ h
  rw [e1] at e;cases e
  exact⟨ep,es,d⟩
 obtain⟨ep,he⟩:=he
 obtain⟨vs,rel,hd,hm⟩:=I.kdict h he
 refine wpAny_pyIter_dict hm hd ?_
 refine⟨s.heap.objs.size,[s.heap.objs.size],_,_,H,rfl,I.kept (t':=s.toks) fun b o e=>Heap.get?_push_of_some _ e,Vu p _ o kvs he,⟨_,Heap.get?_push_size _ rfl,rfl,by rw [rel.length];rfl⟩,fun b hb=>?_,q⟩
 have e:b=s.heap.objs.size:=by simpa using hb
 subst e
 exact I.fpOk (Nat.le_refl _) (I.hok.fresh (Nat.le_refl _))
end L2
namespace PySem
theorem Sem.wp_never {α:Type} (M:Model) (Γ:Ctx):∀ (t:Sem α) (p:Pos) (s:Shared),Sem.wp M Γ t (fun _ _ _=>False) (fun _ _ _=>False) p s->False:=by
 intro t
 induction t with
 | pure a=>intro p s h;exact h
 | raise e=>intro p s h;exact h
 | unsupported w=>intro p s h;exact h
 | finish e=>intro p s h;exact h
 | rule tag k ih=>intro p s h;exact ih () p s h
 | «at» q k ih=>intro p s h;exact ih () q s h
 | load a part k ih=>intro p s h;obtain⟨o,_,h⟩:=h;exact ih o p s h
 | update a part f k ih=>intro p s h;exact ih () p _ h.2
 | alloc o k ih=>intro p s h;exact ih _ p _ h
 | loadIfAlive a k ih=>intro p s h;exact ih _ p s h
 | point l k ih=>intro p s h;exact ih () p s h
 | register a k ih=>intro p s h;exact h
 | fresh k ih=>intro p s h;exact ih _ p _ h
 | ask k ih=>intro p s h;exact ih _ p s h
 | choose src n k ih=>intro p s h;exact ih _ p _ h.2
 | os q l k ih=>intro p s h;exact ih _ p _ h
 | call c hd g l k ih=>intro p s h;obtain⟨r,s',_,h⟩:=h;exact ih r p s' h
 | handled own k ih=>intro p s h;exact ih _ p s h
 | newGen c k ih=>intro p s h;exact ih _ p _ h
 | genState g k ih=>intro p s h;obtain⟨st,_,h⟩:=h;exact ih _ p s h
 | resume g r l k ih=>intro p s h;obtain⟨res,s',_,h⟩:=h;exact ih res p s' h
 | yield v g l k ih=>intro p s h;exact h
 | stack k ih=>intro p s h;exact ih _ p s h
 | fork c k ih=>intro p s h;exact h
 | thread k ih=>intro p s h;first|exact ih _ p s h|exact h
 | await a tk d l k ih=>intro p s h;first|exact h|exact ih _ p s h
section
variable {prog:Program} {w:World} {A:Around} {E:Value->Shared->Prop} {s:Shared}
theorem Va {v:Value} {P:Value->Shared->Prop} (h:wpAny (model prog w) A (pyNext v) (fun r s'=>∃ u,r=some u/\P u s') (fun _ _=>False) s):wpAny (model prog w) A (Builtin.SmallTypes.nextOf v) P E s:=by
 intro Γ p hΓ
 have h:=h Γ p hΓ
 unfold pyNext Sem.attempt at h
 unfold Builtin.SmallTypes.nextOf
 rw [Sem.wp_bind',Sem.wp_tryCatch,Sem.wp_bind] at h
 rw [Sem.wp_bind']
 refine Sem.wp_mono _ _ _ (fun o p' s' q=>?_) (fun e p' s' q=>?_) p s h
 ·cases o with
  | none=>exact (show False from q).elim
  | some u=>
   obtain⟨u',e,q⟩:=q
   cases e
   exact q
 ·refine (Sem.wp_never (model prog w) Γ (isInstance e (.type "StopIteration")) p' s' ?_).elim
  have q:Sem.wp (model prog w) Γ (isInstance e (.type "StopIteration") >>= fun b=>if b=true then pure none else throw e) (fun r _ s'=>∃ u,r=some u/\P u s') (fun _ _ _=>False) p' s':=q
  rw [Sem.wp_bind'] at q
  refine Sem.wp_mono _ _ _ (fun b p2 s2 q=>?_) (fun _ _ _ z=>z) p' s' q
  cases b with
  | true=>obtain⟨u,z,_⟩:=q;cases z
  | false=>exact q
variable {κ:Type} [DecidableEq κ] {knd:KeyKind prog w κ} {d it:Addr} {ep i:Nat} {kvs:List (κ×Value)}
theorem Hu {Q:Value->Shared->Prop} (hh:A.handled=none) (hit:s.heap.IsKeyIter it d i kvs.length ep) (hm:s.heap.DictAt knd d kvs ep) (hx:kvs[i]? = none)
  (hE:∀ h' x,Heap.ExtBut it s.heap h'->(∃ o,h'.get? x=some o/\o.cls=.type "StopIteration")->E (.ref x) { s with heap:=h' }):wpAny (model prog w) A (Builtin.SmallTypes.nextOf (.ref it)) Q E s:=by
 have ⟨oi,ei,ci,di⟩:=hit
 have ⟨od,es,ed,_,dd,_,pr,_⟩:=hm
 have size:es.size=kvs.length:=pr.length▸(by simp)
 have past:es.size<=i:=by rw [size];simpa using hx
 have own:Builtin.Dict_items.ownsTuple "dict_keyiterator" = false:=by decide
 have nx:¬ ((i:Int)<0):=by omega
 have noNone:¬ ((Value.ref d==Value.none)=true):=Bool.false_ne_true
 unfold Builtin.SmallTypes.nextOf
 refine wpAny_bind (wpAny_callSpecial?_slot (name:=Str.ofString "__next__") hit.typeIs F.slot_dict_keyiterator_next (wpAny_call_entry F.slot_dict_keyiterator_next hit.typeIs F.entry_dict_keyiterator_next ?_ (F.args_dict_keyiterator_next_1 _)))
 refine wpAny_bind (wpAny_pure (wpAny_bind (wpAny_bind ?_)))
 first|refine wpAny_bind (wpAny_typeNameOfWhole_keyiter hit.typeIs (wpAny_pure (wpAny_bind (wpAny_fieldsOf ei di ?_))))|refine wpAny_bind (wpAny_typeNameOf_keyiter hit.typeIs (wpAny_pure (wpAny_bind (wpAny_fieldsOf ei di ?_))))
 simp only [own,Bool.false_eq_true,if_false]
 show wpAny _ _ (if (Value.ref d==Value.none)=true then _ else _) _ _ s
 rw [if_neg noNone]
 refine wpAny_bind (wpAny_pure (wpAny_bind (wpAny_dictEntries ed dd ?_)))
 rw [if_neg (show ¬ _ by rw [size];simp)]
 refine wpAny_bind (wpAny_pure (wpAny_bind (wpAny_dictEpoch ed dd ?_)))
 rw [if_neg (show ¬ _ by simp)]
 refine wpAny_pure ?_
 simp only [nx,if_false,Int.toNat_natCast,Array.getElem?_eq_none past]
 refine wpAny_bind ?_
 first|refine wpAny_bind (wpAny_typeNameOfWhole_keyiter hit.typeIs (wpAny_pure ?_))|refine wpAny_bind (wpAny_typeNameOf_keyiter hit.typeIs (wpAny_pure ?_))
 show wpAny _ _ (setField (.ref it) 0 .none >>= fun _=>newExc (.type "StopIteration") [] >>= _) _ _ s
 refine wpAny_bind (wpAny_setField ei di (by simp) (wpAny_bind ?_))
 simp only [newExc,newTuple]
 refine wpAny_bind (wpAny_newObj_type (wpAny_bind (m:=firstArgMember _ _) (wpAny_of_eq (a:=Value.none) (by first|rfl|(simp only [firstArgMember];rfl)) (wpAny_newObj_type ?_ (by size_fits)))) (by size_fits))
 simp only [raiseNew]
 refine wpAny_bind (wpAny_handled ?_)
 rw [show A.in1.handled=none from hh]
 refine wpAny_bind (wpAny_pure (wpAny_throw ?_))
 exact hE _ _ (((Heap.SameBut.update ..).extBut.push _).push _) ⟨_,Heap.get?_push_size _ rfl,rfl⟩
theorem G6 {k:κ} {v:Value} {Q:Value->Shared->Prop} (hit:s.heap.IsKeyIter it d i kvs.length ep) (hm:s.heap.DictAt knd d kvs ep) (hx:kvs[i]? = some (k,v))
  (hQ:∀ key h',knd.is k key=true->h'.IsKeyIter it d (i+1) kvs.length ep->Heap.SameBut it s.heap h'->Q key { s with heap:=h' }):wpAny (model prog w) A (Builtin.SmallTypes.nextOf (.ref it)) Q E s:=
 Va (wpAny_pyNext_dict_item hit hm hx fun key h' a b c=>⟨key,rfl,hQ key h' a b c⟩)
theorem Uh {e:Addr} {old:Value} {J:Value->Heap->Prop} {Q:Value->Shared->Prop} (he:IsEnum s.heap e it i old) (hne:e≠it)
  (nx:∀ (A:Around) (P:Value->Shared->Prop) (E:Value->Shared->Prop),(∀ x h1,J x h1->Heap.SameBut it s.heap h1->P x { s with heap:=h1 })->wpAny (model prog w) A (Builtin.SmallTypes.nextOf (.ref it)) P E s)
  (hJ:∀ x h1 h2,J x h1->(∀ o,h1.get? it=some o->h2.get? it=some o)->J x h2)
  (hQ:∀ x h',IsEnumOut h' e it ((i:Int)+1) x s.heap.objs.size->J x h'->h'.get? s.heap.objs.size=some { cls:=.type "tuple", data:=.seq #[.int i s.toks,x] } ->
   (∀ b o,b≠e->b≠it->s.heap.get? b=some o->h'.get? b=some o)->Q (.ref s.heap.objs.size) { s with heap:=h',toks:=s.toks+1 }) :
  wpAny (model prog w) A (Builtin.«enumerate.__next__» ⟨[.ref e],[]⟩) (fun fin s'=>∃ v,fin=.done (.ret v)/\Q v s') E s:=by
 have lt:e<s.heap.objs.size:=Heap.lt_size he
 obtain⟨h0,gs,dr,tk,ops⟩:=s
 show wpAny _ _ (field (.ref e) 2 >>= fun z=>Builtin.SmallTypes.nextOf z >>= _) _ _ _
 refine wpAny_bind (wpAny_field he rfl (x:=.ref it) rfl (wpAny_bind (nx _ _ _ fun x h1 j1 s1=>?_)))
 have k1:Heap.SameBut it h0 h1:=s1
 have e1:IsEnum h1 e it i old:=(k1.2 e hne).trans he
 refine wpAny_bind (wpAny_field (s:=⟨h1,gs,dr,tk,ops⟩) e1 rfl (x:=rawInt i) rfl ?_)
 refine wpAny_bind (m:=field (.ref e) 4) (wpAny_field (s:=⟨h1,gs,dr,tk,ops⟩) e1 rfl (x:=.none) rfl ?_)
 show wpAny _ _ (mkInt i >>= _) _ _ ⟨h1,gs,dr,tk,ops⟩
 refine wpAny_bind (wpAny_mkInt ?_)
 show wpAny _ _ (setField (.ref e) 3 (rawInt ((i:Int)+1)) >>= fun _=>setField (.ref e) 4 .none >>= _) _ _ ⟨h1,gs,dr,tk+1,ops⟩
 refine wpAny_bind (wpAny_setField_rec e1 (by simp) fun h2 e2 s2=>wpAny_bind (wpAny_setField_rec (s:=⟨h2,gs,dr,tk+1,ops⟩) (show IsEnum h2 e it ((i:Int)+1) old from e2) (by simp) fun h3 e3 s3=>?_))
 have k2:Heap.SameBut e h1 h2:=s2
 have k3:Heap.SameBut e h2 h3:=s3
 have e3:IsEnum h3 e it ((i:Int)+1) old:=e3
 show wpAny _ _ (newTuple [.int i tk,x] >>= _) _ _ ⟨h3,gs,dr,tk+1,ops⟩
 refine wpAny_bind (wpAny_newTuple ?_)
 have size:h3.objs.size=h0.objs.size:=by rw [k3.1,k2.1,k1.1]
 have up:∃ h4:Heap,h4=h3.push { cls:=.type "tuple", data:=.seq #[.int i tk,x] }:=⟨_,rfl⟩
 obtain⟨h4,eh4⟩:=up
 rw [<- eh4]
 have e4:IsEnum h4 e it ((i:Int)+1) old:=by rw [eh4];exact Heap.get?_push_of_some _ e3
 have t4:h4.get? h0.objs.size=some { cls:=.type "tuple", data:=.seq #[.int i tk,x] }:=by rw [eh4,<- size];exact Heap.get?_push_size _ rfl
 have j4:J x h4:=hJ x h1 h4 j1 fun o q=>by rw [eh4];exact Heap.get?_push_of_some _ (k3.extBut it o (Ne.symm hne) (k2.extBut it o (Ne.symm hne) q))
 have all4:∀ b o,b≠e->b≠it->h0.get? b=some o->h4.get? b=some o:=fun b o b1 b2 q=>by
  rw [eh4]
  exact Heap.get?_push_of_some _ (k3.extBut b o b1 (k2.extBut b o b1 (k1.extBut b o b2 q)))
 show wpAny _ _ (Builtin.SmallTypes.ownedTupleIsFree (.ref e) >>= _) _ _ ⟨h4,gs,dr,tk+1,ops⟩
 rw [size]
 refine wpAny_bind ?_
 unfold Builtin.SmallTypes.ownedTupleIsFree
 refine wpAny_bind (wpAny_field e4 rfl (x:=.none) rfl (wpAny_pure ?_))
 simp only [if_true]
 refine wpAny_bind (wpAny_rule (wpAny_bind (wpAny_field e4 rfl (x:=old) rfl (wpAny_bind (wpAny_setField_rec e4 (by simp) fun h5 e5 s5=>?_)))))
 have e5:IsEnum h5 e it ((i:Int)+1) x:=e5
 have k5:Heap.SameBut e h4 h5:=s5
 show wpAny _ _ (Builtin.SmallTypes.ownedTupleHandOut (.ref e) (.ref h0.objs.size) >>= _) _ _ ⟨h5,gs,dr,tk+1,ops⟩
 refine wpAny_bind ?_
 unfold Builtin.SmallTypes.ownedTupleHandOut
 refine wpAny_bind (wpAny_setField_rec e5 (by simp) fun h6 e6 s6=>wpAny_setField_rec (s:=⟨h6,gs,dr,tk+1,ops⟩) (show IsEnumOut h6 e it ((i:Int)+1) x h0.objs.size from e6) (by simp) fun h7 e7 s7=>?_)
 have k6:Heap.SameBut e h5 h6:=s6
 have k7:Heap.SameBut e h6 h7:=s7
 have on:∀ b o,b≠e->h4.get? b=some o->h7.get? b=some o:=fun b o n q=>k7.extBut b o n (k6.extBut b o n (k5.extBut b o n q))
 exact wpAny_bind (wpAny_letGo (wpAny_pure ⟨_,rfl,hQ x h7 e7 (hJ x h4 h7 j4 fun o q=>on it o (Ne.symm hne) q) (on _ _ (Nat.ne_of_gt lt) t4) fun b o b1 b2 q=>on b o b1 (all4 b o b1 b2 q)⟩))
theorem Jv {e:Addr} {old:Value} {J:Value->Heap->Prop} {Q:Option Value->Shared->Prop} (he:IsEnum s.heap e it i old) (hne:e≠it)
  (nx:∀ (A:Around) (P:Value->Shared->Prop) (E:Value->Shared->Prop),(∀ x h1,J x h1->Heap.SameBut it s.heap h1->P x { s with heap:=h1 })->wpAny (model prog w) A (Builtin.SmallTypes.nextOf (.ref it)) P E s)
  (hJ:∀ x h1 h2,J x h1->(∀ o,h1.get? it=some o->h2.get? it=some o)->J x h2)
  (hQ:∀ x h',IsEnumOut h' e it ((i:Int)+1) x s.heap.objs.size->J x h'->h'.get? s.heap.objs.size=some { cls:=.type "tuple", data:=.seq #[.int i s.toks,x] } ->
   (∀ b o,b≠e->b≠it->s.heap.get? b=some o->h'.get? b=some o)->Q (some (.ref s.heap.objs.size)) { s with heap:=h',toks:=s.toks+1 }):wpAny (model prog w) A (pyNext (.ref e)) Q E s:=by
 have ty:s.TypeIs (.ref e) "enumerate" := ⟨_,he,rfl⟩
 unfold pyNext
 exact wpAny_bind (wpAny_attempt (wpAny_callSpecial?_slot (name:=Str.ofString "__next__") ty F.slot_enumerate_next (wpAny_call_entry F.slot_enumerate_next ty F.entry_enumerate_next (Uh he hne nx hJ fun x h' a b c d=>wpAny_pure (hQ x h' a b c d)) (F.args_enumerate_next_1 _))))
theorem Hb {e:Addr} {old:Value} {Q:Option Value->Shared->Prop} (hh:A.handled=none) (he:IsEnum s.heap e it i old) (hit:s.heap.IsKeyIter it d i kvs.length ep) (hm:s.heap.DictAt knd d kvs ep) (hx:kvs[i]? = none)
  (hQ:∀ h',Heap.ExtBut it s.heap h'->Q none { s with heap:=h' }):wpAny (model prog w) A (pyNext (.ref e)) Q E s:=by
 have ty:s.TypeIs (.ref e) "enumerate" := ⟨_,he,rfl⟩
 unfold pyNext
 refine wpAny_bind (wpAny_attempt (wpAny_callSpecial?_slot (name:=Str.ofString "__next__") ty F.slot_enumerate_next (wpAny_call_entry F.slot_enumerate_next ty F.entry_enumerate_next ?_ (F.args_enumerate_next_1 _))))
 show wpAny _ _ (field (.ref e) 2 >>= fun z=>Builtin.SmallTypes.nextOf z >>= _) _ _ _
 refine wpAny_bind (wpAny_field he rfl (x:=.ref it) rfl (wpAny_bind (Hu hh hit hm hx fun h' x hk ⟨o,ho,hc⟩=>?_)))
 exact wpAny_bind (wpAny_isInstance (T := "StopIteration") (b:=true) ⟨o,ho,hc⟩ isSubtype_stop (wpAny_pure (hQ _ hk)))
theorem P5 {Q:Value->Shared->Prop} (hd:(d==sysModules)=false) (hm:s.heap.DictAt knd d kvs ep)
  (h:∀ h',IsEnum h' (s.heap.objs.size+1) s.heap.objs.size 0 .none->h'.IsKeyIter s.heap.objs.size d 0 kvs.length ep->(∀ b o,s.heap.get? b=some o->h'.get? b=some o)->Q (.ref (s.heap.objs.size+1)) { s with heap:=h' }) :
  wpAny (model prog w) A (call (.type "enumerate") [.ref d]) Q E s:=by
 have g:MeetsIn prog w (Builtin.«enumerate.__new__» ⟨[.type "enumerate", .ref d],[]⟩) (fun _ R s=>s.heap.DictAt knd d kvs ep /\
   R (.ok (.ret (.ref (s.heap.objs.size+1)))) { s with heap:=(s.heap.push { cls:=.type "dict_keyiterator", data:=.fields #[.ref d,.int 0 0,.int kvs.length 0,.int ep 0] }).push { cls:=.type "enumerate", data:=.fields #[.none,.bool false,.ref s.heap.objs.size,rawInt 0,.none,.none] } }):=by
  refine .of_wp fun A R s h=>?_
  obtain⟨hp,g,d',tk,os⟩:=s
  obtain⟨hm,h⟩:=h
  have hsub:=sub_enumerate
  obtain⟨o,es,ho,hcl,hdat,q⟩:=id hm
  have hz:(hp.push { cls:=.type "dict_keyiterator", data:=.fields #[.ref d,.int 0 0,.int kvs.length 0,.int ep 0] }).objs.size=hp.objs.size+1:=Heap.size_push ..
  wp_walk using wpAny_pyIter_dict hd hm
  refine wpAny_stack_any fun st=>wpAny_pure ?_
  have h2:R (.ok (.ret (.ref (hp.push { cls:=.type "dict_keyiterator", data:=.fields #[.ref d,.int 0 0,.int kvs.length 0,.int ep 0] }).objs.size))) ⟨(hp.push { cls:=.type "dict_keyiterator", data:=.fields #[.ref d,.int 0 0,.int kvs.length 0,.int ep 0] }).push { cls:=.type "enumerate", data:=.fields #[.none,.bool false,.ref hp.objs.size,rawInt 0,.none,.none] },g,d',tk,os⟩:=by rw [hz];exact h
  split
  ·rename_i c _ _ _ _ _
   cases (c==Value.type "enumerate")
   ·wp_walk using wpAny_pyIter_dict hd hm
    exact⟨_,rfl,h2⟩
   ·wp_walk using wpAny_pyIter_dict hd hm
    exact⟨_,rfl,h2⟩
  ·wp_walk using wpAny_pyIter_dict hd hm
   exact⟨_,rfl,h2⟩
 refine callType_newIn F.called_enumerate (by decide) (F.typeCall_enumerate_1 _) (F.newCall_enumerate_1 _) (fun obj=>F.args_object_init_2 obj _) F.entry_enumerate_new g ⟨hm,?_⟩
 have hz:(s.heap.push { cls:=.type "dict_keyiterator", data:=.fields #[.ref d,.int 0 0,.int kvs.length 0,.int ep 0] }).objs.size=s.heap.objs.size+1:=Heap.size_push ..
 have he:IsEnum ((s.heap.push { cls:=.type "dict_keyiterator", data:=.fields #[.ref d,.int 0 0,.int kvs.length 0,.int ep 0] }).push { cls:=.type "enumerate", data:=.fields #[.none,.bool false,.ref s.heap.objs.size,rawInt 0,.none,.none] }) (s.heap.objs.size+1) s.heap.objs.size 0 .none:=hz▸Heap.get?_push_size _ rfl
 exact⟨⟨_,he,rfl⟩,h _ he ⟨_,Heap.get?_push_of_some _ (Heap.get?_push_size _ rfl),rfl,rfl⟩ fun b o x=>Heap.get?_push_of_some _ (Heap.get?_push_of_some _ x)⟩
end
end PySem
namespace L2
open PySem PySem.Spec PyProof.Rows
def Itde (p:Addr) (o:Obj) (kvs:List (Key×V)):It:=
  ⟨fun i H=>H p=some (.frz o (.dK kvs))/\i<kvs.length,
   fun i H x H'=>∃ T k v,H T=none/\x=.ref T/\kvs[i]? = some (k,v)/\H'=upd H T (.tup [.int i,kV k]),
   fun i H=>H p=some (.frz o (.dK kvs))/\kvs.length<=i⟩
theorem Rc {P:Program} {w:World} {K:PySem.W.Frag} {elts:List Expr} {kt:Nat} {pt:Pos} {e it p:Addr} {o:Obj} {kvs:List (Key×V)} {ep:Nat} (ne:e≠it) (he:EpOf o ep) :
  Turn P w K (.Tuple elts kt pt) (Itde p o kvs) [e,it] e (fun i h=>(∃ old,IsEnum h e it (i:Int) old)/\h.IsKeyIter it p i kvs.length ep) where
 mem:=by simp
 obj:=fun i h st b hb=>by
  obtain⟨⟨old,he⟩,⟨o1,e1,c1,d1⟩⟩:=st
  rcases List.mem_cons.mp hb with rfl|hb
  ·exact⟨_,he,fun v q=>nomatch q⟩
  ·rw [List.mem_singleton.mp hb];exact⟨o1,e1,fun v q=>by rw [d1] at q;cases q⟩
 keep:=fun i h h' st k=>let ⟨⟨old,he⟩,h1⟩:=st;⟨⟨old,k e (by simp) _ he⟩,h1.at fun o q=>k it (by simp) o q⟩
 item:=by
  intro X hP hw hK hc i pins s σ H E I hf st hg
  subst hP hw hK
  obtain⟨hH,hi⟩:=hg
  obtain⟨vs,rel,hd,hm⟩:=I.kdict hH he
  obtain⟨⟨k,v⟩,hx⟩:∃ q,kvs[i]? = some q:=⟨kvs[i],by simp [hi]⟩
  obtain⟨u,hu,_⟩:=Xe rel hx
  have hl:kvs.length=vs.length:=rel.length
  obtain⟨⟨old,en⟩,h1⟩:=st
  rw [hl] at h1
  refine Jv en ne (J:=fun x h=>(A0 X.prog X.w).is k x=true/\h.IsKeyIter it p (i+1) vs.length ep) (fun A P E hQ=>G6 h1 hd hu fun key h' a b c=>hQ key h' ⟨a,b⟩ c) (fun x h1 h2 j k=>⟨j.1,j.2.at k⟩) fun key h' a1 ⟨hk,a2⟩ a3 hk'=>?_
  refine⟨_,rfl,wpAny_letOwnedTupleGo_enum a1 fun h'' hz' hs'=>?_⟩
  have hT:=I.hok.fresh (Nat.le_refl s.heap.objs.size)
  have nT:∀ {b ob},s.heap.get? b=some ob->b≠s.heap.objs.size:=fun q=>Nat.ne_of_lt (Heap.lt_size q)
  have up:∀ b ob,b∉[e,it]->s.heap.get? b=some ob->h''.get? b=some ob:=fun b ob hb q=>by
   have b1:b≠e:=by rintro rfl;exact hb (by simp)
   have b2:b≠it:=by rintro rfl;exact hb (by simp)
   exact hs'.extBut b ob b1 (hk' b ob b1 b2 q)
  have Tnew:h''.get? s.heap.objs.size=some { cls:=.type "tuple", data:=.seq #[.int i s.toks,key] }:=hs'.extBut _ _ (Ne.symm (nT en)) a3
  have I1:Inv X pins σ (upd H s.heap.objs.size (.tup [.int i,kV k])) { s with heap:=h'',toks:=s.toks+1 }:=
   I.turnedN (t':=s.toks+1) (ch:=[e,it]) (fun b hb=>hf b hb) up (Nat.le_refl _) ⟨by show 2<=sizeLine;decide,[.int i s.toks,key],.cons ⟨_,rfl⟩ (.cons (ag2 hk) .nil),⟨_,Tnew,rfl,_,rfl⟩⟩
  refine⟨.ref s.heap.objs.size,_,I1,rfl,⟨s.heap.objs.size,k,v,hT,rfl,hx,rfl⟩,⟨⟨_,hz'⟩,by rw [hl];exact a2.at fun o q=>hs'.extBut _ o (Ne.symm ne) q⟩,fun b hb=>?_⟩
  have q:=(hf b hb).1
  rw [Af ?_]
  ·exact q
  ·rcases List.mem_cons.mp hb with rfl|hb
   ·exact nT en
   ·rw [List.mem_singleton.mp hb];obtain⟨_,q,_⟩:=h1;exact nT q
 done:=by
  intro X hP hw hK hc i pins s σ H E I hf st hg
  subst hP hw hK
  obtain⟨hH,hi⟩:=hg
  obtain⟨vs,rel,hd,hm⟩:=I.kdict hH he
  have hl:kvs.length=vs.length:=rel.length
  obtain⟨⟨old,en⟩,h1⟩:=st
  rw [hl] at h1
  refine Hb (I.ok.hd hc) en h1 hd (by simp;omega) fun h' hk=>⟨rfl,?_⟩
  refine I.turnedL (t':=s.toks) (ch:=[e,it]) (fun b hb=>hf b hb) fun b o hb q=>hk b o (by rintro rfl;exact hb (by simp)) q
 self:=fun A i s Q E st h=>let ⟨_,he⟩:=st.1;wpAny_pyIter_enum he h
theorem Wp {X:Cx} {elts:List Expr} {kt:Nat} {pt:Pos} {pins:List (Addr×Obj)} {σ:St} {H:Hp} {s:Shared} {R:It->Hp->Prop} {E:Value->Shared->Prop} {p:Addr} {o:Obj} {kvs:List (Key×V)} (I:Inv X pins σ H s) (h:H p=some (.frz o (.dK kvs)))
  (q:R (Itde p o kvs) H):wpAny (model X.prog X.w) X.A (call (.type "enumerate") [.ref p]) (fun v s1=>wpAny (model X.prog X.w) X.A (pyIter v) (PIE X pins σ (.Tuple elts kt pt) R) E s1) E s:=by
 have he:∃ ep,EpOf o ep:=by
  obtain⟨e1,z,y,vs,r,ob,es,ep,e,c,d,_⟩:=I.hok p _ h
  rw [e1] at e;cases e
  exact⟨ep,es,d⟩
 obtain⟨ep,he⟩:=he
 obtain⟨vs,rel,hd,hm⟩:=I.kdict h he
 refine P5 hm hd fun h' en hit hk=>wpAny_pyIter_enum en ?_
 refine⟨_,_,_,_,H,rfl,I.kept (t':=s.toks) hk,Rc (Nat.succ_ne_self _) he,⟨⟨_,en⟩,by rw [rel.length];exact hit⟩,fun b hb=>?_,q⟩
 have hb:b=s.heap.objs.size+1\/b=s.heap.objs.size:=by simpa using hb
 have le:s.heap.objs.size<=b:=hb.elim (fun e=>e▸Nat.le_add_right _ 1) fun e=>e▸Nat.le_refl _
 exact I.fpOk le (I.hok.fresh le)
end L2
namespace PySem
open PyProof.Rows
section
variable {κ:Type} [DecidableEq κ]
def metK (xs:List κ):List κ:=xs.foldl (fun σ k=>if σ.any (fun j=>decide (j=k)) then σ else σ++[k]) []
theorem Lu (xs:List κ) (k:κ):metK (xs++[k])=if (metK xs).any (fun j=>decide (j=k)) then metK xs else metK xs++[k]:=by
 unfold metK
 rw [List.foldl_append]
 rfl
theorem Xi (xs:List κ) (k j:κ):(metK (xs++[k])).any (fun i=>decide (i=j))=((metK xs).any (fun i=>decide (i=j))||decide (j=k)):=by
 rw [Lu]
 by_cases h:(metK xs).any (fun i=>decide (i=k))=true
 ·rw [if_pos h]
  by_cases e:j=k
  ·subst e;rw [h];rfl
  ·simp [e]
 ·rw [if_neg h,List.any_append]
  congr 1
  simp [eq_comm]
theorem Op (xs:List κ):(metK xs).length<=xs.length:=by
 have:∀ (ys acc:List κ),(ys.foldl (fun σ k=>if σ.any (fun j=>decide (j=k)) then σ else σ++[k]) acc).length<=acc.length+ys.length:=by
  intro ys
  induction ys with
  | nil=>intro acc;exact Nat.le_refl _
  | cons y ys ih=>
   intro acc
   refine Nat.le_trans (ih _) ?_
   rw [List.length_cons]
   dsimp only
   split
   ·omega
   ·rw [List.length_append,List.length_singleton];omega
 exact Nat.le_trans (this xs []) (by simp)
end
section
variable {prog:Program} {w:World} {A:Around} {R:Result->Shared->Prop} {I:Addr} {fp wr:List Addr} {G:Array GenState->Array GenState->Prop} {P:Nat->Value->Prop} {St:Nat->Shared->Prop} {κ:Type} [DecidableEq κ] {knd:KeyKind prog w κ} {ks:List κ}
abbrev Er (knd:KeyKind prog w κ) (h:Heap) (S:Addr) (ks:List κ):Prop:=h.SetOf knd S (fun k=>(metK ks).any (fun j=>decide (j=k))) (metK ks).length
theorem K8 {h h':Heap} {S:Addr} (x:Er knd h S ks) (k:∀ o,h.get? S=some o->h'.get? S=some o):Er knd h' S ks:=
 let ⟨o,es,ep,t,ho,r⟩:=x;⟨o,es,ep,t,k o ho,r⟩
theorem Pm (W:WalksS prog w A.in1 I fp wr G ks.length P St) (S:Addr) (out:S∉fp) (hv:∀ i v,P i v -> ∃ k,ks[i]? = some k/\knd.is k v=true/\v.scannable=true) (few:ks.length+1<scanBound) (left:Nat) :
  ∀ (i:Nat) (s:Shared),i+left=ks.length->St i s->Er knd s.heap S (ks.take i)->(∀ s',Moved (S::wr) G s s'->Er knd s'.heap S ks->R (.ok (.ret .none)) s') ->
   codeAny (model prog w) A (.builtin "set.update.loop" ⟨[.ref S,.ref I],[]⟩) R s:=by
 have outw:S∉wr:=fun z=>out (W.sub _ z)
 have into:∀ b∈wr,b∈S::wr:=fun b z=>.tail _ z
 induction left with
 | zero=>
  intro i s hi st fl hR
  have ei:i=ks.length:=hi
  subst ei
  rw [List.take_length] at fl
  refine codeAny_builtin F.entry_set_update_loop (Around.under_plainId F.plain_set_update_loop _ ▸ ?_)
  show wpAny _ A.in1 (pyNext (.ref I) >>= _) _ _ s
  exact wpAny_bind (W.done s _ _ st fun s' mv=>wpAny_pure (hR s' (mv.mono into) (K8 fl fun o e=>mv.heap S o outw e)))
 | succ left ih=>
  intro i s hi st fl hR
  have lt:i<ks.length:=by omega
  refine codeAny_builtin F.entry_set_update_loop (Around.under_plainId F.plain_set_update_loop _ ▸ ?_)
  show wpAny _ A.in1 (pyNext (.ref I) >>= _) _ _ s
  refine wpAny_bind (W.item i s _ _ lt st fun v s1 pv st1 mv=>?_)
  obtain⟨k,ek,ik,sk⟩:=hv i v pv
  have fl1:Er knd s1.heap S (ks.take i):=K8 fl fun o e=>mv.heap S o outw e
  have tk:ks.take (i+1)=ks.take i++[k]:=by rw [List.take_succ,ek];rfl
  show wpAny _ A.in1 (holding [v] (setAdd S v) >>= _) _ _ s1
  refine wpAny_bind (wpAny_holding ?_)
  unfold setAdd
  refine wpAny_holding (wpAny_bind (knd.pyHash (k:=k) ik ?_))
  have room:(metK (ks.take i)).length+1<scanBound:=by
   have:=Op (ks.take i)
   rw [List.length_take] at this
   omega
  refine wpAny_setAddHashed_of (knd:=knd) (s:={ s1 with toks:=s1.toks+1 }) ik sk fl1 room fun h' sb fl2=>?_
  have fl3:Er knd h' S (ks.take (i+1)):=by
   have eS:(fun j=>(metK (ks.take i)).any (fun m=>decide (m=j))||decide (j=k))=fun j=>(metK (ks.take i++[k])).any (fun m=>decide (m=j)):=funext fun j=>(Xi (ks.take i) k j).symm
   have en:(if (metK (ks.take i)).any (fun m=>decide (m=k))=true then (metK (ks.take i)).length else (metK (ks.take i)).length+1)=(metK (ks.take i++[k])).length:=by
    rw [Lu];split <;> simp
   rw [tk]
   show h'.SetOf knd S _ _
   rw [<- eS,<- en]
   exact fl2
  refine wpAny_pure ⟨plainId_quiet F.plain_set_update_loop _,ih (i+1) _ (by omega) (W.frame _ s1 _ _ st1 (Nat.le_succ _) fun b hb o e=>?_) fl3 fun s2 mv2 fl4=>?_⟩
  ·exact (sb.2 b fun z=>out (z▸hb)).trans e
  ·exact hR s2 (Moved.trans W.gtrans ((mv.mono into).then_heap (Nat.le_succ _) fun b o hb e=>(sb.2 b fun z=>hb (z▸List.mem_cons_self)).trans e) mv2) fl4
end
section
variable {prog:Program} {w:World} {A:Around} {E:Value->Shared->Prop} {s:Shared} {κ:Type} [DecidableEq κ] {knd:KeyKind prog w κ} {ks:List κ}
abbrev Cq (led:Bool):Obj:={ cls:=.type "set", dict:=none,data:=.set #[] 0 (.fresh 0 0 led) }
theorem Po {l:Addr} {items:Array Value} {Q:Value->Shared->Prop} (hh:A.handled=none) (hl:s.heap.IsList l items) (hv:∀ (i:Nat) (v:Value),items[i]? = some v -> ∃ k,ks[i]? = some k/\knd.is k v=true/\v.scannable=true) (hs:items.size=ks.length) (few:ks.length+1<scanBound)
  (h:∀ (h':Heap) (tk:Nat),Er knd h' s.heap.objs.size ks->(∀ b o,b<s.heap.objs.size->s.heap.get? b=some o->h'.get? b=some o)->Q (.ref s.heap.objs.size) { s with heap:=h',toks:=tk }) :
  wpAny (model prog w) A (call (.type "set") [.ref l]) Q E s:=by
 obtain⟨c,tl,hmro⟩:=F.called_set.mro
 have m1:=F.called_set.made
 have m2:=F.called_set.sub
 have m3:=F.called_set.notType
 have m4:=F.called_set.canCreate
 have m5:=F.typeCall_set_1 (.ref l)
 refine wpAny_call (codeAny_of_tree (show wpAny _ _ (callAny (.type "set") _) _ _ _ from wpAny_pure ⟨Code.quiet_builtin _ (by decide +kernel),codeAny_builtin F.entry_type_call ?_⟩))
 rw [Around.under_plain (weight_type_call_type "set" [.ref l] []) rfl]
 repeat (any_goals (first|assumption|wp_step))
 refine codeAny_mono (code_set_new_1 (.ref l) (E:=E) (Q₁:=fun obj s₁=>∃ led:Bool,obj=.ref s.heap.objs.size/\s₁={ s with heap:=s.heap.push (Cq led) }) fun led=>⟨led,rfl,rfl⟩) fun r s₁ hr=>?_
 cases r with
 | error e=>exact hr
 | ok fl=>
  cases fl with
  | ret obj=>
   obtain⟨led,rfl,rfl⟩:=hr
   have new:(s.heap.push (Cq led)).get? s.heap.objs.size=some (Cq led):=Heap.get?_push_size _ rfl
   have ty:Shared.TypeIs { s with heap:=s.heap.push (Cq led) } (.ref s.heap.objs.size) "set" := ⟨_,new,rfl⟩
   have m6:=F.called_set.init.lookup
   have m7:=F.called_set.init.bind (.ref s.heap.objs.size)
   repeat (any_goals (first|assumption|wp_step))
   refine codeAny_mono (codeAny_call_builtin (R:=wants (fun r s₂=>r=.none /\ ∃ h' tk,s₂={ s with heap:=h',toks:=tk }/\Er knd h' s.heap.objs.size ks/\(∀ b o,b<s.heap.objs.size->s.heap.get? b=some o->h'.get? b=some o)) E) F.called_set.init.plain F.entry_set_init (check_set_init_1 ty ?_)) fun r2 s2 hr2=>?_
   ·obtain⟨⟨oc,odict,od,osl⟩,ol,hc,n,hd⟩:=hl
    simp only at hc hd
    subst hc;subst hd
    have lt:l<s.heap.objs.size:=Heap.lt_size ol
    have ol2:(s.heap.push (Cq led)).get? l=some { cls:=.type "list", dict:=odict,data:=.seq items n,slots:=osl }:=Heap.get?_push_of_some _ ol
    have m8:=F.sub_list_set
    have m9:=F.sub_list_frozenset
    have m10:(Value.type "list" == Value.type "dict")=false:=by decide
    have isl:(s.heap.push (Cq led)).IsList l items:=⟨_,ol2,rfl,n,rfl⟩
    have size:(s.heap.push (Cq led)).objs.size=s.heap.objs.size+1:=Heap.size_push ..
    unfold Builtin.«set.__init__» noKeywords Builtin.Frozenset.updateFrom
    generalize hPI:pyIter=PI
    wp_walk
    subst hPI
    refine wpAny_pyIter_list isl (wpAny_bind (wpAny_runValue ?_))
    have quiet:A.in1.in1.in1.handled=none:=by simp [hh]
    have ne1:l≠(s.heap.push (Cq led)).objs.size:=size▸Nat.ne_of_lt (Nat.lt_succ_of_lt lt)
    have out:s.heap.objs.size∉[(s.heap.push (Cq led)).objs.size,l]:=by
     simp only [size,List.mem_cons,List.not_mem_nil,or_false,not_or]
     exact⟨Nat.ne_of_lt (Nat.lt_succ_self _),Nat.ne_of_gt lt⟩
    have W:=(Walks.list (prog:=prog) (w:=w) quiet (s.heap.push (Cq led)).objs.size l ne1 items).toS
    rw [hs] at W
    refine Pm (ks:=ks) W s.heap.objs.size out hv few ks.length 0 _ (Nat.zero_add _) ⟨⟨_,Heap.get?_push_size _ rfl,rfl,rfl⟩,isl.push _⟩ ?_ fun s' mv fl=>?_
    ·exact (setObjOf_fresh (knd:=knd) led).setOf (Heap.get?_push_of_some _ new) (by unfold scanBound;omega)
    ·obtain⟨h',g',d',tk',os'⟩:=s'
     have e1:g'=s.gens:=mv.gens
     have e2:d'=s.drawn:=mv.drawn
     have e3:os'=s.os:=mv.os
     subst e1;subst e2;subst e3
     refine (show wpAny _ _ _ _ _ _ from wpAny_pure (show wpAny _ _ (ret Value.none) _ _ _ from wpAny_pure ⟨rfl,h',tk',rfl,fl,fun b o hb e=>?_⟩))
     refine mv.heap b o ?_ (Heap.get?_push_of_some _ (Heap.get?_push_of_some _ e))
     simp only [size,List.mem_cons,List.not_mem_nil,or_false,not_or]
     exact⟨Nat.ne_of_lt hb,Nat.ne_of_lt (Nat.lt_succ_of_lt hb)⟩
   ·cases r2 with
    | error e=>exact hr2
    | ok f2=>
     cases f2 with
     | ret r=>
      obtain⟨rfl,h',tk,rfl,fl,kept⟩:=hr2
      repeat (any_goals (first|assumption|wp_step))
      exact h _ _ fl kept
     | _=>exact hr2.elim
  | _=>exact hr.elim
end
end PySem
namespace L2
open PySem PySem.Spec PyProof.Rows
section
variable {X:Cx} {e:Expr} {de:DE} {p p2 pos pos2:Pos}
def Il (K:PySem.W.Frag):V->Hp->VK->Prop:=fun x H Q=>match x with
 | .ref l=>∃ ys:List Str,SqL K H l (ys.map V.str)/\ys.length<30/\Q (.int (metK ys).length) H
 | _=>False
theorem El:∀ {ys:List Str} {us:List Value} {i:Nat} {v:Value},Vals (ys.map V.str) us->us[i]? = some v -> ∃ k t,ys[i]? = some k/\v=.str k t
 | [],_,i,v,r,e=>by rw [List.map_nil] at r;cases r;simp at e
 | y::ys,_,i,v,r,e=>by
  rw [List.map_cons] at r
  cases r with
  | cons r1 r2=>
   obtain⟨t,rfl⟩:=r1
   cases i with
   | zero=>simp only [List.getElem?_cons_zero,Option.some.injEq] at e;exact⟨y,t,rfl,e.symm⟩
   | succ i=>simp only [List.getElem?_cons_succ] at e ⊢;exact El r2 e
theorem aa0 {pins:List (Addr×Obj)} {σ:St} {H:Hp} {s:Shared} {x:V} {u:Value} {Q:VK} (hc:X.calm=true) (I:Inv X pins σ H s) (rx:RelV x u) (h:Il X.K x H Q) :
  wpAny (model X.prog X.w) X.A (call (.type "set") [u]) (fun v s1=>wpAny (model X.prog X.w) X.A (call (.builtin "len") [v]) (EP X pins σ Q) X.xe s1) X.xe s:=by
 cases x with
 | ref l=>
  cases rx
  obtain⟨ys,hq,few,q⟩:=h
  obtain⟨its,rv,pl,hz⟩:=I.list hq
  have hl:its.length=ys.length:=by rw [<- rv.length,List.length_map]
  refine Po (knd:=PySem.strKind X.prog X.w) (ks:=ys) (I.ok.hd hc) pl.isList (fun i v e=>?_) (by simpa using hl) (by unfold scanBound;omega) fun h' tk fl kept=>?_
  ·obtain⟨k,t,ek,rfl⟩:=El rv (by simpa using e)
   exact⟨k,ek,by show Value.isStrOf k (.str k t)=true;simp [Value.isStrOf],rfl⟩
  ·have I1:Inv X pins σ H { s with heap:=h',toks:=tk }:=I.kept (t':=tk) fun b o e=>kept b o (Heap.lt_size e) e
   obtain⟨o,es,ep,t,ho,hex,hd,hel,hmem,hb,hf,hn⟩:=fl
   refine call_len_set ho hex hd hf ?_ ?_
   ·have:=Op ys
    rw [hn];omega
   ·rw [hn]
    exact⟨.int _,H,I1.tok _,⟨_,rfl⟩,q⟩
 | _=>exact (show False from h).elim
end
end L2
namespace PySem
open PyProof.Rows
section
variable {prog:Program} {w:World} {A:Around} {E:Value->Shared->Prop} {s:Shared} {κ:Type} [DecidableEq κ] {knd:KeyKind prog w κ} {d it:Addr} {ep i:Nat} {kvs:List (κ×Value)}
end
end PySem
namespace L2
open PySem PySem.Spec PyProof.Rows
section
variable {X:Cx} {pins:List (Addr×Obj)} {σ:St} {A:Around} {E:Value->Shared->Prop} {R:Result->Shared->Prop} {p it S:Addr} {ep:Nat} {kvs:List (Key×V)} {vs:List (Key×Value)} {res:Value}
end
section
variable {X:Cx} {pins:List (Addr×Obj)} {σ:St} {A:Around} {E:Value->Shared->Prop}
end
section
variable {X:Cx}
def ag6 (K:PySem.W.Frag):R2:=fun x y H Q=>∃ a b ys,x=.ref a/\y=.ref b/\SqT K H a []/\SqT K H b ys/\Q (.ref b) H
theorem aa6:OpR X (binaryOp .Add) (ag6 X.K):=by
 intro pins s σ H x y v u Q I rx ry h
 obtain⟨a,b,ys,rfl,rfl,ha,hb,q⟩:=h
 cases rx
 cases ry
 obtain⟨its,r1,p1,_⟩:=I.tuple ha
 obtain⟨its2,r2,p2,_⟩:=I.tuple hb
 cases r1
 obtain⟨⟨c1,d1,da1,s1⟩,ho,hc,n,hd⟩:=id p1
 obtain⟨⟨c2,d2,da2,s2⟩,ho2,hc2,n2,hd2⟩:=id p2
 simp only at hc hd hc2 hd2
 subst hc hd hc2 hd2
 exact concat_meets ⟨_,ho,rfl⟩ ⟨_,ho2,rfl⟩ noFill_tuple_add seq_tuple_add PySem.F.slot_tuple_add PySem.F.entry_tuple_add (PySem.F.args_tuple_add_2 _ _)
   (tuple_addW0 a b _ _ n n2 d1 d2 s1 s2 rfl) ⟨ho,ho2,⟨.ref b,H,I,rfl,q⟩⟩
theorem Sf (hu:X.A.units+64<cLine):IxR X (fun x y H Q=>∃ a v,x=.ref a/\DGet H a y (some v)/\Q v H):=by
 intro value slice pins s σ H x y v u Q I rx ry h hs
 obtain⟨a,w',rfl,g,q⟩:=h
 cases rx
 exact tail_any (Oc I g) PySem.F.slot_dict_getitem.lookup (Ue (by omega) I g ry fun w1 s' I' r'=>⟨w',H,I',r',q⟩) hs
end
section
variable {prog:Program} {w:World} {A:Around} {E:Value->Shared->Prop} {s:Shared}
end
section
variable {X:Cx} {pins:List (Addr×Obj)} {σ:St} {H:Hp} {s:Shared} {Q:VK}
end
open Sem (wp)
section
variable {M:Model} {A:Around} {E:Value->Shared->Prop} {env:Env}
variable {nm q:Str} {C N:Addr} {bs bm:List Value} {hdct:Bool} {sn:List Str} {sub:List Value} {ab:Bool} {col:Option Bool} {dd:Option Addr} {k0 k1 k2 k3 k5:Option Value} {newId:String}
end
section
variable {X:Cx} {e:Expr} {te:TE} {pos:Pos}
def Yh (K:PySem.W.Frag) (R:EK):VK:=fun x H=>match x with
 | .ref a=>∃ C dx,H a=some (excO a C dx)/\ECls K C/\R a (upd H a (flO a C dx))
 | _=>False
theorem X4 {Ex:St->EK} (m:Ca X Ex) (hh:X.A.handled=none) (he:PE X e te):PS X (.Raise (some e) none pos) (fun _ σ H=>te σ H (Yh X.K (Ex σ))):=by
 intro pins s σ H D I h
 rw [arm_exec_Raise]
 show wpAny _ _ (do standAt pos;raiseStmt X.env (some (do let v <- eval e X.env;standAt pos;pure v)) none) _ _ s
 refine wpAny_bind (wpAny_standAt ?_)
 unfold raiseStmt
 refine wpAny_bind (wpAny_bind (thn (he pins s σ H _ I h) fun v s1 ⟨x,H1,I1,r1,q1⟩=>wpAny_bind (wpAny_standAt (wpAny_pure ?_))))
 cases x with
 | ref a=>
  cases r1
  obtain⟨C,dx,ea,c,q⟩:=q1
  obtain⟨vs,g1,g2,g3,g4⟩:=Qh I1 ea
  obtain⟨nm,qn,N,bs,bm,hdct,sn,sub,ab,col,dd,k0,k1,k2,k3,k5,hl,ht,hd⟩:=c.obj
  have hC:=I1.kIn _ _ hl
  have hb:bm.contains (.type "BaseException")=true:=Bm ht (by decide +kernel)
  have I2:Inv X pins σ (upd H1 a (flO a C dx)) s1:=by
   have:=I1.write (x:=a) (e:=a) (h':=s1.heap) (t':=s1.toks) (o:=flO a C dx) (by rw [ea];exact True.intro) (.inl rfl) (fun b u _ z=>z) ⟨_,g1⟩ (Wv g1 g2 g4)
   exact this
  have hx:=m pins σ _ s1 a I2 ⟨C,dx,vs,.inl Ab,g1,g2,.inl g3⟩ q
  have hcB:(Value.ref C::bm).contains (.type "BaseException")=true:=by rw [List.contains_cons,hb,Bool.or_true]
  obtain⟨hp,g,d,tk,os⟩:=s1
  repeat (first|with_reducible refine wpAny_field g1 rfl g3 ?_|with_reducible refine wpAny_loadPart_at g1 ?_|with_reducible refine wpAny_loadPart_at hC ?_|(with_reducible refine wpAny_isSubtype_exc hC ?_;rw [hcB])|wp_step)
  exact wpAny_raiseNew_none hh hx
 | _=>exact (show False from q1).elim
end
end L2
namespace L2
open PySem PySem.Spec PyProof.Rows
inductive Dt where
 | at_ (v:V)
 | lst (l:List Dt)
 | tup (l:List Dt)
mutual
def deq:Dt->Dt->Bool
 | .at_ v,.at_ w=>eqV v w
 | .lst xs,.lst ys=>deqs xs ys
 | .tup xs,.tup ys=>deqs xs ys
 | _,_=>false
def deqs:List Dt->List Dt->Bool
 | [],[]=>true
 | x::xs,y::ys=>deq x y&&deqs xs ys
 | _,_=>false
end
mutual
def dep:Dt->Nat
 | .at_ _=>0
 | .lst l=>deps l+1
 | .tup l=>deps l+1
def deps:List Dt->Nat
 | []=>0
 | x::xs=>Nat.max (dep x) (deps xs)
end
mutual
def At (K:PySem.W.Frag) (H:Hp):Dt->V->Prop
 | .at_ v,x=>x=v/\Bx v=true
 | .lst ds,x=>∃ a xs,x=.ref a/\SqL K H a xs/\AtL K H ds xs
 | .tup ds,x=>∃ a xs,x=.ref a/\SqT K H a xs/\AtL K H ds xs
def AtL (K:PySem.W.Frag) (H:Hp):List Dt->List V->Prop
 | [],xs=>xs=[]
 | d::ds,xs=>∃ y ys,xs=y::ys/\At K H d y/\AtL K H ds ys
end
theorem AtL.length {K:PySem.W.Frag} {H:Hp}:∀ {ds:List Dt} {xs:List V},AtL K H ds xs->xs.length=ds.length
 | [],xs,h=>by unfold AtL at h;subst h;rfl
 | d::ds,xs,h=>by
  unfold AtL at h
  obtain⟨y,ys,rfl,_,h2⟩:=h
  rw [List.length_cons,List.length_cons,AtL.length h2]
theorem Ws {v:V} (h:Bx v=true):eqV v v=true:=by
 cases v <;> first|rfl|(exact beq_self_eq_true _)|exact absurd (show false=true from h) Bool.false_ne_true
mutual
theorem Ew {K:PySem.W.Frag} {H:Hp}:∀ {d:Dt} {x:V},At K H d x->deq d d=true
 | .at_ v,x,h=>by unfold At at h;unfold deq;exact Ws h.2
 | .lst l,x,h=>by unfold At at h;obtain⟨a,xs,_,_,h⟩:=h;unfold deq;exact Gw h
 | .tup l,x,h=>by unfold At at h;obtain⟨a,xs,_,_,h⟩:=h;unfold deq;exact Gw h
theorem Gw {K:PySem.W.Frag} {H:Hp}:∀ {ds:List Dt} {xs:List V},AtL K H ds xs->deqs ds ds=true
 | [],xs,h=>by unfold deqs;rfl
 | d::ds,xs,h=>by
  unfold AtL at h
  obtain⟨y,ys,rfl,h1,h2⟩:=h
  unfold deqs
  rw [Ew h1,Gw h2]
  rfl
end
theorem Ey:∀ {xs ys:List Dt},xs.length≠ys.length->deqs xs ys=false
 | [],[],h=>absurd rfl h
 | [],_::_,_=>by unfold deqs;rfl
 | _::_,[],_=>by unfold deqs;rfl
 | x::xs,y::ys,h=>by
  unfold deqs
  rw [Ey (xs:=xs) (ys:=ys) (fun e=>h (by rw [List.length_cons,List.length_cons,e])),Bool.and_false]
theorem C8 (z:Dt):∀ {xs ys:List Dt},xs.length=ys.length->deqs xs ys=(List.range xs.length).all fun j=>deq (xs.getD j z) (ys.getD j z)
 | [],[],_=>by unfold deqs;rfl
 | [],_::_,h=>by simp at h
 | _::_,[],h=>by simp at h
 | x::xs,y::ys,h=>by
  unfold deqs
  rw [List.length_cons,List.range_succ_eq_map,List.all_cons,List.all_map,C8 z (xs:=xs) (ys:=ys) (by simpa using h)]
  rfl
section
variable {X:Cx} {pins:List (Addr×Obj)} {σ:St} {H:Hp} {s:Shared}
theorem Ou {a:Addr} {xs ys:List V} (I:Inv X pins σ H s) (h:SqL X.K H a xs) (h':SqT X.K H a ys):False:=by
 obtain⟨its,r,⟨o,n,e,c,_,d⟩,_⟩:=I.list h
 obtain⟨its',r',⟨o',e',c',n',d'⟩,_⟩:=I.tuple h'
 rw [e] at e';cases e'
 rw [c] at c'
 injection c' with c'
 exact absurd c' (by decide)
mutual
theorem P1 (I:Inv X pins σ H s):∀ {d d':Dt} {x:V},At X.K H d x->At X.K H d' x->d=d'
 | .at_ v,.at_ w,x,h,h'=>by unfold At at h h';rw [<- h.1,<- h'.1]
 | .at_ v,.lst l,x,h,h'=>by
  unfold At at h h'
  obtain⟨a,xs,rfl,_⟩:=h'
  rw [<- h.1] at h
  exact absurd (show false=true from h.2) Bool.false_ne_true
 | .at_ v,.tup l,x,h,h'=>by
  unfold At at h h'
  obtain⟨a,xs,rfl,_⟩:=h'
  rw [<- h.1] at h
  exact absurd (show false=true from h.2) Bool.false_ne_true
 | .lst l,.at_ v,x,h,h'=>by
  unfold At at h h'
  obtain⟨a,xs,rfl,_⟩:=h
  rw [<- h'.1] at h'
  exact absurd (show false=true from h'.2) Bool.false_ne_true
 | .tup l,.at_ v,x,h,h'=>by
  unfold At at h h'
  obtain⟨a,xs,rfl,_⟩:=h
  rw [<- h'.1] at h'
  exact absurd (show false=true from h'.2) Bool.false_ne_true
 | .lst l,.lst l',x,h,h'=>by
  unfold At at h h'
  obtain⟨a,xs,rfl,q,h⟩:=h
  obtain⟨a',xs',e,q',h'⟩:=h'
  cases e
  rw [I.list_inj q q'] at h
  rw [Mf I h h']
 | .tup l,.tup l',x,h,h'=>by
  unfold At at h h'
  obtain⟨a,xs,rfl,q,h⟩:=h
  obtain⟨a',xs',e,q',h'⟩:=h'
  cases e
  rw [I.tuple_inj q q'] at h
  rw [Mf I h h']
 | .lst l,.tup l',x,h,h'=>by
  unfold At at h h'
  obtain⟨a,xs,rfl,q,h⟩:=h
  obtain⟨a',xs',e,q',h'⟩:=h'
  cases e
  exact (Ou I q q').elim
 | .tup l,.lst l',x,h,h'=>by
  unfold At at h h'
  obtain⟨a,xs,rfl,q,h⟩:=h
  obtain⟨a',xs',e,q',h'⟩:=h'
  cases e
  exact (Ou I q' q).elim
theorem Mf (I:Inv X pins σ H s):∀ {ds ds':List Dt} {xs:List V},AtL X.K H ds xs->AtL X.K H ds' xs->ds=ds'
 | [],[],_,_,_=>rfl
 | [],_::_,_,h,h'=>by unfold AtL at h h';obtain⟨y,ys,e,_⟩:=h';rw [h] at e;cases e
 | _::_,[],_,h,h'=>by unfold AtL at h h';obtain⟨y,ys,e,_⟩:=h;rw [h'] at e;cases e
 | d::ds,d'::ds',xs,h,h'=>by
  unfold AtL at h h'
  obtain⟨y,ys,rfl,h1,h2⟩:=h
  obtain⟨y',ys',e,h1',h2'⟩:=h'
  cases e
  rw [P1 I h1 h1',Mf I h2 h2']
end
theorem La {A:Around} {v:V} {u:Value} {a:Addr} {its:Array Value} (f:Bx v=true) (r:RelV v u) (hl:s.heap.IsList a its) (hu:A.units<cLine):SeqAt.EqAt A s u (.ref a) false/\SeqAt.EqAt A s (.ref a) u false:=by
 cases v with
 | non=>cases r;exact⟨.none_list hl hu,.list_none hl hu⟩
 | bl b=>cases r;exact⟨.bool_list b hl hu,.list_bool b hl hu⟩
 | int i=>obtain⟨t,rfl⟩:=r;exact⟨.int_list i t hl hu,.list_int i t hl hu⟩
 | str i=>obtain⟨t,rfl⟩:=r;exact⟨.str_list i t hl hu,.list_str i t hl hu⟩
 | _=>exact absurd (show false=true from f) Bool.false_ne_true
theorem Iz {A:Around} {v:V} {u:Value} {a:Addr} {its:Array Value} (f:Bx v=true) (r:RelV v u) (hl:s.heap.IsTuple a its) (hu:A.units<cLine):SeqAt.EqAt A s u (.ref a) false/\SeqAt.EqAt A s (.ref a) u false:=by
 cases v with
 | non=>cases r;exact⟨.none_tuple hl hu,.tuple_none hl hu⟩
 | bl b=>cases r;exact⟨.bool_tuple b hl hu,.tuple_bool b hl hu⟩
 | int i=>obtain⟨t,rfl⟩:=r;exact⟨.int_tuple i t hl hu,.tuple_int i t hl hu⟩
 | str i=>obtain⟨t,rfl⟩:=r;exact⟨.str_tuple i t hl hu,.tuple_str i t hl hu⟩
 | _=>exact absurd (show false=true from f) Bool.false_ne_true
theorem IsTup.isTuple {h:Heap} {a:Addr} {its:Array Value} (p:IsTup h a its):h.IsTuple a its:=p
mutual
theorem Qe (I:Inv X pins σ H s):∀ (d d':Dt) (A:Around) (x y:V) (u v:Value),At X.K H d x->At X.K H d' y->RelV x u->RelV y v->A.units+dep d<cLine->SeqAt.EqAt A s u v (deq d d')
 | .at_ p,.at_ q,A,x,y,u,v,h,h',r,r',hu=>by
  unfold At at h h';unfold deq
  obtain⟨rfl,f⟩:=h
  obtain⟨rfl,f'⟩:=h'
  exact Qg r r' f f'
 | .at_ p,.lst l,A,x,y,u,v,h,h',r,r',hu=>by
  unfold At at h h';unfold deq
  obtain⟨rfl,f⟩:=h
  obtain⟨a,xs,rfl,q,_⟩:=h'
  obtain⟨its,_,pl,_⟩:=I.list q
  cases r'
  exact (La f r pl.isList (by omega)).1
 | .at_ p,.tup l,A,x,y,u,v,h,h',r,r',hu=>by
  unfold At at h h';unfold deq
  obtain⟨rfl,f⟩:=h
  obtain⟨a,xs,rfl,q,_⟩:=h'
  obtain⟨its,_,pl,_⟩:=I.tuple q
  cases r'
  exact (Iz f r pl (by omega)).1
 | .lst l,.at_ p,A,x,y,u,v,h,h',r,r',hu=>by
  unfold At at h h';unfold deq
  obtain⟨rfl,f⟩:=h'
  obtain⟨a,xs,rfl,q,_⟩:=h
  obtain⟨its,_,pl,_⟩:=I.list q
  cases r
  exact (La f r' pl.isList (by omega)).2
 | .tup l,.at_ p,A,x,y,u,v,h,h',r,r',hu=>by
  unfold At at h h';unfold deq
  obtain⟨rfl,f⟩:=h'
  obtain⟨a,xs,rfl,q,_⟩:=h
  obtain⟨its,_,pl,_⟩:=I.tuple q
  cases r
  exact (Iz f r' pl (by omega)).2
 | .lst l,.tup l',A,x,y,u,v,h,h',r,r',hu=>by
  unfold At at h h';unfold deq
  obtain⟨a,xs,rfl,q,_⟩:=h
  obtain⟨b,ys,rfl,q',_⟩:=h'
  obtain⟨its,_,pl,_⟩:=I.list q
  obtain⟨its',_,pl',_⟩:=I.tuple q'
  cases r;cases r'
  exact .list_tuple pl.isList pl' (by omega)
 | .tup l,.lst l',A,x,y,u,v,h,h',r,r',hu=>by
  unfold At at h h';unfold deq
  obtain⟨a,xs,rfl,q,_⟩:=h
  obtain⟨b,ys,rfl,q',_⟩:=h'
  obtain⟨its,_,pl,_⟩:=I.tuple q
  obtain⟨its',_,pl',_⟩:=I.list q'
  cases r;cases r'
  exact .tuple_list pl pl'.isList (by omega)
 | .lst l,.lst l',A,x,y,u,v,h,h',r,r',hu=>by
  by_cases e:x=y
  ·subst e
   have:=P1 I h h'
   rw [<- this,Ew h]
   have hx:∃ a,x=.ref a:=by unfold At at h;obtain⟨a,_,e,_⟩:=h;exact⟨a,e⟩
   obtain⟨a,rfl⟩:=hx
   cases r;cases r'
   exact .same _
  ·unfold At at h h';unfold deq
   unfold dep at hu
   obtain⟨a,xs,rfl,q,h⟩:=h
   obtain⟨b,ys,rfl,q',h'⟩:=h'
   obtain⟨its,ri,pl,_⟩:=I.list q
   obtain⟨its',ri',pl',_⟩:=I.list q'
   cases r;cases r'
   have ne:a≠b:=fun z=>e (by rw [z])
   have e1:=h.length
   have e2:=h'.length
   have e3:=ri.length
   have e4:=ri'.length
   refine .of_refs ne ?_
   by_cases hl:l.length=l'.length
   ·rw [C8 (.lst []) hl]
    have hsz:its.toArray.size=l.length:=by simp;omega
    rw [<- hsz]
    exact .lists pl.isList pl'.isList (by simp;omega) (by omega) fun j h1 h2=>by
     have:=Ga I l l' A.in1 xs ys its its' h h' ri ri' (by show A.units+1+deps l<cLine;omega) j (by simpa using h1) (by simpa using h2)
     simpa using this
   ·rw [Ey hl]
    exact .lists_lengths pl.isList pl'.isList (by simp;omega) (by omega)
 | .tup l,.tup l',A,x,y,u,v,h,h',r,r',hu=>by
  by_cases e:x=y
  ·subst e
   have:=P1 I h h'
   rw [<- this,Ew h]
   have hx:∃ a,x=.ref a:=by unfold At at h;obtain⟨a,_,e,_⟩:=h;exact⟨a,e⟩
   obtain⟨a,rfl⟩:=hx
   cases r;cases r'
   exact .same _
  ·unfold At at h h';unfold deq
   unfold dep at hu
   obtain⟨a,xs,rfl,q,h⟩:=h
   obtain⟨b,ys,rfl,q',h'⟩:=h'
   obtain⟨its,ri,pl,_⟩:=I.tuple q
   obtain⟨its',ri',pl',_⟩:=I.tuple q'
   cases r;cases r'
   have ne:a≠b:=fun z=>e (by rw [z])
   have e1:=h.length
   have e2:=h'.length
   have e3:=ri.length
   have e4:=ri'.length
   refine .of_refs ne ?_
   have T:=SeqAt.RcAt.tuples (A:=A) (s:=s) (e:=fun j=>deq (l.getD j (.lst [])) (l'.getD j (.lst []))) pl pl' (by omega) fun j h1 h2=>by
     have:=Ga I l l' A.in1 xs ys its its' h h' ri ri' (by show A.units+1+deps l<cLine;omega) j (by simpa using h1) (by simpa using h2)
     simpa using this
   by_cases hl:l.length=l'.length
   ·rw [C8 (.lst []) hl]
    have hsz:its.toArray.size=l.length:=by simp;omega
    have hsz':its'.toArray.size=l.length:=by simp;omega
    rw [hsz,hsz',Nat.min_self,beq_self_eq_true,Bool.and_true] at T
    exact T
   ·rw [Ey hl]
    have hne:(its.toArray.size==its'.toArray.size)=false:=by
     rw [beq_eq_false_iff_ne];simp;omega
    rw [hne,Bool.and_false] at T
    exact T
theorem Ga (I:Inv X pins σ H s):∀ (ds ds':List Dt) (A:Around) (xs ys:List V) (us vs:List Value),AtL X.K H ds xs->AtL X.K H ds' ys->Vals xs us->Vals ys vs->A.units+deps ds<cLine ->
  ∀ (j:Nat) (h1:j<us.length) (h2:j<vs.length),SeqAt.EqAt A s us[j] vs[j] (deq (ds.getD j (.lst [])) (ds'.getD j (.lst [])))
 | [],_,A,xs,ys,us,vs,h,h',r,r',hu=>fun j h1 h2=>by
  unfold AtL at h
  subst h
  cases r
  cases h1
 | _::_,[],A,xs,ys,us,vs,h,h',r,r',hu=>fun j h1 h2=>by
  unfold AtL at h'
  subst h'
  cases r'
  cases h2
 | d::ds,d'::ds',A,xs,ys,us,vs,h,h',r,r',hu=>fun j h1 h2=>by
  unfold AtL at h h'
  obtain⟨y,ys,rfl,q1,q2⟩:=h
  obtain⟨z,zs,rfl,q1',q2'⟩:=h'
  cases r with
  | cons r1 r2=>
   cases r' with
   | cons r1' r2'=>
    unfold deps at hu
    have m1:dep d<=Nat.max (dep d) (deps ds):=Nat.le_max_left _ _
    have m2:deps ds<=Nat.max (dep d) (deps ds):=Nat.le_max_right _ _
    cases j with
    | zero=>exact Qe I d d' A _ _ _ _ q1 q1' r1 r1' (by omega)
    | succ j=>exact Ga I ds ds' A _ _ _ _ q2 q2' r2 r2' (by omega) j (by simpa using h1) (by simpa using h2)
end
theorem Fd {K:PySem.W.Frag} {d:Dt} {a:Addr} (h:At K H d (.ref a)):(∃ l xs,d=.lst l/\SqL K H a xs/\AtL K H l xs)\/(∃ l xs,d=.tup l/\SqT K H a xs/\AtL K H l xs):=by
 cases d with
 | at_ v=>
  unfold At at h
  rw [<- h.1] at h
  exact absurd (show false=true from h.2) Bool.false_ne_true
 | lst l=>unfold At at h;obtain⟨b,xs,e,q,h⟩:=h;cases e;exact .inl ⟨l,xs,rfl,q,h⟩
 | tup l=>unfold At at h;obtain⟨b,xs,e,q,h⟩:=h;cases e;exact .inr ⟨l,xs,rfl,q,h⟩
theorem Ot {K:PySem.W.Frag} {d:Dt} {x:V} (h:At K H d x) (f:∀ a,x≠.ref a):d=.at_ x/\Bx x=true:=by
 cases d with
 | at_ v=>unfold At at h;rw [h.1];exact⟨rfl,h.2⟩
 | lst l=>unfold At at h;obtain⟨b,xs,e,_⟩:=h;exact absurd e (f b)
 | tup l=>unfold At at h;obtain⟨b,xs,e,_⟩:=h;exact absurd e (f b)
theorem rc_D (I:Inv X pins σ H s) {A:Around} {d d':Dt} {a b:Addr} (h:At X.K H d (.ref a)) (h':At X.K H d' (.ref b)) (hu:A.units+dep d<cLine):SeqAt.RcAt A s (.ref a) (.ref b) (deq d d')/\SeqAt.RcNeAt A s (.ref a) (.ref b) (!deq d d'):=by
 rcases Fd h with ⟨l,xs,rfl,q,h⟩|⟨l,xs,rfl,q,h⟩
 ·rcases Fd h' with ⟨l',ys,rfl,q',h'⟩|⟨l',ys,rfl,q',h'⟩
  ·unfold deq
   unfold dep at hu
   obtain⟨its,ri,pl,_⟩:=I.list q
   obtain⟨its',ri',pl',_⟩:=I.list q'
   have e1:=h.length
   have e2:=h'.length
   have e3:=ri.length
   have e4:=ri'.length
   have it:∀ j (h1:j<its.toArray.size) (h2:j<its'.toArray.size),SeqAt.EqAt A.in1 s its.toArray[j] its'.toArray[j] (deq (l.getD j (.lst [])) (l'.getD j (.lst []))):=fun j h1 h2=>by
    have:=Ga I l l' A.in1 xs ys its its' h h' ri ri' (by show A.units+1+deps l<cLine;omega) j (by simpa using h1) (by simpa using h2)
    simpa using this
   by_cases hl:l.length=l'.length
   ·rw [C8 (.lst []) hl]
    have hsz:its.toArray.size=l.length:=by simp;omega
    rw [<- hsz]
    exact⟨.lists pl.isList pl'.isList (by simp;omega) (by omega) it,.lists pl.isList pl'.isList (by simp;omega) (by omega) it⟩
   ·rw [Ey hl]
    exact⟨.lists_lengths pl.isList pl'.isList (by simp;omega) (by omega),.lists_lengths pl.isList pl'.isList (by simp;omega) (by omega)⟩
  ·unfold deq
   obtain⟨its,ri,pl,_⟩:=I.list q
   obtain⟨its',ri',pl',_⟩:=I.tuple q'
   exact⟨.list_tuple pl.isList pl' (by omega),.list_tuple pl.isList pl' (by omega)⟩
 ·rcases Fd h' with ⟨l',ys,rfl,q',h'⟩|⟨l',ys,rfl,q',h'⟩
  ·unfold deq
   obtain⟨its,ri,pl,_⟩:=I.tuple q
   obtain⟨its',ri',pl',_⟩:=I.list q'
   exact⟨.tuple_list pl pl'.isList (by omega),.tuple_list pl pl'.isList (by omega)⟩
  ·unfold deq
   unfold dep at hu
   obtain⟨its,ri,pl,_⟩:=I.tuple q
   obtain⟨its',ri',pl',_⟩:=I.tuple q'
   have e1:=h.length
   have e2:=h'.length
   have e3:=ri.length
   have e4:=ri'.length
   have it:∀ j (h1:j<its.toArray.size) (h2:j<its'.toArray.size),SeqAt.EqAt A.in1 s its.toArray[j] its'.toArray[j] (deq (l.getD j (.lst [])) (l'.getD j (.lst []))):=fun j h1 h2=>by
    have:=Ga I l l' A.in1 xs ys its its' h h' ri ri' (by show A.units+1+deps l<cLine;omega) j (by simpa using h1) (by simpa using h2)
    simpa using this
   have T:=SeqAt.RcAt.tuples pl pl' (by omega) it
   have T':=SeqAt.RcNeAt.tuples pl pl' (by omega) it
   by_cases hl:l.length=l'.length
   ·rw [C8 (.lst []) hl]
    have hsz:its.toArray.size=l.length:=by simp;omega
    have hsz':its'.toArray.size=l.length:=by simp;omega
    rw [hsz,hsz',Nat.min_self,beq_self_eq_true,Bool.and_true] at T T'
    exact⟨T,T'⟩
   ·rw [Ey hl]
    have hne:(its.toArray.size==its'.toArray.size)=false:=by
     rw [beq_eq_false_iff_ne];simp;omega
    rw [hne,Bool.and_false] at T T'
    exact⟨T,T'⟩
theorem Tj (I:Inv X pins σ H s) {A:Around} {d:Dt} {a:Addr} {v:V} {u:Value} (h:At X.K H d (.ref a)) (f:Bx v=true) (r:RelV v u) (hu:A.units<cLine) :
  SeqAt.RcAt A s (.ref a) u false/\SeqAt.RcNeAt A s (.ref a) u true/\SeqAt.RcAt A s u (.ref a) false/\SeqAt.RcNeAt A s u (.ref a) true:=by
 rcases Fd h with ⟨l,xs,rfl,q,h⟩|⟨l,xs,rfl,q,h⟩
 ·obtain⟨its,ri,pl,_⟩:=I.list q
  cases v with
  | non=>cases r;exact⟨.list_none pl.isList hu,.list_none pl.isList hu,.none_list pl.isList hu,.none_list pl.isList hu⟩
  | bl b=>cases r;exact⟨.list_bool b pl.isList hu,.list_bool b pl.isList hu,.bool_list b pl.isList hu,.bool_list b pl.isList hu⟩
  | int b=>obtain⟨t,rfl⟩:=r;exact⟨.list_int b t pl.isList hu,.list_int b t pl.isList hu,.int_list b t pl.isList hu,.int_list b t pl.isList hu⟩
  | str b=>obtain⟨t,rfl⟩:=r;exact⟨.list_str b t pl.isList hu,.list_str b t pl.isList hu,.str_list b t pl.isList hu,.str_list b t pl.isList hu⟩
  | _=>exact absurd (show false=true from f) Bool.false_ne_true
 ·obtain⟨its,ri,pl,_⟩:=I.tuple q
  cases v with
  | non=>cases r;exact⟨.tuple_none pl hu,.tuple_none pl hu,.none_tuple pl hu,.none_tuple pl hu⟩
  | bl b=>cases r;exact⟨.tuple_bool b pl hu,.tuple_bool b pl hu,.bool_tuple b pl hu,.bool_tuple b pl hu⟩
  | int b=>obtain⟨t,rfl⟩:=r;exact⟨.tuple_int b t pl hu,.tuple_int b t pl hu,.int_tuple b t pl hu,.int_tuple b t pl hu⟩
  | str b=>obtain⟨t,rfl⟩:=r;exact⟨.tuple_str b t pl hu,.tuple_str b t pl hu,.str_tuple b t pl hu,.str_tuple b t pl hu⟩
  | _=>exact absurd (show false=true from f) Bool.false_ne_true
def rEqT (K:PySem.W.Frag) (neg:Bool):R2:=fun x y H Q=>∃ d d',At K H d x/\At K H d' y/\dep d<=40/\Q (.bl (if neg then !deq d d' else deq d d')) H
theorem Ym (I:Inv X pins σ H s) {A:Around} {d d':Dt} {x y:V} {u v:Value} (h:At X.K H d x) (h':At X.K H d' y) (r:RelV x u) (r':RelV y v) (hr:(∃ a,x=.ref a) \/ ∃ b,y=.ref b) (hu:A.units+dep d<cLine) :
  SeqAt.RcAt A s u v (deq d d')/\SeqAt.RcNeAt A s u v (!deq d d'):=by
 by_cases hx:∃ a,x=.ref a
 ·obtain⟨a,rfl⟩:=hx
  cases r
  by_cases hy:∃ b,y=.ref b
  ·obtain⟨b,rfl⟩:=hy
   cases r'
   exact rc_D I h h' hu
  ·obtain⟨rfl,f⟩:=Ot h' (fun b e=>hy ⟨b,e⟩)
   obtain⟨q1,q2,_⟩:=Tj I h f r' (show A.units<cLine by omega)
   have e:deq d (.at_ y)=false:=by
    rcases Fd h with ⟨l,xs,rfl,_⟩|⟨l,xs,rfl,_⟩ <;> (unfold deq;rfl)
   rw [e]
   exact⟨q1,q2⟩
 ·have hy:∃ b,y=.ref b:=hr.resolve_left hx
  obtain⟨b,rfl⟩:=hy
  cases r'
  obtain⟨rfl,f⟩:=Ot h (fun b e=>hx ⟨b,e⟩)
  obtain⟨_,_,q1,q2⟩:=Tj I h' f r (show A.units<cLine by omega)
  have e:deq (.at_ x) d'=false:=by
   rcases Fd h' with ⟨l,xs,rfl,_⟩|⟨l,xs,rfl,_⟩ <;> (unfold deq;rfl)
  rw [e]
  exact⟨q1,q2⟩
theorem Qx (hu:X.A.units+64<cLine) {x y:V} {u v:Value} {Q:VK} (I:Inv X pins σ H s) (rx:RelV x u) (ry:RelV y v) (hr:(∃ a,x=.ref a) \/ ∃ b,y=.ref b) (h:rEqT X.K false x y H Q):wpAny (model X.prog X.w) X.A (compareOp .Eq u v) (EP X pins σ Q) X.xe s:=by
 obtain⟨d,d',h1,h2,hd,q⟩:=h
 exact (Ym I h1 h2 rx ry hr (A:=X.A) (by omega)).1 _ _ _ _ ⟨.bl _,H,I,rfl,q⟩
theorem Qy (hu:X.A.units+64<cLine) {x y:V} {u v:Value} {Q:VK} (I:Inv X pins σ H s) (rx:RelV x u) (ry:RelV y v) (hr:(∃ a,x=.ref a) \/ ∃ b,y=.ref b) (h:rEqT X.K true x y H Q):wpAny (model X.prog X.w) X.A (compareOp .NotEq u v) (EP X pins σ Q) X.xe s:=by
 obtain⟨d,d',h1,h2,hd,q⟩:=h
 exact (Ym I h1 h2 rx ry hr (A:=X.A) (by omega)).2 _ _ _ _ ⟨.bl _,H,I,rfl,q⟩
end
open AutoSeq1 (wpAny_loadPart')
open MeetsSeq MeetsSeq2 MeetsSeq3 SeqRoads2
def EqIn (P:Program) (w:World) (A:Around) (s:Shared) (y x:Value) (b:Bool):Prop:=∀ (E:Value->Shared->Prop) (Q:Bool->Shared->Prop),Q b s->wpAny (model P w) A (eqBool y x) Q E s
section
variable {P:Program} {w:World} {l b:Addr} {items items2:Array Value} {n n2:Nat} {dd dd2:Option Addr} {sl sl2:Array (Option Value)}
abbrev twoL (l b:Addr) (items items2:Array Value) (n n2:Nat) (dd dd2:Option Addr) (sl sl2:Array (Option Value)) (P:Program) (w:World) (r:Bool):PySem.Spec:=fun A R s=>
 s.heap.get? l=some { cls:=.type "list", dict:=dd,data:=.seq items n,slots:=sl }/\s.heap.get? b=some { cls:=.type "list", dict:=dd2,data:=.seq items2 n2,slots:=sl2 } /\
    (∀ j (h1:j<items.size) (h2:j<items2.size),EqIn P w A.in1 s items[j] items2[j] true)/\R (.ok (.ret (.bool r))) s
theorem Ui (hsz:items.size=items2.size) (k:Nat):∀ i:Nat,items.size - i=k->MeetsIn P w (Builtin.«list.__eq__.loop» ⟨[.ref l,.ref b,rawInt i,rawInt 2],[]⟩) (twoL l b items items2 n n2 dd dd2 sl sl2 P w true):=by
 induction k with
 | zero=>
  intro i hk A R s h
  obtain⟨hp,g,d,tk,os⟩:=s;obtain⟨hl,hb,he,h⟩:=h
  wp_walk using wpAny_loadPart' hl,wpAny_loadPart' hb
  have hi1:items[((i:Nat):Int).toNat]? = none:=by simp;omega
  have hi2:items2[((i:Nat):Int).toNat]? = none:=by simp;omega
  rw [hi1,hi2]
  wp_walk using wpAny_loadPart' hl,wpAny_loadPart' hb
  show R (.ok (.ret (.bool (items.size==items2.size)))) _
  rw [hsz]
  simpa using h
 | succ k ih=>
  intro i hk A R s h
  obtain⟨hp,g,d,tk,os⟩:=s;obtain⟨hl,hb,he,h⟩:=h
  wp_walk using wpAny_loadPart' hl,wpAny_loadPart' hb
  have hlt:i<items.size:=by omega
  have hlt2:i<items2.size:=by omega
  have hi1:items[((i:Nat):Int).toNat]? = some items[i]:=by simp [hlt]
  have hi2:items2[((i:Nat):Int).toNat]? = some items2[i]:=by simp [hlt2]
  have hc:((i:Int)+1)=((i+1:Nat):Int):=by push_cast;rfl
  rw [hi1,hi2]
  refine wpAny_bind (he i hlt hlt2 _ _ ?_)
  wp_walk
  rw [hc]
  exact⟨plainId_quiet plain_eq_loop _,codeAny_builtin entry_eq_loop (by
   rw [Around.under_plainId plain_eq_loop _]
   exact ih (i+1) (by omega) A R _ ⟨hl,hb,he,h⟩)⟩
theorem U8 (hsz:items.size=items2.size) (k:Nat):∀ i:Nat,items.size - i=k->MeetsIn P w (Builtin.«list.__eq__.loop» ⟨[.ref l,.ref b,rawInt i,rawInt 3],[]⟩) (twoL l b items items2 n n2 dd dd2 sl sl2 P w false):=by
 induction k with
 | zero=>
  intro i hk A R s h
  obtain⟨hp,g,d,tk,os⟩:=s;obtain⟨hl,hb,he,h⟩:=h
  wp_walk using wpAny_loadPart' hl,wpAny_loadPart' hb
  have hi1:items[((i:Nat):Int).toNat]? = none:=by simp;omega
  have hi2:items2[((i:Nat):Int).toNat]? = none:=by simp;omega
  rw [hi1,hi2]
  wp_walk using wpAny_loadPart' hl,wpAny_loadPart' hb
  show R (.ok (.ret (.bool (items.size != items2.size)))) _
  rw [hsz]
  simpa using h
 | succ k ih=>
  intro i hk A R s h
  obtain⟨hp,g,d,tk,os⟩:=s;obtain⟨hl,hb,he,h⟩:=h
  wp_walk using wpAny_loadPart' hl,wpAny_loadPart' hb
  have hlt:i<items.size:=by omega
  have hlt2:i<items2.size:=by omega
  have hi1:items[((i:Nat):Int).toNat]? = some items[i]:=by simp [hlt]
  have hi2:items2[((i:Nat):Int).toNat]? = some items2[i]:=by simp [hlt2]
  have hc:((i:Int)+1)=((i+1:Nat):Int):=by push_cast;rfl
  rw [hi1,hi2]
  refine wpAny_bind (he i hlt hlt2 _ _ ?_)
  wp_walk
  rw [hc]
  exact⟨plainId_quiet plain_eq_loop _,codeAny_builtin entry_eq_loop (by
   rw [Around.under_plainId plain_eq_loop _]
   exact ih (i+1) (by omega) A R _ ⟨hl,hb,he,h⟩)⟩
theorem Uv (hsz:items.size=items2.size):MeetsIn P w (Builtin.«list.__eq__» ⟨[.ref l,.ref b],[]⟩) (twoL l b items items2 n n2 dd dd2 sl sl2 P w true):=by
 intro A R s h
 obtain⟨hp,g,d,tk,os⟩:=s;obtain⟨hl,hb,he,h⟩:=h
 have f3:=AutoSeq1.sub_list_list
 have hne:¬ (items.size != items2.size)=true:=by simp [hsz]
 wp_walk using wpAny_loadPart' hl,wpAny_loadPart' hb
 exact⟨plainId_quiet plain_eq_loop _,codeAny_builtin entry_eq_loop (by
  rw [Around.under_plainId plain_eq_loop _]
  exact Ui hsz _ 0 rfl A R _ ⟨hl,hb,he,h⟩)⟩
theorem Uw (hsz:items.size=items2.size):MeetsIn P w (Builtin.«list.__ne__» ⟨[.ref l,.ref b],[]⟩) (twoL l b items items2 n n2 dd dd2 sl sl2 P w false):=by
 intro A R s h
 obtain⟨hp,g,d,tk,os⟩:=s;obtain⟨hl,hb,he,h⟩:=h
 have f3:=AutoSeq1.sub_list_list
 have hne:¬ (items.size != items2.size)=true:=by simp [hsz]
 wp_walk using wpAny_loadPart' hl,wpAny_loadPart' hb
 exact⟨plainId_quiet plain_eq_loop _,codeAny_builtin entry_eq_loop (by
  rw [Around.under_plainId plain_eq_loop _]
  exact U8 hsz _ 0 rfl A R _ ⟨hl,hb,he,h⟩)⟩
theorem Jl {A:Around} {E:Value->Shared->Prop} {s:Shared} {Q:Value->Shared->Prop} (hl:s.heap.IsList l items) (hb:s.heap.IsList b items2) (hsz:items.size=items2.size) (hu:A.units<cLine) (he:∀ j (h1:j<items.size) (h2:j<items2.size),EqIn P w A.in1 s items[j] items2[j] true) :
  (Q (.bool true) s->wpAny (model P w) A (compareOp .Eq (.ref l) (.ref b)) Q E s)/\(Q (.bool false) s->wpAny (model P w) A (compareOp .NotEq (.ref l) (.ref b)) Q E s):=by
 obtain⟨⟨cls,dd,data,sl⟩,ho,hc,n,hd⟩:=id hl
 obtain⟨⟨cls2,dd2,data2,sl2⟩,ho2,hc2,n2,hd2⟩:=id hb
 simp only at hc hd hc2 hd2
 subst hc hd hc2 hd2
 have t1:s.TypeIs (.ref l) "list" := ⟨_,ho,rfl⟩
 have t2:s.TypeIs (.ref b) "list" := ⟨_,ho2,rfl⟩
 refine⟨fun h=>?_,fun h=>?_⟩
 ·exact wpAny_richCompare_same_room (op:=.Eq) t1 t2 F.slot_list_eq (call_meetsIn F.slot_list_eq t1 F.entry_list_eq (F.args_list_eq_2 _ _) (Uv (n:=n) (n2:=n2) (dd:=dd) (dd2:=dd2) (sl:=sl) (sl2:=sl2) hsz) ⟨ho,ho2,he,show Value.bool true≠Value.notImplemented/\Q (.bool true) s from⟨(fun x=>nomatch x),h⟩⟩) hu
 ·exact wpAny_richCompare_same_room (op:=.NotEq) t1 t2 F.slot_list_ne (call_meetsIn F.slot_list_ne t1 F.entry_list_ne (F.args_list_ne_2 _ _) (Uw (n:=n) (n2:=n2) (dd:=dd) (dd2:=dd2) (sl:=sl) (sl2:=sl2) hsz) ⟨ho,ho2,he,show Value.bool false≠Value.notImplemented/\Q (.bool false) s from⟨(fun x=>nomatch x),h⟩⟩) hu
end
section
variable {P:Program} {w:World}
theorem Rb {l b:Addr} {items items2:Array Value} {n n2:Nat} {dd dd2:Option Addr} {sl sl2:Array (Option Value)} (hsz:items.size=items2.size) :
  MeetsIn P w (Builtin.«tuple.__ne__» ⟨[.ref l,.ref b],[]⟩)
   (fun A R s=>s.heap.get? l=some { cls:=.type "tuple", dict:=dd,data:=.seq items n,slots:=sl }/\s.heap.get? b=some { cls:=.type "tuple", dict:=dd2,data:=.seq items2 n2,slots:=sl2 } /\
    (∀ j (h1:j<items.size) (h2:j<items2.size),EqIn P w A.in1 s items[j] items2[j] true)/\R (.ok (.ret (.bool false))) s):=by
 intro A R s h
 obtain⟨hp,g,d,tk,os⟩:=s;obtain⟨hl,hb,he,h⟩:=h
 have f2:=AutoSeq1.sub_tuple_tuple
 have hZ:(items.toList.zip items2.toList).length=min items.size items2.size:=by simp
 wp_walk using wpAny_loadPart' hl,wpAny_loadPart' hb,wpAny_forIn_list _ (fun rest b s'=>b.1=none/\s'=⟨hp,g,d,tk,os⟩ /\ ∃ i,rest=(items.toList.zip items2.toList).drop i) _
 case turn=>
  rintro⟨y,x⟩ rest b s' ⟨hb',rfl,i,hz⟩
  have hlt:i<(items.toList.zip items2.toList).length:=by
   rcases Nat.lt_or_ge i (items.toList.zip items2.toList).length with h'|h'
   ·exact h'
   ·rw [List.drop_of_length_le h'] at hz;cases hz
  have hm:i<min items.size items2.size:=hZ▸hlt
  have h1:i<items.size:=Nat.lt_of_lt_of_le hm (Nat.min_le_left _ _)
  have h2:i<items2.size:=Nat.lt_of_lt_of_le hm (Nat.min_le_right _ _)
  rw [List.drop_eq_getElem_cons hlt] at hz
  injection hz with hyx hrest
  have hy:y=items[i]:=by have:=congrArg Prod.fst hyx;simpa using this
  have hx:x=items2[i]:=by have:=congrArg Prod.snd hyx;simpa using this
  subst hy hx
  refine wpAny_bind (he i h1 h2 _ _ ?_)
  wp_walk
  exact⟨rfl,rfl,i+1,hrest⟩
 case fin=>
  rintro⟨b1,b2⟩ s' ⟨hb',rfl,i,hz⟩
  simp only at hb'
  subst hb'
  wp_walk
  simpa [Builtin.Tuple.tupleCompareSizes,bne,hsz] using h
 case h=>exact⟨rfl,rfl,0,rfl⟩
theorem Vt {A:Around} {E:Value->Shared->Prop} {s:Shared} {Q:Value->Shared->Prop} {l b:Addr} {items items2:Array Value} (hl:s.heap.IsTuple l items) (hb:s.heap.IsTuple b items2) (hsz:items.size=items2.size) (hu:A.units<cLine) (he:∀ j (h1:j<items.size) (h2:j<items2.size),EqIn P w A.in1 s items[j] items2[j] true) (h:Q (.bool false) s) :
  wpAny (model P w) A (compareOp .NotEq (.ref l) (.ref b)) Q E s:=by
 obtain⟨⟨cls,dd,data,sl⟩,ho,hc,n,hd⟩:=id hl
 obtain⟨⟨cls2,dd2,data2,sl2⟩,ho2,hc2,n2,hd2⟩:=id hb
 simp only at hc hd hc2 hd2
 subst hc hd hc2 hd2
 have t1:s.TypeIs (.ref l) "tuple" := ⟨_,ho,rfl⟩
 have t2:s.TypeIs (.ref b) "tuple" := ⟨_,ho2,rfl⟩
 exact wpAny_richCompare_same_room (op:=.NotEq) t1 t2 F.slot_tuple_ne (call_meetsIn F.slot_tuple_ne t1 F.entry_tuple_ne (F.args_tuple_ne_2 _ _) (Rb (n:=n) (n2:=n2) (dd:=dd) (dd2:=dd2) (sl:=sl) (sl2:=sl2) hsz) ⟨ho,ho2,he,show Value.bool false≠Value.notImplemented/\Q (.bool false) s from⟨(fun x=>nomatch x),h⟩⟩) hu
end
def Nw (K:PySem.W.Frag) (H:Hp) (a b:Addr):Prop:=∃ (kvs kvs':List (Key×V)) (ds:List Dt),Rd H a (.dK kvs)/\Rd H b (.dK kvs')/\kvs.map (·.1)=kvs'.map (·.1)/\AtL K H ds (kvs.map (·.2))/\AtL K H ds (kvs'.map (·.2))/\deps ds<=40
def Rk (K:PySem.W.Frag) (H:Hp) (x y:V):Prop:=(∃ d,At K H d x/\At K H d y/\dep d<=30) \/ ∃ a b,x=.ref a/\y=.ref b/\Nw K H a b
def V9 (K:PySem.W.Frag) (H:Hp) (x y:V):Prop:=Rk K H x y \/ ∃ a b xs ys,x=.ref a/\y=.ref b/\SqL K H a xs/\SqL K H b ys/\xs.length=ys.length /\ ∀ (i:Nat) x y,xs[i]? = some x->ys[i]? = some y->Rk K H x y
def rEqC (K:PySem.W.Frag) (neg:Bool):R2:=fun x y H Q=>match x,y with
 | .ref a,.ref b=>(Nw K H a b/\Q (.bl (!neg)) H)\/(∃ kvs,Rd H a (.dK kvs)/\Rd H b (.dK [])/\Q (.bl (if neg then !kvs.isEmpty else kvs.isEmpty)) H) \/
   (∃ xs ys,SqL K H a xs/\SqL K H b ys/\xs.length=ys.length/\(∀ (i:Nat) x y,xs[i]? = some x->ys[i]? = some y -> ∃ a b,x=.ref a/\y=.ref b/\Nw K H a b)/\Q (.bl (!neg)) H) \/
   (neg=true /\ ∃ xs ys,SqT K H a xs/\SqT K H b ys/\xs.length=ys.length/\(∀ (i:Nat) x y,xs[i]? = some x->ys[i]? = some y->V9 K H x y)/\Q (.bl false) H) \/
   (∃ xs ys,SqL K H a xs/\SqL K H b ys/\xs.length≠ys.length/\Q (.bl neg) H)
 | _,_=>False
theorem Fx {K:PySem.W.Frag} {H:Hp}:∀ {ds:List Dt} {xs:List V} {i:Nat} {x:V},AtL K H ds xs->xs[i]? = some x -> ∃ d,ds[i]? = some d/\At K H d x
 | [],xs,i,x,h,e=>by unfold AtL at h;subst h;simp at e
 | d::ds,xs,0,x,h,e=>by
  unfold AtL at h
  obtain⟨y,ys,rfl,h1,_⟩:=h
  simp at e
  subst e
  exact⟨d,rfl,h1⟩
 | d::ds,xs,i+1,x,h,e=>by
  unfold AtL at h
  obtain⟨y,ys,rfl,_,h2⟩:=h
  obtain⟨d',e1,e2⟩:=Fx h2 (by simpa using e)
  exact⟨d',by simpa using e1,e2⟩
theorem Ob:∀ {ds:List Dt} {i:Nat} {d:Dt},ds[i]? = some d->dep d<=deps ds
 | [],_,_,h=>by simp at h
 | x::ds,0,d,h=>by
  simp at h
  subst h
  exact Nat.le_max_left _ _
 | x::ds,i+1,d,h=>Nat.le_trans (Ob (ds:=ds) (i:=i) (by simpa using h)) (Nat.le_max_right _ _)
theorem Ol {A:Around} {s:Shared} {kb:List (Key×Value)}:∀ {l:List (Key×Value)},(∀ p∈l,∃ y,valueAt kb p.1=some y/\SeqAt.EqAt A s p.2 y true)->PySem.W.KeqHits A s kb l true
 | [],_=>.nil
 | (k,v)::l,h=>by
  obtain⟨y,h1,h2⟩:=h (k,v) List.mem_cons_self
  exact .hit (e:=true) (b:=true) h1 h2 (Ol fun p hp=>h p (List.mem_cons_of_mem _ hp))
theorem Zj {κ:Type} [DecidableEq κ]:∀ {kvs:List (κ×V)} {i:Nat} {k:κ} {v:V},(kvs.map (·.1)).Nodup->kvs[i]? = some (k,v)->valV kvs k=some v
 | [],i,k,v,_,h=>by simp at h
 | p::r,0,k,v,_,h=>by
  simp at h
  subst h
  exact D6 rfl
 | p::r,i+1,k,v,nd,h=>by
  rw [List.map_cons,List.nodup_cons] at nd
  have h:r[i]? = some (k,v):=by simpa using h
  rw [Df (fun e=>nd.1 (by rw [e];exact List.mem_map.mpr ⟨_,List.mem_of_getElem? h,rfl⟩))]
  exact Zj nd.2 h
section
variable {X:Cx} {pins:List (Addr×Obj)} {σ:St} {H:Hp} {s:Shared}
theorem Si:∀ {kvs:List (Key×V)} {vs:List (Key×Value)} {i:Nat} {k:Key} {u:Value},KV kvs vs->vs[i]? = some (k,u) -> ∃ v,kvs[i]? = some (k,v)/\RelV v u
 | _,_,0,k,u,.cons (a:=p) r _,e=>by
  simp only [List.getElem?_cons_zero,Option.some.injEq] at e
  subst e
  exact⟨p.2,congrArg some (Prod.ext r.1 rfl),r.2⟩
 | _,_,i+1,k,u,.cons r t,e=>by
  simp only [List.getElem?_cons_succ] at e ⊢
  exact Si t e
theorem Hd {A:Around} {a b:Addr} (I:Inv X pins σ H s) (h:Nw X.K H a b) (hu:A.units+40<cLine):∃ ka kb,(a==sysModules)=false/\(b==sysModules)=false/\s.heap.DictOf (A0 X.prog X.w) a ka/\s.heap.DictOf (A0 X.prog X.w) b kb/\ka.length=kb.length/\PySem.W.KeqHits A s kb ka true:=by
 obtain⟨kvs,kvs',ds,h1,h2,hk,t1,t2,hd⟩:=h
 obtain⟨_,z1,ka,r1,d1⟩:=Eo I.hok h1
 obtain⟨_,z2,kb,r2,d2⟩:=Eo I.hok h2
 have nd:(kvs'.map (·.1)).Nodup:=by
  rw [r2.keys]
  obtain⟨_,_,_,_,_,_,_,_,nd⟩:=id d2
  exact nd
 have len:kvs.length=kvs'.length:=by have:=congrArg List.length hk;simpa using this
 refine⟨ka,kb,z1,z2,d1,d2,by rw [<- r1.length,<- r2.length,len],Ol fun p hp=>?_⟩
 obtain⟨i,hi⟩:=List.mem_iff_getElem?.mp hp
 obtain⟨k,u⟩:=p
 obtain⟨x,hx,rx⟩:=Si r1 hi
 have hi':i<kvs'.length:=by rw [<- len];exact (List.getElem?_eq_some_iff.mp hx).1
 obtain⟨⟨k',x'⟩,hx'⟩:∃ q,kvs'[i]? = some q:=⟨_,List.getElem?_eq_getElem hi'⟩
 have ek:k'=k:=by
  have e1:(kvs.map (·.1))[i]? = some k:=by rw [List.getElem?_map,hx];rfl
  have e2:(kvs'.map (·.1))[i]? = some k':=by rw [List.getElem?_map,hx'];rfl
  rw [hk,e2] at e1
  exact Option.some.inj e1
 subst ek
 have hv:=r2.val k'
 rw [Zj nd hx'] at hv
 obtain⟨y,hy,ry⟩:∃ y,valueAt kb k'=some y/\RelV x' y:=by
  cases e:valueAt kb k' with
  | none=>rw [e] at hv;cases hv
  | some y=>rw [e] at hv;exact⟨y,rfl,hv⟩
 obtain⟨d,hd1,a1⟩:=Fx t1 (i:=i) (x:=x) (by rw [List.getElem?_map,hx];rfl)
 obtain⟨d',hd2,a2⟩:=Fx t2 (i:=i) (x:=x') (by rw [List.getElem?_map,hx'];rfl)
 rw [hd1] at hd2
 cases hd2
 have dl:=Ob hd1
 refine⟨y,hy,?_⟩
 have:=Qe I d d A x x' u y a1 a2 rx ry (by omega)
 rwa [Ew a1] at this
theorem Na {A:Around} {a b:Addr} (I:Inv X pins σ H s) (h:Nw X.K H a b) (hu:A.units+41<cLine):EqIn X.prog X.w A s (.ref a) (.ref b) true:=by
 intro E Q hq
 by_cases e:a=b
 ·subst e
  exact SeqAt.EqAt.same _ _ _ _ _ hq
 ·obtain⟨ka,kb,z1,z2,d1,d2,len,hits⟩:=Hd (A:=A.in1) I h (by show A.units+1+40<cLine;omega)
  unfold eqBool
  refine wpAny_holding ?_
  refine wpAny_ite_split (fun hab=>absurd (by have:=eq_of_beq hab;injection this) e) (fun _=>?_)
  refine wpAny_bind (PySem.W.keq_eq z1 z2 d1 d2 (by omega) (fun _=>hits) ?_)
  rw [len,beq_self_eq_true]
  exact wpAny_truthy_bool hq
theorem Ph {A:Around} {x y:V} {u v:Value} (I:Inv X pins σ H s) (h:Rk X.K H x y) (rx:RelV x u) (ry:RelV y v) (hu:A.units+41<cLine):EqIn X.prog X.w A s u v true:=by
 rcases h with ⟨d,a1,a2,hd⟩|⟨a,b,rfl,rfl,sd⟩
 ·have:=Qe I d d A x y u v a1 a2 rx ry (by omega)
  rw [Ew a1] at this
  exact fun E Q hq=>this _ _ E Q hq
 ·cases rx;cases ry
  exact Na I sd hu
theorem Yp {A:Around} {x y:V} {u v:Value} (I:Inv X pins σ H s) (h:V9 X.K H x y) (rx:RelV x u) (ry:RelV y v) (hu:A.units+42<cLine):EqIn X.prog X.w A s u v true:=by
 rcases h with h|⟨a,b,xs,ys,rfl,rfl,h1,h2,len,h3⟩
 ·exact Ph I h rx ry (by omega)
 ·cases rx;cases ry
  intro E Q hq
  by_cases e:a=b
  ·subst e
   exact SeqAt.EqAt.same _ _ _ _ _ hq
  ·obtain⟨its,ri,pl,_⟩:=I.list h1
   obtain⟨its',ri',pl',_⟩:=I.list h2
   have e3:=ri.length
   have e4:=ri'.length
   unfold eqBool
   refine wpAny_holding ?_
   refine wpAny_ite_split (fun hab=>absurd (by have:=eq_of_beq hab;injection this) e) (fun _=>?_)
   refine wpAny_bind ((Jl pl.isList pl'.isList (by simp;omega) (by omega) fun j j1 j2=>?_).1 (wpAny_truthy_bool hq))
   have j1:j<its.length:=by simpa using j1
   have j2:j<its'.length:=by simpa using j2
   obtain⟨u1,g1,r1⟩:=ri.get (List.getElem?_eq_getElem (show j<xs.length by omega))
   obtain⟨u2,g2,r2⟩:=ri'.get (List.getElem?_eq_getElem (show j<ys.length by omega))
   have f1:its[j]=u1:=by rw [List.getElem?_eq_getElem j1] at g1;exact Option.some.inj g1
   have f2:its'[j]=u2:=by rw [List.getElem?_eq_getElem j2] at g2;exact Option.some.inj g2
   simp only [List.getElem_toArray]
   rw [f1,f2]
   exact Ph I (h3 j _ _ (List.getElem?_eq_getElem (by omega)) (List.getElem?_eq_getElem (by omega))) r1 r2 (by show A.units+1+41<cLine;omega)
theorem ak8 (hu:X.A.units+64<cLine) {x y:V} {u v:Value} {Q:VK} (I:Inv X pins σ H s) (rx:RelV x u) (ry:RelV y v) (h:rEqC X.K false x y H Q):wpAny (model X.prog X.w) X.A (compareOp .Eq u v) (EP X pins σ Q) X.xe s:=by
 cases x <;> cases y <;> first|exact (show False from h).elim|skip
 cases rx;cases ry
 rcases h with ⟨h,q⟩|⟨kvs,h1,h2,q⟩|⟨xs,ys,h1,h2,len,h3,q⟩|⟨z,_⟩|⟨xs,ys,h1,h2,len,q⟩
 rotate_right
 ·obtain⟨its,ri,pl,_⟩:=I.list h1
  obtain⟨its',ri',pl',_⟩:=I.list h2
  have e3:=ri.length
  have e4:=ri'.length
  exact SeqAt.RcAt.lists_lengths pl.isList pl'.isList (by simp;omega) (by omega) _ _ _ _ ⟨.bl _,H,I,rfl,q⟩
 rotate_right
 ·cases z
 ·obtain⟨ka,kb,z1,z2,d1,d2,len,hits⟩:=Hd (A:=X.A.in1) I h (by show X.A.units+1+40<cLine;omega)
  refine PySem.W.keq_eq z1 z2 d1 d2 (by omega) (fun _=>hits) ?_
  rw [len,beq_self_eq_true]
  exact⟨.bl true,H,I,rfl,q⟩
 ·obtain⟨_,z1,ka,r1,d1⟩:=Eo I.hok h1
  obtain⟨_,z2,kb,r2,d2⟩:=Eo I.hok h2
  cases r2
  refine PySem.W.keq_eq (r:=true) z1 z2 d1 d2 (by omega) (fun e=>?_) ?_
  ·rw [List.length_eq_zero_iff.mp e];exact .nil
  ·have e:(ka.length==([]:List (Key×Value)).length&&true)=kvs.isEmpty:=by
    rw [Bool.and_true,<- r1.length]
    cases kvs <;> rfl
   rw [e]
   exact⟨.bl _,H,I,rfl,q⟩
 ·obtain⟨its,ri,pl,_⟩:=I.list h1
  obtain⟨its',ri',pl',_⟩:=I.list h2
  have e3:=ri.length
  have e4:=ri'.length
  refine (Jl pl.isList pl'.isList (by simp;omega) (by omega) fun j j1 j2=>?_).1 ⟨.bl true,H,I,rfl,q⟩
  have j1:j<its.length:=by simpa using j1
  have j2:j<its'.length:=by simpa using j2
  have jx:j<xs.length:=by omega
  have jy:j<ys.length:=by omega
  obtain⟨a,b,ea,eb,sd⟩:=h3 j _ _ (List.getElem?_eq_getElem jx) (List.getElem?_eq_getElem jy)
  obtain⟨u1,g1,r1⟩:=ri.get (List.getElem?_eq_getElem jx)
  obtain⟨u2,g2,r2⟩:=ri'.get (List.getElem?_eq_getElem jy)
  rw [ea] at r1
  rw [eb] at r2
  have f1:its[j]=.ref a:=by rw [List.getElem?_eq_getElem j1] at g1;exact (Option.some.inj g1).trans r1
  have f2:its'[j]=.ref b:=by rw [List.getElem?_eq_getElem j2] at g2;exact (Option.some.inj g2).trans r2
  simp only [List.getElem_toArray]
  rw [f1,f2]
  exact Na I sd (by show X.A.units+1+41<cLine;omega)
theorem al3 (hu:X.A.units+64<cLine) {x y:V} {u v:Value} {Q:VK} (I:Inv X pins σ H s) (rx:RelV x u) (ry:RelV y v) (h:rEqC X.K true x y H Q):wpAny (model X.prog X.w) X.A (compareOp .NotEq u v) (EP X pins σ Q) X.xe s:=by
 cases x <;> cases y <;> first|exact (show False from h).elim|skip
 cases rx;cases ry
 rcases h with ⟨h,q⟩|⟨kvs,h1,h2,q⟩|⟨xs,ys,h1,h2,len,h3,q⟩|⟨_,xs,ys,h1,h2,len,h3,q⟩|⟨xs,ys,h1,h2,len,q⟩
 rotate_right
 ·obtain⟨its,ri,pl,_⟩:=I.list h1
  obtain⟨its',ri',pl',_⟩:=I.list h2
  have e3:=ri.length
  have e4:=ri'.length
  exact SeqAt.RcNeAt.lists_lengths pl.isList pl'.isList (by simp;omega) (by omega) _ _ _ _ ⟨.bl _,H,I,rfl,q⟩
 rotate_right
 ·obtain⟨its,ri,pl,_⟩:=I.tuple h1
  obtain⟨its',ri',pl',_⟩:=I.tuple h2
  have e3:=ri.length
  have e4:=ri'.length
  refine Vt (IsTup.isTuple pl) (IsTup.isTuple pl') (by rw [List.size_toArray,List.size_toArray];omega) (by omega) (fun j j1 j2=>?_) ⟨.bl false,H,I,rfl,q⟩
  have j1:j<its.length:=by simpa using j1
  have j2:j<its'.length:=by simpa using j2
  obtain⟨u1,g1,r1⟩:=ri.get (List.getElem?_eq_getElem (show j<xs.length by omega))
  obtain⟨u2,g2,r2⟩:=ri'.get (List.getElem?_eq_getElem (show j<ys.length by omega))
  have f1:its[j]=u1:=by rw [List.getElem?_eq_getElem j1] at g1;exact Option.some.inj g1
  have f2:its'[j]=u2:=by rw [List.getElem?_eq_getElem j2] at g2;exact Option.some.inj g2
  simp only [List.getElem_toArray]
  rw [f1,f2]
  exact Yp I (h3 j _ _ (List.getElem?_eq_getElem (by omega)) (List.getElem?_eq_getElem (by omega))) r1 r2 (by show X.A.units+1+42<cLine;omega)
 ·obtain⟨ka,kb,z1,z2,d1,d2,len,hits⟩:=Hd (A:=X.A.in1) I h (by show X.A.units+1+40<cLine;omega)
  refine PySem.W.keq_ne z1 z2 d1 d2 (by omega) (fun _=>hits) ?_
  rw [len,beq_self_eq_true]
  exact⟨.bl false,H,I,rfl,q⟩
 ·obtain⟨_,z1,ka,r1,d1⟩:=Eo I.hok h1
  obtain⟨_,z2,kb,r2,d2⟩:=Eo I.hok h2
  cases r2
  refine PySem.W.keq_ne (r:=true) z1 z2 d1 d2 (by omega) (fun e=>?_) ?_
  ·rw [List.length_eq_zero_iff.mp e];exact .nil
  ·have e:(!(ka.length==([]:List (Key×Value)).length&&true)) = !kvs.isEmpty:=by
    rw [Bool.and_true,<- r1.length]
    cases kvs <;> rfl
   rw [e]
   exact⟨.bl _,H,I,rfl,q⟩
 ·obtain⟨its,ri,pl,_⟩:=I.list h1
  obtain⟨its',ri',pl',_⟩:=I.list h2
  have e3:=ri.length
  have e4:=ri'.length
  refine (Jl pl.isList pl'.isList (by simp;omega) (by omega) fun j j1 j2=>?_).2 ⟨.bl false,H,I,rfl,q⟩
  have j1:j<its.length:=by simpa using j1
  have j2:j<its'.length:=by simpa using j2
  have jx:j<xs.length:=by omega
  have jy:j<ys.length:=by omega
  obtain⟨a,b,ea,eb,sd⟩:=h3 j _ _ (List.getElem?_eq_getElem jx) (List.getElem?_eq_getElem jy)
  obtain⟨u1,g1,r1⟩:=ri.get (List.getElem?_eq_getElem jx)
  obtain⟨u2,g2,r2⟩:=ri'.get (List.getElem?_eq_getElem jy)
  rw [ea] at r1
  rw [eb] at r2
  have f1:its[j]=.ref a:=by rw [List.getElem?_eq_getElem j1] at g1;exact (Option.some.inj g1).trans r1
  have f2:its'[j]=.ref b:=by rw [List.getElem?_eq_getElem j2] at g2;exact (Option.some.inj g2).trans r2
  simp only [List.getElem_toArray]
  rw [f1,f2]
  exact Na I sd (by show X.A.units+1+41<cLine;omega)
end
end L2
namespace L2
open PySem PySem.Spec PyProof.Rows
def rNo:R2:=fun _ _ _ _=>False
def Ao (K:PySem.W.Frag):R2:=fun x y H Q=>match x,y with
 | .int i,.int j=>Q (.int (i+j)) H
 | .str a,.str b=>a.length+b.length<=sizeLine/\Q (.str (a++b)) H
 | .ref a,.ref b=>rCat (.ref a) (.ref b) H Q\/ag7 K (.ref a) (.ref b) H Q\/ag6 K (.ref a) (.ref b) H Q
 | _,_=>False
def Pd:R2:=fun x y H Q=>match x,y with
 | .int i,.int j=>Q (.int (i - j)) H
 | _,_=>False
def Cc:R2:=fun x y H Q=>match x,y with
 | .int i,.int j=>CMul i j/\Q (.int (i * j)) H
 | _,_=>False
def A5:R2:=fun x y H Q=>match x,y with
 | .int i,.int j=>CDiv i j/\Q (.int (i / j)) H
 | _,_=>False
def Ar:R2:=fun x y H Q=>match x,y with
 | .int i,.int j=>0<j/\Q (.int (i % j)) H
 | _,_=>False
def a03:R2:=fun x y H Q=>match x,y with
 | _,_=>False
def Ti:R2:=fun x y H Q=>match x,y with
 | .int i,.int j=>CPow i j/\Q (.int (i * 2 ^ j.toNat)) H
 | _,_=>False
def Yj:R2:=fun x y H Q=>match x,y with
 | .int i,.int j=>0<=j/\Q (.int (i / 2 ^ j.toNat)) H
 | _,_=>False
def Jw:R2:=fun x y H Q=>match x,y with
 | .int i,.int j=>Q (.int (Builtin.bitAnd i j)) H
 | _,_=>False
def rOrD:R2:=fun x y H Q=>match x,y with
 | .int i,.int j=>Q (.int (Builtin.bitOr i j)) H
 | _,_=>False
def a05:R2:=fun x y H Q=>match x,y with
 | _,_=>False
def rOp (K:PySem.W.Frag):Operator->R2
 | .Add=>Ao K
 | .Sub=>Pd
 | .Mult=>Cc
 | .FloorDiv=>A5
 | .Mod=>Ar
 | .Pow=>a03
 | .LShift=>Ti
 | .RShift=>Yj
 | .BitAnd=>Jw
 | .BitOr=>rOrD
 | .BitXor=>a05
 | _=>rNo
section
variable {X:Cx}
theorem op_D (op:Operator):OpR X (binaryOp op) (rOp X.K op):=by
 intro pins s σ H x y v u Q I rx ry h
 cases op with
 | Add=>
  cases x <;> cases y <;> first
   | exact (show False from h).elim
   | exact ak6 pins s σ H _ _ v u Q I rx ry ⟨_,_,rfl,rfl,h⟩
   | exact Qw pins s σ H _ _ v u Q I rx ry ⟨_,_,rfl,rfl,h⟩
   | exact (op_cat.or (op_catT.or aa6)) pins s σ H _ _ v u Q I rx ry h
 | Sub=>cases x <;> cases y <;> first|exact (show False from h).elim|exact al7 pins s σ H _ _ v u Q I rx ry ⟨_,_,rfl,rfl,h⟩
 | Mult=>cases x <;> cases y <;> first|exact (show False from h).elim|exact al2 pins s σ H _ _ v u Q I rx ry ⟨_,_,rfl,rfl,h⟩
 | FloorDiv=>cases x <;> cases y <;> first|exact (show False from h).elim|exact aa7 pins s σ H _ _ v u Q I rx ry ⟨_,_,rfl,rfl,h⟩
 | Mod=>cases x <;> cases y <;> first|exact (show False from h).elim|exact al1 pins s σ H _ _ v u Q I rx ry ⟨_,_,rfl,rfl,h⟩
 | Pow=>exact (show False from h).elim
 | LShift=>cases x <;> cases y <;> first|exact (show False from h).elim|exact al5 pins s σ H _ _ v u Q I rx ry ⟨_,_,rfl,rfl,h⟩
 | RShift=>cases x <;> cases y <;> first|exact (show False from h).elim|exact al6 pins s σ H _ _ v u Q I rx ry ⟨_,_,rfl,rfl,h⟩
 | BitAnd=>cases x <;> cases y <;> first|exact (show False from h).elim|exact ak7 pins s σ H _ _ v u Q I rx ry ⟨_,_,rfl,rfl,h⟩
 | BitOr=>cases x <;> cases y <;> first|exact (show False from h).elim|exact ay9 pins s σ H _ _ v u Q I rx ry ⟨_,_,rfl,rfl,h⟩
 | BitXor=>exact (show False from h).elim
 | _=>exact (show False from h).elim
end
def rEqD (K:PySem.W.Frag) (neg:Bool):R2:=fun x y H Q=>match x,y with
 | .ref a,.ref b=>rEqL K neg (.ref a) (.ref b) H Q\/rEqT K neg (.ref a) (.ref b) H Q\/rEqC K neg (.ref a) (.ref b) H Q
 | .ref a,y=>rEqT K neg (.ref a) y H Q
 | x,.ref b=>rEqT K neg x (.ref b) H Q
 | .int i,.int j=>Q (.bl (if neg then !decide (i=j) else decide (i=j))) H
 | .str i,.str j=>Q (.bl (if neg then !decide (i=j) else decide (i=j))) H
 | .bl i,.bl j=>Q (.bl (if neg then !(i==j) else (i==j))) H
 | x,y=>scal x y=true/\Q (.bl (if neg then !decide (x=y) else decide (x=y))) H
def rLtD:R2:=fun x y H Q=>match x,y with
 | .int i,.int j=>Q (.bl (decide (i<j))) H
 | .str i,.str j=>Q (.bl (decide (i.cps.toList<j.cps.toList))) H
 | _,_=>False
def rLeD:R2:=fun x y H Q=>match x,y with
 | .int i,.int j=>Q (.bl (decide (i<=j))) H
 | .str i,.str j=>Q (.bl (!decide (j.cps.toList<i.cps.toList))) H
 | _,_=>False
def rGtD:R2:=fun x y H Q=>match x,y with
 | .int i,.int j=>Q (.bl (decide (j<i))) H
 | _,_=>False
def rGeD:R2:=fun x y H Q=>match x,y with
 | .int i,.int j=>Q (.bl (decide (j<=i))) H
 | _,_=>False
def rInD (K:PySem.W.Frag) (neg:Bool):R2:=fun x y H Q=>match x,y with
 | x,.ref p=>rIn K neg x (.ref p) H Q \/ ∃ o,DGet H p x o/\Q (.bl (if neg then !o.isSome else o.isSome)) H
 | _,_=>False
def rIsD (neg:Bool):R2:=fun x y H Q=>match y with
 | .non=>Q (.bl (if neg then !decide (x=.non) else decide (x=.non))) H
 | .bl d=>(match x with
  | .bl c=>Q (.bl (if neg then !(c==d) else (c==d))) H
  | _=>False)
 | _=>False
def rCmp (K:PySem.W.Frag):CmpOp->R2
 | .Eq=>rEqD K false
 | .NotEq=>rEqD K true
 | .Lt=>rLtD
 | .LtE=>rLeD
 | .Gt=>rGtD
 | .GtE=>rGeD
 | .In=>rInD K false
 | .NotIn=>rInD K true
 | .Is=>rIsD false
 | .IsNot=>rIsD true
section
variable {X:Cx}
theorem K5 (hu:X.A.units+64<cLine) (op:CmpOp):OpR X (compareOp op) (rCmp X.K op):=by
  intro pins s σ H x y v u Q I rx ry h
  cases op with
  | Eq=>
    cases x <;> cases y <;> first
      | (rcases h with h|h|h
         . exact ak9 (by omega) pins s σ H _ _ v u Q I rx ry h
         . exact Qx hu I rx ry (.inl ⟨_,rfl⟩) h
         . exact ak8 hu I rx ry h)
      | exact Qx hu I rx ry (.inl ⟨_,rfl⟩) h
      | exact Qx hu I rx ry (.inr ⟨_,rfl⟩) h
      | exact Ss pins s σ H _ _ v u Q I rx ry h
      | exact Ss pins s σ H _ _ v u Q I rx ry ⟨rfl,by rw [Hx,Bool.beq_eq_decide_eq];exact h⟩
      | exact Ss pins s σ H _ _ v u Q I rx ry ⟨rfl,by rw [Hy,Bool.beq_eq_decide_eq];exact h⟩
      | exact Ss pins s σ H _ _ v u Q I rx ry ⟨rfl,by rw [Ms];exact h⟩
  | NotEq=>
    cases x <;> cases y <;> first
      | (rcases h with h|h|h
         . exact al4 (by omega) pins s σ H _ _ v u Q I rx ry h
         . exact Qy hu I rx ry (.inl ⟨_,rfl⟩) h
         . exact al3 hu I rx ry h)
      | exact Qy hu I rx ry (.inl ⟨_,rfl⟩) h
      | exact Qy hu I rx ry (.inr ⟨_,rfl⟩) h
      | exact Sv pins s σ H _ _ v u Q I rx ry h
      | exact Sv pins s σ H _ _ v u Q I rx ry ⟨rfl,by rw [Hx,Bool.beq_eq_decide_eq];exact h⟩
      | exact Sv pins s σ H _ _ v u Q I rx ry ⟨rfl,by rw [Hy,Bool.beq_eq_decide_eq];exact h⟩
      | exact Sv pins s σ H _ _ v u Q I rx ry ⟨rfl,by rw [Ms];exact h⟩
  | Lt=>cases x <;> cases y <;> first|exact (show False from h).elim|exact ay8 pins s σ H _ _ v u Q I rx ry ⟨_,_,rfl,rfl,h⟩|exact Ve pins s σ H _ _ v u Q I rx ry ⟨_,_,rfl,rfl,h⟩
  | LtE=>cases x <;> cases y <;> first|exact (show False from h).elim|exact ay7 pins s σ H _ _ v u Q I rx ry ⟨_,_,rfl,rfl,h⟩|exact Vd pins s σ H _ _ v u Q I rx ry ⟨_,_,rfl,rfl,h⟩
  | Gt=>cases x <;> cases y <;> first|exact (show False from h).elim|exact ay6 pins s σ H _ _ v u Q I rx ry ⟨_,_,rfl,rfl,h⟩
  | GtE=>cases x <;> cases y <;> first|exact (show False from h).elim|exact ay5 pins s σ H _ _ v u Q I rx ry ⟨_,_,rfl,rfl,h⟩
  | In=>cases x <;> cases y <;> first|exact (show False from h).elim|exact h.elim (Vc pins s σ H _ _ v u Q I rx ry) fun⟨o,g,q⟩=>by cases ry;exact d_in (by omega) I g rx fun s' I'=>⟨.bl _,H,I',rfl,q⟩
  | NotIn=>cases x <;> cases y <;> first|exact (show False from h).elim|exact h.elim (M4 pins s σ H _ _ v u Q I rx ry) fun⟨o,g,q⟩=>by cases ry;exact Zx (by omega) I g rx fun s' I'=>⟨.bl _,H,I',rfl,q⟩
  | Is=>cases y <;> first|exact (show False from h).elim|exact al0 pins s σ H _ _ v u Q I rx ry ⟨rfl,h⟩|(cases x <;> first|exact (show False from h).elim|(cases rx;cases ry;exact is_bool ⟨.bl _,H,I,rfl,h⟩))
  | IsNot=>cases y <;> first|exact (show False from h).elim|exact aa8 pins s σ H _ _ v u Q I rx ry ⟨rfl,h⟩|(cases x <;> first|exact (show False from h).elim|(cases rx;cases ry;exact isnot_bool ⟨.bl _,H,I,rfl,h⟩))
end
def Tg:V->Hp->VK->Prop:=fun x H Q=>match x with
 | .int i=>Q (.int (-i)) H
 | _=>False
theorem un_D {X:Cx}:UnR X (unaryOp .USub) Tg:=by
 intro pins s σ H x v Q I rx h
 cases x <;> first|exact (show False from h).elim|exact as9 pins s σ H _ v Q I rx ⟨_,rfl,h⟩
def Te:V->Hp->VK->Prop:=fun x H Q=>match x with
 | .int i=>Q (.int (Builtin.bitNot i)) H
 | _=>False
theorem av3 {X:Cx}:UnR X (unaryOp .Invert) Te:=by
 intro pins s σ H x v Q I rx h
 cases x <;> first|exact (show False from h).elim|exact as8 pins s σ H _ v Q I rx ⟨_,rfl,h⟩
theorem Tw {X:Cx}:TruR X (truD X.K):=by
 intro pins s σ H x v Q I rx h
 cases x with
 | non=>exact Kd pins s σ H _ v Q I rx ⟨_,rfl,h⟩
 | bl b=>exact Kd pins s σ H _ v Q I rx ⟨_,rfl,h⟩
 | int i=>exact Kd pins s σ H _ v Q I rx ⟨_,rfl,h⟩
 | str y=>exact Kd pins s σ H _ v Q I rx ⟨_,⟨h.1,rfl⟩,h.2⟩
 | ref p=>exact Kd pins s σ H _ v Q I rx h
 | _=>exact (show False from h).elim
inductive SqX (K:PySem.W.Frag) (H:Hp) (p:Addr) (i:Int) (xs:List V):Prop where
 | inl (h:SqL K H p xs)
 | inr (h:SqT K H p xs)
 | dk (h:∀ v,atI xs i=some v->DGet H p (.int i) (some v))
def rIxD (K:PySem.W.Frag):R2:=fun x y H Q=>match x,y with
 | .str z,.int i=>z.length<=sizeLine /\ ∃ c,atI z.cps.toList i=some c/\Q (.str ⟨#[c]⟩) H
 | .ref p,.int i=>∃ xs v,SqX K H p i xs/\atI xs i=some v/\Q v H
 | .ref p,.str k=>∃ v,DGet H p (.str k) (some v)/\Q v H
 | .ref p,.ref b=>∃ v,DGet H p (.ref b) (some v)/\Q v H
 | _,_=>False
theorem ix_D {X:Cx} (hu:X.A.units+64<cLine):IxR X (rIxD X.K):=by
  intro value slice pins s σ H x y v u Q I rx ry h hs
  cases x <;> cases y <;> first
    | exact (show False from h).elim
    | (obtain⟨h1,c,h2,h3⟩:=h;exact ai9 value slice pins s σ H _ _ v u Q I rx ry ⟨_,_,c,rfl,rfl,h1,h2,h3⟩ hs)
    | (obtain⟨xs,w,h1|h1|h1,h2,h3⟩:=h
       . exact Z7 value slice pins s σ H _ _ v u Q I rx ry ⟨_,_,_,_,rfl,rfl,h1,h2,h3⟩ hs
       . exact aj0 value slice pins s σ H _ _ v u Q I rx ry ⟨_,_,_,_,rfl,rfl,h1,h2,h3⟩ hs
       . exact Sf hu value slice pins s σ H _ _ v u Q I rx ry ⟨_,w,rfl,h1 w h2,h3⟩ hs)
    | (obtain⟨w,h1,h2⟩:=h;exact Sf hu value slice pins s σ H _ _ v u Q I rx ry ⟨_,w,rfl,h1,h2⟩ hs)
def Yk:V->V->V->Hp->(Hp->Prop)->Prop:=fun o i v H N=>match o,i with
 | .ref p,.int k=>(∃ xs j,H p=some (.lst xs)/\ixN xs.length k=some j/\N (upd H p (.lst (xs.set j v)))) \/ ∃ H',DPut H p (.int k) v H'/\N H'
 | .ref p,i=>∃ H',DPut H p i v H'/\N H'
 | _,_=>False
theorem a59 {X:Cx} (hu:X.A.units+64<cLine):PSet X Yk:=by
 intro pins s σ H o i v ov iv u Q I ro ri rv h
 cases o with
 | ref p=>
  have dp:∀ {H'},DPut H p i v H'->Q H'->wpAny (model X.prog X.w) X.A (setItem ov iv u) (fun _ s'=>∃ H',Inv X pins σ H' s'/\Q H') X.xe s:=fun {H'} g q=>by
   cases ro
   exact Uf (by omega) I g ri rv fun s' I'=>⟨H',I',q⟩
  cases i with
  | int k=>
   rcases h with ⟨xs,j,h1,h2,h3⟩|⟨H',g,q⟩
   ·exact Ys pins s σ H _ _ v ov iv u Q I ro ri rv ⟨p,xs,k,j,rfl,rfl,h1,h2,h3⟩
   ·exact dp g q
  | _=>obtain⟨H',g,q⟩:=h;exact dp g q
 | _=>exact (show False from h).elim
def De (K:PySem.W.Frag) (f:Str):V->Hp->VK->Prop:=fun x H Q=>match x with
 | .ref a=>(∃ C dx fs v,H a=some (.ins C dx fs)/\Cls K C/\NoAttr K C f/\fs.lookup f=some v/\Q v H)\/False
 | _=>False
def Yi (K:PySem.W.Frag) (f:Str):V->V->Hp->(Hp->Prop)->Prop:=fun x y H N=>match x with
 | .ref a=>(∃ C dx fs,H a=some (.ins C dx fs)/\Cls K C/\NoAttr K C f/\fs.length<1000/\N (upd H a (.ins C dx (putF f y fs))))\/False
 | _=>False
section
variable {X:Cx} {pins:List (Addr×Obj)} {σ:St} {H:Hp} {s:Shared} {A:Around} {E:Value->Shared->Prop}
theorem av2 {f:Str} {x:V} {u:Value} {b:Bool} {Q:VK} (I:Inv X pins σ H s) (rx:RelV x u) (h:De X.K f x H Q):wpAny (model X.prog X.w) A (getAttr u f b) (EP X pins σ Q) E s:=by
 cases x with
 | ref a=>
  cases rx
  rcases h with ⟨C,dx,fs,v,ea,c,n,l,q⟩|h
  ·exact Ql I ea c n l fun u' s2 I2 ru=>⟨v,H,I2,ru,q⟩
  ·exact h.elim
 | _=>exact (show False from h).elim
theorem a58 {f:Str} {x y:V} {u v:Value} {N:Hp->Prop} {Q:Unit->Shared->Prop} (I:Inv X pins σ H s) (rx:RelV x u) (ry:RelV y v) (h:Yi X.K f x y H N) (hQ:∀ H' s',Inv X pins σ H' s'->N H'->Q () s') :
  wpAny (model X.prog X.w) A (setAttr u f v) Q E s:=by
 cases x with
 | ref a=>
  cases rx
  rcases h with ⟨C,dx,fs,ea,c,n,l,q⟩|h
  ·exact Q6 I ea c n l ry fun s3 I3=>hQ _ _ I3 q
  ·exact h.elim
 | _=>exact (show False from h).elim
end
structure FI where
 f:Addr
 fd:FuncData
 ps:List Str
 k:Nat
 sp:Sp
 dfs:List V
 ds:List Value
structure MI where
 C:Addr
 i:FI
inductive GB where
 | fn (i:FI)
 | cls (C:Addr) (i:Option FI)
 | met (m:Str) (l:List MI)
 | val (v:V) (u:Value)
 | exc (C:Addr) (i:Option FI)
def Bp:List (Str×GB)->Str->Option (List MI)
 | [],_=>none
 | (_,.met m l)::r,x=>if m=x then some l else Bp r x
 | _::r,x=>Bp r x
theorem Bw:∀ {gb:List (Str×GB)} {x:Str} {l:List MI},Bp gb x=some l -> ∃ k,(k,GB.met x l)∈gb
 | (k,.met m l')::r,x,l,h=>by
  unfold Bp at h
  by_cases e:m=x
  ·rw [if_pos e] at h;cases h;subst e;exact⟨k,by simp⟩
  ·rw [if_neg e] at h;obtain⟨k,q⟩:=Bw h;exact⟨k,List.mem_cons_of_mem _ q⟩
 | (_,.fn _)::r,x,l,h=>by unfold Bp at h;obtain⟨k,q⟩:=Bw h;exact⟨k,List.mem_cons_of_mem _ q⟩
 | (_,.cls _ _)::r,x,l,h=>by unfold Bp at h;obtain⟨k,q⟩:=Bw h;exact⟨k,List.mem_cons_of_mem _ q⟩
 | (_,.val _ _)::r,x,l,h=>by unfold Bp at h;obtain⟨k,q⟩:=Bw h;exact⟨k,List.mem_cons_of_mem _ q⟩
 | (_,.exc _ _)::r,x,l,h=>by unfold Bp at h;obtain⟨k,q⟩:=Bw h;exact⟨k,List.mem_cons_of_mem _ q⟩
structure Sg where
 K:PySem.W.Frag
 N:List Str
 sc:List (Str×NameKind)
 gb:List (Str×GB)
 bl:List Str
 top:Bool
 calm:Bool
def Cd:List Str->Str->Nat->Option Nat
 | [],_,_=>none
 | y::r,x,i=>if y=x then some i else Cd r x (i+1)
theorem L8:∀ {N:List Str} {x:Str} {i j:Nat},Cd N x j=some i->j<=i/\N[i - j]? = some x
 | [],_,_,_,h=>by cases h
 | y::r,x,i,j,h=>by
  unfold Cd at h
  by_cases e:y=x
  ·rw [if_pos e] at h
   cases h
   refine⟨Nat.le_refl _,?_⟩
   rw [Nat.sub_self,e]
   rfl
  ·rw [if_neg e] at h
   obtain⟨h1,h2⟩:=L8 h
   refine⟨by omega,?_⟩
   have:i - j=(i - (j+1))+1:=by omega
   rw [this,List.getElem?_cons_succ]
   exact h2
theorem D0 {N:List Str} {x:Str} {i:Nat} (h:Cd N x 0=some i):N[i]? = some x:=(L8 h).2
def Dx (x:Str):Bool:=!(x==("__debug__" : Str)) && !(x==("__classdict__" : Str)) && !(x==("__name__" : Str))
def isGl (G:Sg) (x:Str):Bool:=(G.sc.lookup x==some .globalImplicit)&&Dx x
def Rh (x:Str):Option String:=
 if x = "int" then some "int" else if x = "bool" then some "bool" else if x = "str" then some "str" else if x = "list" then some "list" else if x = "tuple" then some "tuple" else if x = "dict" then some "dict" else if x = "ValueError" then some "ValueError" else none
theorem Zw:bootBuiltins "ValueError" = some (.type "ValueError"):=by decide +kernel
theorem Vy {x:Str} {T:String} (h:Rh x=some T):bootBuiltins x=some (.type T):=by
 unfold Rh at h
 by_cases e1:x = "int"
 ·rw [if_pos e1] at h;cases h;rw [e1];exact PyProof.Rows.boot_int
 rw [if_neg e1] at h
 by_cases e2:x = "bool"
 ·rw [if_pos e2] at h;cases h;rw [e2];exact PyProof.Rows.boot_bool
 rw [if_neg e2] at h
 by_cases e3:x = "str"
 ·rw [if_pos e3] at h;cases h;rw [e3];exact PyProof.Rows.boot_str
 rw [if_neg e3] at h
 by_cases e4:x = "list"
 ·rw [if_pos e4] at h;cases h;rw [e4];exact PyProof.Rows.boot_list
 rw [if_neg e4] at h
 by_cases e5:x = "tuple"
 ·rw [if_pos e5] at h;cases h;rw [e5];exact PyProof.Rows.boot_tuple
 rw [if_neg e5] at h
 by_cases e6:x = "dict"
 ·rw [if_pos e6] at h;cases h;rw [e6];exact PyProof.Rows.boot_dict
 rw [if_neg e6] at h
 by_cases e7:x = "ValueError"
 ·rw [if_pos e7] at h;cases h;rw [e7];exact Zw
 rw [if_neg e7] at h
 cases h
def Kt (CX:CXT) (X:Cx):Prop:=∀ Ex,Ca X Ex -> ∀ (pins:List (Addr×Obj)) (σ:St) (H:Hp) (s:Shared) (e:Value) (s':Shared),Inv X pins σ H s->CX X.stack H s (fun v _ H'=>∃ a,v=.ref a/\Ex σ a H') e s'->X.xe e s'
structure FIOk (X:Cx) (i:FI):Prop where
 kp:PySem.W.keepIn X.K (.ref i.f)=true
 ok:∃ CX,(∀ X':Cx,X'.prog=X.prog->X'.w=X.w->Kt CX X')/\FnOk X.prog X.w X.K X.mg X.base CX i.k i.f i.fd i.ps i.sp
 room:Room i.k X.A
 binds:∀ j,j<=i.dfs.length->Binds X.K i.fd i.ps (i.ds.drop j)
 vals:Vals i.dfs i.ds
def Gr (X:Cx) (C:Addr):Option FI->Prop
 | none=>PySem.W.findIn X.K (.ref C) "__init__" = some (some (.builtin "ValueError.__init__"))
 | some i=>PySem.W.findIn X.K (.ref C) "__init__" = some (some (.ref i.f))/\PySem.W.isFn X.K (.ref i.f)=true/\FIOk X i/\Room (i.k+1) X.A
def MkOk (X:Cx) (C:Addr):Option FI->Prop
 | none=>PySem.W.makesIn X.K C=true/\PySem.W.findIn X.K (.ref C) "__init__" = some (some (.builtin "object.__init__"))
 | some i=>PySem.W.makesIn X.K C=true/\PySem.W.findIn X.K (.ref C) "__init__" = some (some (.ref i.f))/\PySem.W.isFn X.K (.ref i.f)=true/\FIOk X i/\Room (i.k+1) X.A
def FrH (X:Cx):Prop:=∃ (e0:Env) (o0:List Env) (L:Addr),X.stack=e0::o0/\e0.frame=some L/\X.env.frame=some L
structure GOk (X:Cx) (G:Sg):Prop where
 K:X.K=G.K
 kind:X.env.scope.kind=.function
 own:G.top=true->PassesOwn (model X.prog X.w) X.A X.env X.xe
 N:X.N=G.N
 nd:G.N.Nodup
 sc:∀ x,X.env.scope.names.lookup x=G.sc.lookup x
 vis:∀ x∈G.N,Vis X.env.scope x
 top:G.top=true -> ∀ x,X.fn x=true
 calm:G.calm=X.calm
 hd:X.calm=true->X.A.handled=none
 units:X.A.units+64<cLine
 cel:∀ x,(X.env.scope.names.lookup x=some .cell\/X.env.scope.names.lookup x=some .free) -> ∃ c,X.env.cells.lookup x=some c
 fn:∀ x i,G.gb.lookup x=some (.fn i)->X.mg x=some (.ref i.f)/\FIOk X i
 val:∀ x v u,G.gb.lookup x=some (.val v u)->X.mg x=some u/\RelV v u
 bl:∀ x,G.bl.contains x=true->X.mg x=none
 exc:∀ x C oi,G.gb.lookup x=some (.exc C oi)->X.mg x=some (.ref C)/\PySem.W.keepIn X.K (.ref C)=true/\ECls X.K C/\Gr X C oi
 cls:∀ x C oi,G.gb.lookup x=some (.cls C oi)->X.mg x=some (.ref C)/\PySem.W.keepIn X.K (.ref C)=true/\MkOk X C oi
 met:∀ m l,Bp G.gb m=some l -> ∀ mi∈l,Cls X.K mi.C/\Meth X.K mi.C m mi.i.f/\FIOk X mi.i
 frm:G.top=true->X.stack=X.env::X.outer/\X.env.frame=some X.env.locals
 fr:FrH X
section
variable {X:Cx} {G:Sg}
theorem GOk.gl (O:GOk X G) {x:Str} (h:isGl G x=true):Gl X x:=by
 unfold isGl at h
 rw [Bool.and_eq_true] at h
 have:=eq_of_beq h.1
 unfold Gl
 show X.env.scope.names.lookup x=_
 rw [O.sc x]
 exact this
theorem M6 {x:Str} (h:Dx x=true):(x==("__debug__" : Str))=false/\(x==("__classdict__" : Str))=false/\x ≠ "__name__" := by
 unfold Dx at h
 simp only [Bool.and_eq_true,Bool.not_eq_true'] at h
 exact⟨h.1.1,h.1.2,fun e=>by rw [e] at h;simp at h⟩
theorem Jf {x:Str} (h:isGl G x=true):(x==("__debug__" : Str))=false/\(x==("__classdict__" : Str))=false/\x ≠ "__name__" := by
 unfold isGl at h
 rw [Bool.and_eq_true] at h
 exact M6 h.2
def Zn (G:Sg) (x:Str):DE:=
 match Cd G.N x 0 with
 | some i=>if Dx x=true then dVar i else dNo
 | none=>if isGl G x=true then (match G.gb.lookup x with
   | some (.val v _)=>dC v
   | some (.exc C _)=>dC (.ref C)
   | some (.cls C _)=>dC (.ref C)
   | some _=>dNo
   | none=>if G.bl.contains x=true then (match Rh x with
    | some T=>dC (.ty T)
    | none=>dNo) else dNo) else dNo
theorem Bk {e:Expr}:QE X e dNo:=fun _ _ _ _ _ _ _ _ h=>h.elim
theorem ao7 {i:Nat} {x:Str} {pos:Pos} (hN:X.N[i]? = some x) (hv:Vis X.env.scope x) (hp:Dx x=true):QE X (.Name x pos) (dVar i):=by
 intro Ex _ pins s σ H Q I h
 unfold dVar at h
 split at h
 ·rename_i v e
  exact am5 hN hv (M6 hp).1 (M6 hp).2.1 pins s σ H Q I ⟨v,e,h⟩
 ·exact h.elim
theorem ac8 (O:GOk X G) (x:Str) (pos:Pos):QE X (.Name x pos) (Zn G x):=by
 unfold Zn
 split
 ·rename_i i e
  split
  ·rename_i hp
   have hi:=D0 e
   exact ao7 (by rw [O.N];exact hi) (O.vis x (List.mem_of_getElem? hi)) hp
  ·exact Bk
 ·split
  ·rename_i hg
   have dd:=Jf hg
   split
   ·rename_i v u e
    obtain⟨h1,h2⟩:=O.val x v u e
    exact fun _ _=>M5 (O.gl hg) h1 h2 dd.1
   ·rename_i C oi e
    exact fun _ _=>M5 (v:=.ref C) (O.gl hg) (O.exc x C oi e).1 rfl dd.1
   ·rename_i C oi e
    exact fun _ _=>M5 (v:=.ref C) (O.gl hg) (O.cls x C oi e).1 rfl dd.1
   ·exact Bk
   ·split
    ·rename_i hb
     split
     ·rename_i T e
      exact fun _ _=>ab0 (O.gl hg) (O.bl x hb) (Vy e) rfl dd.2.2 dd.1
     ·exact Bk
    ·exact Bk
  ·exact Bk
def Zl:Const->DE
 | .int i=>dC (.int i)
 | .bool b=>dC (.bl b)
 | .none=>dC .non
 | .str x=>dC (.str x)
 | _=>dNo
theorem O7 (c:Const) (j:Nat) (pos:Pos):QE X (.Constant c j pos) (Zl c):=by
 cases c with
 | int i=>exact fun _ _=>al9
 | bool b=>exact fun _ _=>az0
 | none=>exact fun _ _=>am1
 | str x=>exact fun _ _=>am3
 | _=>exact Bk
variable {a b c:Expr} {da db dc:DE} {ta tb:DT} {es:List Expr} {r:DA} {pos:Pos}
theorem an5 (op:Operator) (ha:QE X a da) (hb:QE X b db):QE X (.BinOp a op b pos) (dBin (rOp X.K op) da db):=fun Ex m=>az2 (op_D op) (ha Ex m) (hb Ex m)
theorem ao2 (ha:QE X a da):QE X (.UnaryOp .USub a pos) (dUn Tg da):=fun Ex m=>ag3 un_D (ha Ex m)
theorem an8 (ha:QE X a da):QE X (.UnaryOp .Invert a pos) (dUn Te da):=fun Ex m=>ag3 av3 (ha Ex m)
theorem an7 (hu:X.A.units+64<cLine) (op:CmpOp) (ha:QE X a da) (hb:QE X b db) (hm:behindInMarks op b=false):QE X (.Compare a [op] [b] pos) (dBin (rCmp X.K op) da db):=fun Ex m=>ab1 (K5 hu op) (ha Ex m) (hb Ex m) hm
theorem ap7 (hu:X.A.units+64<cLine) (op:CmpOp) (ha:QE X a da) (hb:QE X b db) (hm:behindInMarks op b=false):QT X (.Compare a [op] [b] pos) (dTst (dBin (rCmp X.K op) da db)):=by
 intro Ex m pins s σ H Q I h
 refine wpAny_isTrue_Compare1 (thn (ha Ex m pins s σ H _ I h) fun v s1 ⟨x,H1,I1,r1,q1⟩=>thn (hb Ex m pins s1 σ H1 _ I1 q1) fun u s2 ⟨y,H2,I2,r2,q2⟩=>
  thn (K5 hu op pins s2 σ H2 x y v u _ I2 r1 r2 q2) fun c s3 ⟨z,H3,I3,r3,q3⟩=>?_) hm
 cases z with
 | bl k=>cases r3;exact wpAny_truthy_bool ⟨H3,I3,q3⟩
 | _=>exact (show False from q3).elim
theorem X9 (hu:X.A.units+64<cLine) (op op':CmpOp) (ha:QE X a da) (hb:QE X b db) (hc:QE X c dc) (hm:lastMarks [op,op'] [b,c]=false) :
  QE X (.Compare a [op,op'] [b,c] pos) (Eb (rCmp X.K op) (rCmp X.K op') da db dc):=by
 intro Ex m pins s σ H Q I h
 refine Compare_chain (thn (ha Ex m pins s σ H _ I h) fun v s1 ⟨x,H1,I1,r1,q1⟩=>chain_link (thn (hb Ex m pins s1 σ H1 _ I1 q1) fun u s2 ⟨y,H2,I2,r2,q2⟩=>
  thn (K5 hu op pins s2 σ H2 x y v u _ I2 r1 r2 q2) fun d s3 ⟨z,H3,I3,r3,q3⟩=>?_)) hm
 cases z with
 | bl k=>
  cases r3
  refine wpAny_truthy_bool ?_
  cases k with
  | false=>exact ite_ff ⟨.bl false,H3,I3,rfl,q3⟩
  | true=>exact ite_tt (chain_last (thn (hc Ex m pins s3 σ H3 _ I3 q3) fun w' s4 ⟨z',H4,I4,r4,q4⟩=>K5 hu op' pins s4 σ H4 y z' u w' Q I4 r2 r4 q4))
 | _=>exact (show False from q3).elim
theorem Yg (hu:X.A.units+64<cLine) (op op':CmpOp) (ha:QE X a da) (hb:QE X b db) (hc:QE X c dc) (hm:lastMarks [op,op'] [b,c]=false) :
  QT X (.Compare a [op,op'] [b,c] pos) (dTst (Eb (rCmp X.K op) (rCmp X.K op') da db dc)):=by
 intro Ex m pins s σ H Q I h
 refine isTrue_chain (thn (ha Ex m pins s σ H _ I h) fun v s1 ⟨x,H1,I1,r1,q1⟩=>test_link (thn (hb Ex m pins s1 σ H1 _ I1 q1) fun u s2 ⟨y,H2,I2,r2,q2⟩=>
  thn (K5 hu op pins s2 σ H2 x y v u _ I2 r1 r2 q2) fun d s3 ⟨z,H3,I3,r3,q3⟩=>?_)) hm
 cases z with
 | bl k=>
  cases r3
  refine wpAny_truthy_bool ?_
  cases k with
  | false=>exact ite_ff ⟨H3,I3,q3⟩
  | true=>
   refine ite_tt (test_last (thn (hc Ex m pins s3 σ H3 _ I3 q3) fun w' s4 ⟨z',H4,I4,r4,q4⟩=>thn (K5 hu op' pins s4 σ H4 y z' u w' _ I4 r2 r4 q4) fun d' s5 ⟨z2,H5,I5,r5,q5⟩=>?_))
   cases z2 with
   | bl k2=>cases r5;exact wpAny_truthy_bool ⟨H5,I5,q5⟩
   | _=>exact (show False from q5).elim
 | _=>exact (show False from q3).elim
def Xz:Expr->Bool
 | .UnaryOp .Not _ _=>false
 | .BoolOp _ _ _=>false
 | .IfExp _ _ _ _=>false
 | .Compare _ _ _ _=>false
 | _=>true
theorem Vh {e:Expr} (h:Xz e=true) (whole:Sem Value):isTrue e X.env whole=(do let v <- whole;standAt e.pos;holding [v] (truthy v)):=by
 cases e with
 | UnaryOp op _ _=>cases op <;> first|rfl|cases h
 | BoolOp _ _ _=>cases h
 | IfExp _ _ _ _=>cases h
 | Compare _ _ _ _=>cases h
 | _=>rfl
theorem ap9 (ha:QE X a da) (h:Xz a=true):QT X a (dTru X.K da):=by
 intro Ex m pins s σ H Q I hw
 exact isTrue_plain (thn (ha Ex m pins s σ H _ I hw) fun v s1 ⟨x,H1,I1,r1,q1⟩=>Tw pins s1 σ H1 x v Q I1 r1 q1) (Vh h _)
theorem ap8 (ha:QT X a ta):QT X (.UnaryOp .Not a pos) (dNot ta):=fun Ex m=>an1 (ha Ex m)
theorem ad6 (ha:QT X a ta):QW X (.BoolOp .And [a] pos) ta:=fun Ex m=>ac1 (ha Ex m)
theorem aq1 (ha:QT X a ta):QW X (.BoolOp .Or [a] pos) ta:=fun Ex m=>an3 (ha Ex m)
theorem aq0 (ha:QT X a ta) (hb:QW X (.BoolOp .And (b::es) pos) tb):QW X (.BoolOp .And (a::b::es) pos) (dAnd ta tb):=fun Ex m=>an2 (ha Ex m) (hb Ex m)
theorem a02 (ha:QT X a ta) (hb:QW X (.BoolOp .Or (b::es) pos) tb):QW X (.BoolOp .Or (a::b::es) pos) (dOr ta tb):=fun Ex m=>az6 (ha Ex m) (hb Ex m)
theorem ao4 {op:BoolOp} (ha:QE X a da):QE X (.BoolOp op [a] pos) da:=fun Ex m=>am2 (ha Ex m)
theorem an4 (ha:QE X a da) (hb:QE X (.BoolOp .And (b::es) pos) db):QE X (.BoolOp .And (a::b::es) pos) (N8 X.K da db):=by
 intro Ex m pins s σ H Q I h
 refine BoolOp_and (thn (ha Ex m pins s σ H _ I h) fun v s1 ⟨x,H1,I1,r1,q1⟩=>thn (Tw pins s1 σ H1 x v _ I1 r1 q1) fun k s2 ⟨H2,I2,q2⟩=>?_)
 cases k with
 | true=>exact hb Ex m pins s2 σ H2 Q I2 q2
 | false=>exact⟨x,H2,I2,r1,q2⟩
theorem a00 (ha:QE X a da) (hb:QE X (.BoolOp .Or (b::es) pos) db):QE X (.BoolOp .Or (a::b::es) pos) (dOrV X.K da db):=by
 intro Ex m pins s σ H Q I h
 refine BoolOp_or (thn (ha Ex m pins s σ H _ I h) fun v s1 ⟨x,H1,I1,r1,q1⟩=>thn (Tw pins s1 σ H1 x v _ I1 r1 q1) fun k s2 ⟨H2,I2,q2⟩=>?_)
 cases k with
 | false=>exact hb Ex m pins s2 σ H2 Q I2 q2
 | true=>exact⟨x,H2,I2,r1,q2⟩
theorem ao3 (ha:QE X a da):QE X (.UnaryOp .Not a pos) (Ev X.K da):=by
 intro Ex m pins s σ H Q I h
 refine UnaryOp_ (thn (ha Ex m pins s σ H _ I h) fun v s1 ⟨x,H1,I1,r1,q1⟩=>not_of (thn (Tw pins s1 σ H1 x v _ I1 r1 q1) fun k s2 ⟨H2,I2,q2⟩=>?_))
 exact⟨.bl (!k),H2,I2,rfl,q2⟩
theorem az7 {t:Expr} (ht:QT X t ta) (ha:QE X a da) (hb:QE X b db):QE X (.IfExp t a b pos) (dIfE ta da db):=fun Ex m=>Xu (ht Ex m) (ha Ex m) (hb Ex m)
def noStar:Expr->Bool
 | .Starred _ _=>false
 | _=>true
theorem A7 {e:Expr} (h:noStar e=true) (es:List Expr) (env:Env):starEach (e::es) env=(false,eval e env)::starEach es env:=by
 cases e with
 | Starred _ _=>cases h
 | _=>rfl
theorem Bf {es:List Expr} (h:es.all noStar=true) (env:Env) (pos:Pos):(backTo pos (starEach es env)).any (·.1)=false:=by
 induction es with
 | nil=>rfl
 | cons e es ih=>
  rw [List.all_cons,Bool.and_eq_true] at h
  rw [A7 h.1]
  show (false||(backTo pos (starEach es env)).any (·.1))=false
  rw [ih h.2]
  rfl
theorem Ho {es:List Expr} (h:es.all noStar=true) (env:Env) (pos:Pos):(backTo pos (starEach es env)).all (fun x=>!x.1)=true:=by
 induction es with
 | nil=>rfl
 | cons e es ih=>
  rw [List.all_cons,Bool.and_eq_true] at h
  rw [A7 h.1]
  show (true&&(backTo pos (starEach es env)).all (fun x=>!x.1))=true
  rw [ih h.2]
  rfl
theorem X6:QA X [] dNil:=fun _ _=>al8
theorem Sx (ha:QE X a da) (hr:QA X es r) (hs:noStar a=true):QA X (a::es) (Aa da r):=fun Ex m=>aa9 (ha Ex m) (hr Ex m) (A7 hs es X.env)
theorem ao6 {k:Nat} (h:QA X es r):QE X (.Tuple es k pos) (dTup r):=fun Ex m=>am4 (h Ex m)
theorem an9 (h:QA X es r):QE X (.List es pos) (dLst r):=fun Ex m=>am0 (h Ex m)
def Ge:Expr->Bool
 | .Slice _ _ _ _=>false
 | _=>true
theorem Qu {e:Expr} (h:Ge e=true):Rj e:=by
 intro o i
 cases e with
 | Slice _ _ _ _=>cases h
 | _=>rfl
theorem az8 (hu:X.A.units+64<cLine) (ha:QE X a da) (hb:QE X b db) (h:Ge b=true):QE X (.Subscript a b pos) (dBin (rIxD X.K) da db):=fun Ex m=>az1 (ix_D hu) (ha Ex m) (hb Ex m) (Qu h)
theorem ac2 {f:Str} (ha:QE X a da) (h:attributeBase a f X.env (eval a X.env)=eval a X.env):QE X (.Attribute a f pos) (dUn (De X.K f) da):=by
 intro Ex m pins s σ H Q I hw
 exact Zu h (thn (ha Ex m pins s σ H _ I hw) fun u s1 ⟨x,H1,I1,rx,q⟩=>av2 I1 rx q)
end
abbrev RF:=List V->Hp->VK->Prop
def Lj (x:V) (T:String):Bool:=match x with
 | .int _=>T == "int"
 | .bl _=>T == "bool" || T == "int"
 | .str _=>T == "str"
 | _=>false
def okT (T:String):Bool:=["int", "bool", "str", "list", "tuple", "dict"].contains T
def rIsi (K:PySem.W.Frag):RF:=fun xs H Q=>match xs with
 | [.int i,.ty T]=>okT T=true/\Q (.bl (Lj (.int i) T)) H
 | [.bl i,.ty T]=>okT T=true/\Q (.bl (Lj (.bl i) T)) H
 | [.str i,.ty T]=>okT T=true/\Q (.bl (Lj (.str i) T)) H
 | [.non,.ty T]=>okT T=true/\Q (.bl (Lj .non T)) H
 | [x,.ty T]=>∃ t b,TyX K H x t/\PySem.W.kitOne K t (.type T)=some b/\Q (.bl b) H
 | [x,.ref C]=>(∃ t b,TyX K H x t/\PySem.W.kitOne K t (.ref C)=some b/\Q (.bl b) H)\/False
 | _=>False
def rLen (K:PySem.W.Frag):RF:=fun xs H Q=>match xs with
 | [.str z]=>z.length<=sizeLine/\Q (.int z.length) H
 | [.ref p]=>(∃ ys,(SqL K H p ys\/SqT K H p ys)/\Q (.int ys.length) H) \/ ∃ kvs,Rd H p (.dK kvs)/\Q (.int kvs.length) H
 | _=>False
def rAll (K:PySem.W.Frag):RF:=fun xs H Q=>match xs with
 | [.ref p]=>∃ bs:List Bool,SqL K H p (bs.map V.bl)/\Q (.bl (bs.all fun b=>b)) H
 | _=>False
def rInt:RF:=fun xs H Q=>match xs with
 | [.int i]=>Q (.int i) H
 | [.bl k]=>Q (.int (if k then 1 else 0)) H
 | _=>False
def Fg (K:PySem.W.Frag):RF:=fun xs H Q=>match xs with
 | [.ref p]=>∃ ys,(SqL K H p ys\/SqT K H p ys) /\ ∀ l,H l=none->Q (.ref l) (upd H l (.lst ys))
 | _=>False
def Ej (K:PySem.W.Frag):RF:=fun xs H Q=>match xs with
 | [.ref p]=>∃ ys,(SqL K H p ys /\ ∀ l,H l=none->Q (.ref l) (upd H l (.tup ys)))\/(SqT K H p ys/\Q (.ref p) H)
 | _=>False
inductive BF where
 | bf (id:String)|ty (T:String)
def bltR (K:PySem.W.Frag) (calm:Bool) (x:Str):Option (BF×RF):=
 if x = "len" then some (.bf "len", rLen K) else
 if x = "isinstance" then some (.bf "isinstance", rIsi K) else
 if x = "all" then (if calm=true then some (.bf "all", rAll K) else none) else
 if x = "int" then some (.ty "int", rInt) else
 if x = "list" then some (.ty "list", Fg K) else
 if x = "tuple" then some (.ty "tuple", Ej K) else
 none
def BF.val:BF->Value
 | .bf id=>.builtin id
 | .ty T=>.type T
section
variable {X:Cx}
theorem Qn {K:PySem.W.Frag} {x:V} {T:String} (hx:Bx x=true) (h:okT T=true):∃ t,(∀ H,TyOf K H x t)/\PySem.W.kitOne K t (.type T)=some (Lj x T):=by
 have hT:T = "int" \/ T = "bool" \/ T = "str" \/ T = "list" \/ T = "tuple" \/ T = "dict" := by
  unfold okT at h
  simpa using h
 cases x with
 | int i=>refine⟨_,fun H=>TyOf.int i,?_⟩;rcases hT with rfl|rfl|rfl|rfl|rfl|rfl <;> rfl
 | bl i=>refine⟨_,fun H=>TyOf.bl i,?_⟩;rcases hT with rfl|rfl|rfl|rfl|rfl|rfl <;> rfl
 | str i=>refine⟨_,fun H=>TyOf.str i,?_⟩;rcases hT with rfl|rfl|rfl|rfl|rfl|rfl <;> rfl
 | non=>refine⟨_,fun H=>TyOf.non,?_⟩;rcases hT with rfl|rfl|rfl|rfl|rfl|rfl <;> rfl
 | _=>cases hx
theorem Wi:Cr X (.builtin "isinstance") (rIsi X.K):=by
 intro pins s σ H xs us Q I r h
 have sc:∀ x T,xs=[x,.ty T]->Bx x=true->okT T=true->Q (.bl (Lj x T)) H->wpAny (model X.prog X.w) X.A (call (.builtin "isinstance") us) (EP X pins σ Q) X.xe s:=fun x T e hx hT q=>by
  subst e
  obtain⟨t,ht,hk⟩:=Qn (K:=X.K) hx hT
  exact Wh pins s σ H _ us Q I r ⟨x,T,t,_,rfl,ht H,hk,q⟩
 unfold rIsi at h
 split at h
 ·exact sc _ _ rfl rfl h.1 h.2
 ·exact sc _ _ rfl rfl h.1 h.2
 ·exact sc _ _ rfl rfl h.1 h.2
 ·exact sc _ _ rfl rfl h.1 h.2
 ·obtain⟨t,b,ty,e,q⟩:=h
  obtain⟨u,v,rfl,ru,rv⟩:=r.two
  cases rv
  exact Jg I ru ty e fun tk=>⟨.bl b,H,I.tok tk,rfl,q⟩
 ·obtain⟨u,v,rfl,ru,rv⟩:=r.two
  rcases h with ⟨t,b,ty,e,q⟩|h
  ·cases rv
   exact Jg I ru ty e fun tk=>⟨.bl b,H,I.tok tk,rfl,q⟩
  ·exact h.elim
 ·exact h.elim
theorem Ub:Cr X (.builtin "len") (rLen X.K):=by
 intro pins s σ H xs us Q I r h
 unfold rLen at h
 split at h
 ·exact Mm pins s σ H _ us Q I r ⟨_,rfl,h.1,h.2⟩
 ·rcases h with ⟨ys,h1,h2⟩|⟨kvs,h1,h2⟩
  ·exact Ml pins s σ H _ us Q I r ⟨_,ys,rfl,h1,h2⟩
  ·obtain⟨u,rfl,ru⟩:=Gp r
   cases ru
   exact au6 I h1 fun t s' I'=>⟨.int _,H,I',⟨t,rfl⟩,h2⟩
 ·exact h.elim
theorem Tz (hc:X.calm=true):Cr X (.builtin "all") (rAll X.K):=by
 intro pins s σ H xs us Q I r h
 unfold rAll at h
 split at h
 ·obtain⟨bs,h1,h2⟩:=h
  exact Wg hc pins s σ H _ us Q I r ⟨_,bs,rfl,h1,h2⟩
 ·exact h.elim
theorem Ua:Cr X (.type "int") rInt:=by
 intro pins s σ H xs us Q I r h
 unfold rInt at h
 split at h
 ·exact K1 pins s σ H _ us Q I r (.inl ⟨_,rfl,h⟩)
 ·exact K1 pins s σ H _ us Q I r (.inr ⟨_,rfl,h⟩)
 ·exact h.elim
theorem P6:Cr X (.type "list") (Fg X.K):=by
 intro pins s σ H xs us Q I r h
 unfold Fg at h
 split at h
 ·obtain⟨ys,h1,h2⟩:=h
  exact Mn pins s σ H _ us Q I r ⟨_,ys,rfl,h1,h2⟩
 ·exact h.elim
theorem Uc:Cr X (.type "tuple") (Ej X.K):=by
 intro pins s σ H xs us Q I r h
 unfold Ej at h
 split at h
 ·obtain⟨ys,h1⟩:=h
  exact Kn pins s σ H _ us Q I r ⟨_,ys,rfl,h1⟩
 ·exact h.elim
theorem Zv {x:Str} {f:BF} {r:RF} {c:Bool} (h:bltR X.K c x=some (f,r)) (hc:c=X.calm):bootBuiltins x=some f.val/\Cr X f.val r:=by
 unfold bltR at h
 by_cases e:x = "len"
 ·rw [if_pos e] at h;cases h;rw [e];exact⟨PySem.boot_len,Ub⟩
 rw [if_neg e] at h
 by_cases e:x = "isinstance"
 ·rw [if_pos e] at h;cases h;rw [e];exact⟨PyProof.Rows.boot_isinstance,Wi⟩
 rw [if_neg e] at h
 by_cases e:x = "all"
 ·rw [if_pos e] at h
  by_cases ec:c=true
  ·rw [if_pos ec] at h;cases h;rw [e];exact⟨PyProof.Rows.boot_all,Tz (hc▸ec)⟩
  ·rw [if_neg ec] at h;cases h
 rw [if_neg e] at h
 by_cases e:x = "int"
 ·rw [if_pos e] at h;cases h;rw [e];exact⟨PyProof.Rows.boot_int,Ua⟩
 rw [if_neg e] at h
 by_cases e:x = "list"
 ·rw [if_pos e] at h;cases h;rw [e];exact⟨PyProof.Rows.boot_list,P6⟩
 rw [if_neg e] at h
 by_cases e:x = "tuple"
 ·rw [if_pos e] at h;cases h;rw [e];exact⟨PyProof.Rows.boot_tuple,Uc⟩
 rw [if_neg e] at h
 cases h
abbrev RM:=V->List V->Hp->VK->Prop
structure BM where
 T:String
 id:String
 r:RM
def rMt (K:PySem.W.Frag) (bs:List BM):V->Hp->(Hp->(List V->Hp->Prop)->Prop)->VK->Prop:=fun x H1 ta Q=>
 match bs with
 | []=>False
 | [b]=>tyV K b.T x H1/\ta H1 fun xs H2=>b.r x xs H2 Q
 | b::rest=>(tyV K b.T x H1/\ta H1 fun xs H2=>b.r x xs H2 Q)\/rMt K rest x H1 ta Q
structure BMOk (X:Cx) (m:Str) (b:BM):Prop where
 pa:PlainAttrs b.T
 slot:Slot b.T m b.id
 ty:typeOf (.builtin b.id)=pure (.type "method_descriptor")
 mt:MtR X b.id b.r
def Tf (K:PySem.W.Frag):RM:=fun x xs H Q=>∃ z p ys,x=.str z/\xs=[.ref p]/\SqL K H p (ys.map V.str)/\(ys.map (·.length)).sum+ys.length * z.length<=16777216/\Q (.str (Txt.join z ys)) H
theorem Qi {i:Nat} (h:i<sizeLine):Builtin.List.listFitsIndex (i:Int)=true:=by
 have hs:sizeLine<=9223372036854775807:=Nat.le_of_ble_eq_true rfl
 have e:(2:Int) ^ 63=9223372036854775808:=rfl
 unfold Builtin.List.listFitsIndex
 rw [e,Bool.and_eq_true]
 exact⟨decide_eq_true (by omega),decide_eq_true (by omega)⟩
def Gg:RM:=fun x vs H Q=>∃ l xs y,∃ i:Nat,x=.ref l/\vs=[.int (i:Int),y]/\H l=some (.lst xs)/\i<=xs.length/\xs.length<sizeLine/\Q .non (upd H l (.lst (xs.take i++y::xs.drop i)))
theorem U7:MtR X "list.insert" Gg:=by
 intro pins s σ H x vs v us Q I rx rv h
 obtain⟨l,xs,y,i,rfl,rfl,hH,hi,hz,q⟩:=h
 cases rx
 obtain⟨u1,u2,rfl,⟨t,rfl⟩,r2⟩:=rv.two
 obtain⟨z,its,n,r,hl,e⟩:=I.lstM hH
 have hf:Builtin.List.listFitsIndex (i:Int)=true:=Qi (Nat.lt_of_le_of_lt hi hz)
 have hz':its.toArray.size<=sizeLine:=by rw [List.size_toArray,<- hl];exact z
 obtain⟨j,hj⟩:∃ j:Int,j=(i:Int):=⟨_,rfl⟩
 rw [<- hj] at hf ⊢
 have hf':¬ (!Builtin.List.listFitsIndex j)=true:=by rw [hf];decide
 have M:=AutoSeq1.list_insert_list_int_val_1 l its.toArray n j t u2 hf' hz'
 refine call_meets PySem.F.slot_list_insert ⟨_,e,rfl⟩ PySem.F.entry_list_insert (PySem.F.args_list_insert_3 _ _ _) M ⟨e,?_⟩
 refine⟨.non,_,I.lset (its':=its.take i++u2::its.drop i) hH e ?_ ((r.take i).append (.cons r2 (r.drop i))) ?_,rfl,q⟩
 ·have hk:(if j<0 then (j+(its.toArray.size:Int)).toNat else min j.toNat its.toArray.size)=i:=by
   rw [if_neg (by omega),List.size_toArray,hj,Int.toNat_natCast]
   omega
  show (its.toArray.extract 0 (if j<0 then (j+(its.toArray.size:Int)).toNat else min j.toNat its.toArray.size)).push u2++its.toArray.extract (if j<0 then (j+(its.toArray.size:Int)).toNat else min j.toNat its.toArray.size)=_
  rw [hk]
  apply Array.toList_inj.mp
  simp
  exact List.take_of_length_le (by simp)
 ·rw [List.length_append,List.length_cons,List.length_take,List.length_drop]
  omega
def mtR (K:PySem.W.Frag) (m:Str):List BM:=
 if m = "append" then [⟨"list", "list.append", Dl⟩] else
 if m = "extend" then [⟨"list", "list.extend", Ik⟩] else
 if m = "join" then [⟨"str", "str.join", Tf K⟩] else
 if m = "insert" then [⟨"list", "list.insert", Gg⟩] else []
theorem Xl {m:Str} {b:BM} (hu:X.A.units+64<cLine) (h:b∈mtR X.K m):BMOk X m b:=by
 unfold mtR at h
 by_cases e:m = "append"
 ·rw [if_pos e] at h
  have:b=⟨"list", "list.append", Dl⟩:=by simpa using h
  subst this;subst e
  exact⟨PySem.F.plainAttrs_list,PySem.F.slot_list_append,PySem.F.type_list_append,Lv⟩
 rw [if_neg e] at h
 by_cases e:m = "extend"
 ·rw [if_pos e] at h
  have:b=⟨"list", "list.extend", Ik⟩:=by simpa using h
  subst this;subst e
  exact⟨PySem.F.plainAttrs_list,PySem.F.slot_list_extend,PySem.F.type_list_extend,U5⟩
 rw [if_neg e] at h
 by_cases e:m = "join"
 ·rw [if_pos e] at h
  have:b=⟨"str", "str.join", Tf X.K⟩:=by simpa using h
  subst this;subst e
  exact⟨PySem.F.plainAttrs_str,PySem.F.slot_str_join,PySem.F.type_str_join,aa3⟩
 rw [if_neg e] at h
 by_cases e:m = "insert"
 ·rw [if_pos e] at h
  have:b=⟨"list", "list.insert", Gg⟩:=by simpa using h
  subst this;subst e
  exact⟨PySem.F.plainAttrs_list,PySem.F.slot_list_insert,PySem.F.type_list_insert,U7⟩
 rw [if_neg e] at h
 cases h
theorem M9 {K:PySem.W.Frag}:∀ {bs:List BM} {x:V} {H1:Hp} {ta:Hp->(List V->Hp->Prop)->Prop} {Q:VK},rMt K bs x H1 ta Q -> ∃ b∈bs,tyV K b.T x H1/\ta H1 fun xs H2=>b.r x xs H2 Q
 | [],_,_,_,_,h=>h.elim
 | [b],_,_,_,_,h=>⟨b,by simp,h⟩
 | b::c::rest,x,H1,ta,Q,h=>by
  rcases h with h|h
  ·exact⟨b,by simp,h⟩
  ·obtain⟨d,hd,q⟩:=M9 h
   exact⟨d,List.mem_cons_of_mem _ hd,q⟩
def Dk:Expr->Bool
 | .Call (.Name x _) [] [] _=>!(x==("super" : Str))
 | _=>true
theorem Ei {e:Expr} (h:Dk e=true) (f:Str) (env:Env) (whole:Sem Value):attributeBase e f env whole=whole:=by
 unfold attributeBase
 split
 ·rename_i id p pos
  have:(id==("super" : Str))=false:=by
   have h':(!(id==("super" : Str)))=true:=h
   simpa using h'
  have e2:(id != "super")=true:=by
   show (!(id == "super"))=true
   rw [this]
   rfl
  rw [e2]
  simp
 ·rfl
variable {o:Expr} {do':DE} {es:List Expr} {r:DA} {m:Str} {apos cpos:Pos}
theorem ao1 {bs:List BM} (hb:∀ b∈bs,BMOk X m b) (ho:QE X o do') (h1:Dk o=true) (h4:(apos.endLine==cpos.line)=true) :
  QE X (.Call (.Attribute o m apos) [] [] cpos) (dMt (rMt X.K bs) do' dNil):=by
 intro Ex mt pins s σ H Q I h
 refine wpAny_Call_method0_late (Ei h1 m X.env _) h4 (thn (ho Ex mt pins s σ H _ I h) fun v s1 ⟨x,H1,I1,r1,q1⟩=>?_)
 obtain⟨b,hbm,ty,q⟩:=M9 q1
 obtain⟨k1,k2⟩:=Zh I1 r1 ty
 have B:=hb b hbm
 exact⟨b.T,b.id,B.pa,B.slot,B.ty,k1,k2,Calls.callWith_builtin rfl (PySem.evalArgs_none (B.mt pins s1 σ H1 x [] v [] Q I1 r1 .nil q))⟩
theorem az9 {bs:List BM} {e:Expr} (hb:∀ b∈bs,BMOk X m b) (ho:QE X o do') (ha:QA X (e::es) r) (h1:Dk o=true) (h2:(e::es).all noStar=true) (h3:(e::es).length<30) (h4:(apos.endLine==cpos.line)=true) :
  QE X (.Call (.Attribute o m apos) (e::es) [] cpos) (dMt (rMt X.K bs) do' r):=by
 intro Ex mt pins s σ H Q I h
 have hs:=List.all_cons▸h2
 rw [Bool.and_eq_true] at hs
 have hfew:((backTo cpos (starEach (e::es) X.env)).all (fun x=>!x.1)&&(backToKw cpos (keywordEach [] X.env)).all (fun x=>x.1.isSome)
   && decide ((e::es).length+([]:List Keyword).length+(if ([]:List Keyword).isEmpty then 0 else 1)<30))=true:=by
  rw [Ho h2]
  have:decide ((e::es).length+([]:List Keyword).length+(if ([]:List Keyword).isEmpty then 0 else 1)<30)=true:=by
   rw [decide_eq_true_iff]
   simpa using h3
  rw [this]
  rfl
 refine wpAny_Call_method_late (Ei h1 m X.env _) hfew h4 rfl (thn (ho Ex mt pins s σ H _ I h) fun v s1 ⟨x,H1,I1,r1,q1⟩=>?_)
 obtain⟨b,hbm,ty,q⟩:=M9 q1
 obtain⟨k1,k2⟩:=Zh I1 r1 ty
 have B:=hb b hbm
 refine⟨b.T,b.id,B.pa,B.slot,B.ty,k1,k2,?_⟩
 have hA:=ha Ex mt cpos pins s1 σ H1 _ I1 q
 rw [A7 hs.1] at hA ⊢
 refine Calls.callWith_builtin (by show (false||(backTo cpos (starEach es X.env)).any (·.1))=false;rw [Bf hs.2] <;> rfl) (Calls.evalArgs_plain ?_)
 exact thn hA fun us s2 ⟨vs,H2,I2,r2,q2⟩=>B.mt pins s2 σ H2 x vs v us Q I2 r1 r2 q2
variable {x:Str} {p pos:Pos} {G:Sg}
theorem an6 {f:BF} {rf:RF} {e:Expr} (hc:Cr X f.val rf) (hg:Gl X x) (hm:X.mg x=none) (hv:bootBuiltins x=some f.val) (ha:QA X (e::es) r) (hs:(e::es).all noStar=true) (hn:x ≠ "__name__") (hdb:(x==("__debug__" : Str))=false) :
  QE X (.Call (.Name x p) (e::es) [] pos) (dFn (fun vs H Q _=>rf vs H Q) r):=by
 intro Ex mt
 have h:=List.all_cons▸hs
 rw [Bool.and_eq_true] at h
 cases f with
 | bf id=>exact Xt hc hg hm hv (ha Ex mt) hn hdb (A7 h.1 es X.env) (Bf h.2 X.env pos)
 | ty T=>exact Vf hc hg hm hv (ha Ex mt) hn hdb (A7 h.1 es X.env) (Bf h.2 X.env pos)
def spE (sp:Sp) (dvs:List V):List V->Hp->VK->EK->Prop:=fun vs H Q E=>sp (vs++dvs) H Q (fun v _ H'=>∃ a,v=.ref a/\E a H')
theorem Im {i:FI} (F:FIOk X i) {j:Nat} (hj:j<=i.dfs.length) {Ex:St->EK} (mt:Ca X Ex) {pins:List (Addr×Obj)} {σ:St} {H:Hp} {s:Shared} {Q:VK} {us:List Value} {vs:List V}
  (I:Inv X pins σ H s) (r:Vals vs us) (h:spE i.sp (i.dfs.drop j) vs H Q (Ex σ)):wpAny (model X.prog X.w) X.A (call (.ref i.f) us) (EP X pins σ Q) X.xe s:=by
 obtain⟨CX,hx,FO⟩:=F.ok
 have r2:Vals (vs++i.dfs.drop j) (us++i.ds.drop j):=r.append (F.vals.drop j)
 have hl:(us++i.ds.drop j).length=i.ps.length:=by rw [<- r2.length];exact FO.len _ _ _ _ h
 refine wpAny_call (codeAny_mono (FO.run X.A X.stack s H ⟨us,[]⟩ (us++i.ds.drop j) (vs++i.dfs.drop j) Q _ F.room I.env0 (F.binds j hj s us I.kIn hl) r2 h) fun r s' hq=>?_)
 cases r with
 | error e=>exact hx X rfl rfl Ex mt pins σ H s e s' I hq
 | ok fl=>
  cases fl with
  | ret u=>exact I.after hq
  | next=>exact False.elim hq
  | brk=>exact False.elim hq
  | cont=>exact False.elim hq
theorem X7 {i:FI} (F:FIOk X i) {j:Nat} (hj:j<=i.dfs.length) (hg:Gl X x) (hm:X.mg x=some (.ref i.f)) (hdb:(x==("__debug__" : Str))=false) :
  QE X (.Call (.Name x p) [] [] pos) (dFn (spE i.sp (i.dfs.drop j)) dNil):=by
 intro Ex mt pins s σ H Q I h
 refine wpAny_Call_Name_kw (C5 I hg hm ?_ hdb)
 exact PySem.W.callWith_K0 I.kIn F.kp (Im (us:=[]) F hj mt I .nil h)
theorem ac3 {i:FI} {e:Expr} (F:FIOk X i) {j:Nat} (hj:j<=i.dfs.length) (hg:Gl X x) (hm:X.mg x=some (.ref i.f)) (ha:QA X (e::es) r) (hs:(e::es).all noStar=true) (hdb:(x==("__debug__" : Str))=false) :
  QE X (.Call (.Name x p) (e::es) [] pos) (dFn (spE i.sp (i.dfs.drop j)) r):=by
 intro Ex mt pins s σ H Q I h
 have h2:=List.all_cons▸hs
 rw [Bool.and_eq_true] at h2
 refine wpAny_Call_Name_kw (C5 I hg hm ?_ hdb)
 refine PySem.W.callWith_K (h₀:=X.base) I.ok.mod.kin F.kp (thn (ha Ex mt pos pins s σ H _ I h) fun us s1 ⟨vs,H1,I1,r,q⟩=>⟨I1.kIn,?_⟩) (A7 h2.1 es X.env) (Bf h2.2 X.env pos)
 exact Im F hj mt I1 r q
def mkX (C:Addr):Option FI->Nat->List V->Hp->VK->EK->Prop
 | none,_=>fun _ H Q _=>∀ a,H a=none->Q (.ref a) (upd H a (excO a C none))
 | some i,j=>fun _ _ _ _=>False
theorem Tm {C:Addr} {oi:Option FI} {j:Nat} (c:ECls X.K C) (hi:Gr X C oi) (hj:∀ i,oi=some i->j<=i.dfs.length) {Ex:St->EK} (mt:Ca X Ex) {pins:List (Addr×Obj)} {σ:St} {H:Hp} {s:Shared} {Q:VK} {us:List Value} {vs:List V}
  (I:Inv X pins σ H s) (rv:Vals vs us) (hl:vs.length<=1000) (h:mkX C oi j vs H Q (Ex σ)):wpAny (model X.prog X.w) X.A (call (.ref C) us) (EP X pins σ Q) X.xe s:=by
 cases oi with
 | none=>exact Q5 c hi I rv hl h
 | some i=>
  exact (show False from h).elim
theorem Ta {C:Addr} {oi:Option FI} {j:Nat} (c:ECls X.K C) (hi:Gr X C oi) (hj:∀ i,oi=some i->j<=i.dfs.length) (kp:PySem.W.keepIn X.K (.ref C)=true) (hg:Gl X x) (hm:X.mg x=some (.ref C)) (hdb:(x==("__debug__" : Str))=false) :
  QE X (.Call (.Name x p) [] [] pos) (dFn (mkX C oi j) dNil):=by
 intro Ex mt pins s σ H Q I h
 refine wpAny_Call_Name_kw (C5 I hg hm ?_ hdb)
 exact PySem.W.callWith_K0 I.kIn kp (Tm (us:=[]) c hi hj mt I .nil (by simp) h)
theorem Q3 {C:Addr} {oi:Option FI} {j:Nat} {e:Expr} (c:ECls X.K C) (hi:Gr X C oi) (hj:∀ i,oi=some i->j<=i.dfs.length) (kp:PySem.W.keepIn X.K (.ref C)=true) (hg:Gl X x) (hm:X.mg x=some (.ref C)) (ha:QA X (e::es) r) (hs:(e::es).all noStar=true) (hdb:(x==("__debug__" : Str))=false) :
  QE X (.Call (.Name x p) (e::es) [] pos) (dFn (fun vs H Q E=>vs.length<=1000/\mkX C oi j vs H Q E) r):=by
 intro Ex mt pins s σ H Q I h
 have h2:=List.all_cons▸hs
 rw [Bool.and_eq_true] at h2
 refine wpAny_Call_Name_kw (C5 I hg hm ?_ hdb)
 refine PySem.W.callWith_K (h₀:=X.base) I.ok.mod.kin kp (thn (ha Ex mt pos pins s σ H _ I h) fun us s1 ⟨vs,H1,I1,r,q⟩=>⟨I1.kIn,?_⟩) (A7 h2.1 es X.env) (Bf h2.2 X.env pos)
 exact Tm c hi hj mt I1 r q.1 q.2
def mkC (C:Addr):Option FI->Nat->List V->Hp->VK->EK->Prop
 | none,_=>fun vs H Q _=>vs=[] /\ ∀ a dx,H a=none->H dx=none->dx≠a->Q (.ref a) (upd (upd H dx (.own a)) a (.ins C dx []))
 | some i,j=>fun vs H Q E=>∀ a dx,H a=none->H dx=none->dx≠a ->
   i.sp (.ref a::(vs++i.dfs.drop j)) (upd (upd H dx (.own a)) a (.ins C dx [])) (fun v H2=>v=.non/\Q (.ref a) H2) (fun v _ H'=>∃ b,v=.ref b/\E b H')
theorem Vl {C:Addr} (h1:PySem.W.makesIn X.K C=true) (h2:PySem.W.findIn X.K (.ref C) "__init__" = some (some (.builtin "object.__init__"))) {pins:List (Addr×Obj)} {σ:St} {H:Hp} {s:Shared} {Q:VK}
  (I:Inv X pins σ H s) (h:∀ a dx,H a=none->H dx=none->dx≠a->Q (.ref a) (upd (upd H dx (.own a)) a (.ins C dx []))):wpAny (model X.prog X.w) X.A (call (.ref C) []) (EP X pins σ Q) X.xe s:=by
 have hq:=h (s.heap.objs.size+1) s.heap.objs.size (I.hok.fresh (Nat.le_succ _)) (I.hok.fresh (Nat.le_refl _)) (Nat.ne_of_lt (Nat.lt_succ_self _))
 have I2:=Inv.made (C:=C) I
 have e2:((s.heap.push PySem.W.emptyDict).push (PySem.W.instObj C s.heap.objs.size)).get? (s.heap.objs.size+1)=some (PySem.W.instObj C s.heap.objs.size):=by
  have z:=Heap.get?_push_size (s.heap.push PySem.W.emptyDict) (o:=PySem.W.instObj C s.heap.objs.size) rfl
  rwa [Heap.size_push] at z
 refine wpAny_call (Uy I.kIn h1 h2 (fun self=>.of_pure (PySem.W.oi_bind self)) ?_)
 have ty:PySem.W.Looks (model X.prog X.w) ((s.heap.push PySem.W.emptyDict).push (PySem.W.instObj C s.heap.objs.size)) (typeOf (.ref (s.heap.objs.size+1))) (.ref C):=(PySem.W.Looks.ld e2).andThen .now
 have io:PySem.W.Looks (model X.prog X.w) ((s.heap.push PySem.W.emptyDict).push (PySem.W.instObj C s.heap.objs.size)) (isInstance (.ref (s.heap.objs.size+1)) (.type "object")) true:=
  ty.andThen ((PySem.W.makes_of (M:=model X.prog X.w) I.kIn h1).top.keeps fun b o e=>Heap.get?_push_of_some _ (Heap.get?_push_of_some _ e))
 refine codeAny_call_builtin PySem.W.oi_plain PySem.W.entry_oi (PySem.W.check_slot (s:={ s with heap:=(s.heap.push PySem.W.emptyDict).push (PySem.W.instObj C s.heap.objs.size) }) (i := "object.__init__") (owner := "object") (self:=.ref (s.heap.objs.size+1)) PySem.W.oi_kind PySem.W.oi_split io (PySem.W.oi_args _) ?_)
 rw [PySem.W.oi_run]
 exact wpAny_pure ⟨rfl,⟨.ref _,_,I2,rfl,hq⟩⟩
theorem ad7 {C f:Addr} {CX:CXT} {k:Nat} {fd:FuncData} {ps:List Str} {sp:Sp} {ds:List Value} {dvs:List V} {E:XK} {pins:List (Addr×Obj)} {σ:St} {H:Hp} {s:Shared} {Q:VK} {us:List Value} {vs:List V}
  (M:Mk X.K C f) (F:FnOk X.prog X.w X.K X.mg X.base CX k f fd ps sp) (hr:Room (k+1) X.A) (hb:Binds X.K fd ps ds) (hd:Vals dvs ds) (hx:∀ H1 s1 e s',Inv X pins σ H1 s1->CX X.stack H1 s1 E e s'->X.xe e s') (I:Inv X pins σ H s) (r:Vals vs us)
  (h:∀ x dx,H x=none->H dx=none->dx≠x->sp (.ref x::(vs++dvs)) (upd (upd H dx (.own x)) x (.ins C dx [])) (fun v H2=>v=.non/\Q (.ref x) H2) E) :
  wpAny (model X.prog X.w) X.A (call (.ref C) us) (EP X pins σ Q) X.xe s:=by
 have hq:=h (s.heap.objs.size+1) s.heap.objs.size (I.hok.fresh (Nat.le_succ _)) (I.hok.fresh (Nat.le_refl _)) (Nat.ne_of_lt (Nat.lt_succ_self _))
 have I2:=Inv.made (C:=C) I
 have r2:Vals (V.ref (s.heap.objs.size+1)::(vs++dvs)) (Value.ref (s.heap.objs.size+1)::(us++ds)):=.cons rfl (r.append hd)
 have hl:(Value.ref (s.heap.objs.size+1)::us++ds).length=ps.length:=by
  have e:=r2.length
  rw [F.len _ _ _ _ hq] at e
  exact e.symm
 refine wpAny_call (Xg (f:=f) I.kIn M.makes M.init (beq_iff_eq.mp M.fn) (codeAny_mono (F.run _ X.stack _ _ ⟨Value.ref (s.heap.objs.size+1)::us,[]⟩ (Value.ref (s.heap.objs.size+1)::(us++ds)) _ _ E (hr.make C us [])
  (I2.env0.make C us []) (hb _ (Value.ref (s.heap.objs.size+1)::us) I2.kIn hl) r2 hq) fun r s' hq'=>?_))
 cases r with
 | error e=>exact hx _ _ e s' I2 hq'
 | ok fl=>
  cases fl with
  | ret u=>
   obtain⟨v,H',I3,rv,ev,q3⟩:=I2.after hq'
   subst ev
   exact⟨rv,⟨V.ref (s.heap.objs.size+1),H',I3,rfl,q3⟩⟩
  | next=>exact False.elim hq'
  | brk=>exact False.elim hq'
  | cont=>exact False.elim hq'
theorem Tl {C:Addr} {oi:Option FI} {j:Nat} (hi:MkOk X C oi) (hj:∀ i,oi=some i->j<=i.dfs.length) {Ex:St->EK} (mt:Ca X Ex) {pins:List (Addr×Obj)} {σ:St} {H:Hp} {s:Shared} {Q:VK} {us:List Value} {vs:List V}
  (I:Inv X pins σ H s) (rv:Vals vs us) (kp:PySem.W.keepIn X.K (.ref C)=true) (h:mkC C oi j vs H Q (Ex σ)):wpAny (model X.prog X.w) X.A (call (.ref C) us) (EP X pins σ Q) X.xe s:=by
 cases oi with
 | none=>
  obtain⟨rfl,h⟩:=h
  cases rv
  exact Vl hi.1 hi.2 I h
 | some i=>
  obtain⟨h0,h1,h2,F,hr⟩:=hi
  obtain⟨CX,hx,FO⟩:=F.ok
  exact ad7 ⟨h0,h1,h2,kp⟩ FO hr (F.binds j (hj i rfl)) (F.vals.drop j) (fun H1 s1 e s' I1 q=>hx X rfl rfl Ex mt pins σ H1 s1 e s' I1 q) I rv h
theorem Sz {C:Addr} {oi:Option FI} {j:Nat} (hi:MkOk X C oi) (hj:∀ i,oi=some i->j<=i.dfs.length) (kp:PySem.W.keepIn X.K (.ref C)=true) (hg:Gl X x) (hm:X.mg x=some (.ref C)) (hdb:(x==("__debug__" : Str))=false) :
  QE X (.Call (.Name x p) [] [] pos) (dFn (mkC C oi j) dNil):=by
 intro Ex mt pins s σ H Q I h
 refine wpAny_Call_Name_kw (C5 I hg hm ?_ hdb)
 exact PySem.W.callWith_K0 I.kIn kp (Tl (us:=[]) hi hj mt I .nil kp h)
theorem ao0 {C:Addr} {oi:Option FI} {j:Nat} {e:Expr} (hi:MkOk X C oi) (hj:∀ i,oi=some i->j<=i.dfs.length) (kp:PySem.W.keepIn X.K (.ref C)=true) (hg:Gl X x) (hm:X.mg x=some (.ref C)) (ha:QA X (e::es) r) (hs:(e::es).all noStar=true) (hdb:(x==("__debug__" : Str))=false) :
  QE X (.Call (.Name x p) (e::es) [] pos) (dFn (mkC C oi j) r):=by
 intro Ex mt pins s σ H Q I h
 have h2:=List.all_cons▸hs
 rw [Bool.and_eq_true] at h2
 refine wpAny_Call_Name_kw (C5 I hg hm ?_ hdb)
 refine PySem.W.callWith_K (h₀:=X.base) I.ok.mod.kin kp (thn (ha Ex mt pos pins s σ H _ I h) fun us s1 ⟨vs,H1,I1,r,q⟩=>⟨I1.kIn,?_⟩) (A7 h2.1 es X.env) (Bf h2.2 X.env pos)
 exact Tl hi hj mt I1 r kp q
def dOwn (m:Str) (n:Nat) (l:List MI) (o:DE) (t:DA):DE:=fun σ H Q E=>o σ H (fun x H1=>∃ a dx fs mi,x=.ref a/\mi∈l/\H1 a=some (.ins mi.C dx fs)/\fs.lookup m=none/\(n+1<=mi.i.ps.length/\mi.i.ps.length<=n+1+mi.i.dfs.length) /\
 t σ H1 (fun vs H2=>spE mi.i.sp (mi.i.dfs.drop (n+1+mi.i.dfs.length - mi.i.ps.length)) (.ref a::vs) H2 Q E) E) E
theorem Ox {es:List Expr} {P:Value->Shared->Prop} {s:Shared} (h1:Dk o=true) (h2:es.all noStar=true) (h3:es.length<30) (h4:(apos.endLine==cpos.line)=true)
  (h:wpAny (model X.prog X.w) X.A (eval o X.env) (fun ov s1=>∀ pl,wpAny (model X.prog X.w) X.A (getMethod ov m pl) (fun fx s2=>wpAny (model X.prog X.w) X.A (callWith cpos fx.1 fx.2 (backTo cpos (starEach es X.env)) (backToKw cpos (keywordEach [] X.env))) P X.xe s2) X.xe s1) X.xe s) :
  wpAny (model X.prog X.w) X.A (eval (.Call (.Attribute o m apos) es [] cpos) X.env) P X.xe s:=by
 have few:methodCallForm (es.length+([]:List Keyword).length) (backTo cpos (starEach es X.env)) (backToKw cpos (keywordEach [] X.env))=true:=by
  unfold methodCallForm
  rw [Ho h2]
  simpa [backToKw,keywordEach] using h3
 rw [arm_eval_Call,Ei h1]
 refine wpAny_bind (thn h fun ov s1 h1=>wpAny_bind (wpAny_standAt ?_))
 unfold methodCall calleeOf
 rw [few,if_pos rfl]
 refine wpAny_bind (wpAny_holding (thn (h1 _) fun fx s2 h2=>?_))
 have hp:methodCallPos true o X.env apos cpos=pure cpos:=by unfold methodCallPos;rw [h4];rfl
 rw [hp]
 exact wpAny_bind (wpAny_pure h2)
theorem ac9 {l:List MI} (hl:∀ mi∈l,Cls X.K mi.C/\Meth X.K mi.C m mi.i.f/\FIOk X mi.i) (ho:QE X o do') (h1:Dk o=true) (h4:(apos.endLine==cpos.line)=true) :
  QE X (.Call (.Attribute o m apos) [] [] cpos) (dOwn m 0 l do' dNil):=by
 intro Ex mt pins s σ H Q I h
 refine Ox (es:=[]) h1 rfl (by decide) h4 (thn (ho Ex mt pins s σ H _ I h) fun u s1 ⟨x,H1,I1,rx,a,dx,fs,mi,ex,hm,ea,hf,hn,q⟩ pl=>?_)
 subst ex
 obtain rfl:u=Value.ref a:=rx
 obtain⟨c,k,F⟩:=hl mi hm
 refine Jb I1 ea c k hf ?_
 exact PySem.W.callWith_K0 (first:=[.ref a]) I1.kIn k.kp (Im (us:=[.ref a]) (vs:=[.ref a]) F (by omega) mt I1 (.cons rfl .nil) q)
theorem ao5 {l:List MI} {e:Expr} (hl:∀ mi∈l,Cls X.K mi.C/\Meth X.K mi.C m mi.i.f/\FIOk X mi.i) (ho:QE X o do') (ha:QA X (e::es) r) (h1:Dk o=true) (h2:(e::es).all noStar=true) (h3:(e::es).length<30) (h4:(apos.endLine==cpos.line)=true) :
  QE X (.Call (.Attribute o m apos) (e::es) [] cpos) (dOwn m (es.length+1) l do' r):=by
 intro Ex mt pins s σ H Q I h
 refine Ox h1 h2 h3 h4 (thn (ho Ex mt pins s σ H _ I h) fun u s1 ⟨x,H1,I1,rx,a,dx,fs,mi,ex,hm,ea,hf,hn,q⟩ pl=>?_)
 subst ex
 obtain rfl:u=Value.ref a:=rx
 obtain⟨c,k,F⟩:=hl mi hm
 refine Jb I1 ea c k hf ?_
 have hs:=List.all_cons▸h2
 rw [Bool.and_eq_true] at hs
 refine PySem.W.callWith_K (first:=[.ref a]) (h₀:=X.base) I.ok.mod.kin k.kp (thn (ha Ex mt cpos pins s1 σ H1 _ I1 q) fun us s2 ⟨vs,H2,I2,r2,q2⟩=>⟨I2.kIn,?_⟩) (A7 hs.1 es X.env) (Bf hs.2 X.env cpos)
 exact Im (us:=.ref a::us) (vs:=.ref a::vs) F (by omega) mt I2 (.cons rfl r2) q2
def Et:DE:=fun _ H Q _=>∀ p,H p=none->Q (.ref p) (upd H p (.dK []))\/Q (.ref p) (upd H p (.dT []))
theorem ac6:QE X (.Dict [] [] pos) Et:=fun Ex mt pins s σ H Q I h=>by
 have fr:=I.hok.fresh (Nat.le_refl s.heap.objs.size)
 rcases h _ fr with q|q
 ·exact wpAny_Dict_empty ⟨.ref _,_,I.laid (a:=s.heap.objs.size) (o:=.dK []) (t':=s.toks) (fun _ _ q=>Heap.get?_push_of_some _ q) (Nat.le_refl _) (Od s.heap I.big),rfl,q⟩
 ·exact wpAny_Dict_empty ⟨.ref _,_,I.laid (a:=s.heap.objs.size) (o:=.dT []) (t':=s.toks) (fun _ _ q=>Heap.get?_push_of_some _ q) (Nat.le_refl _) (Wn s.heap I.big),rfl,q⟩
def Qb:List (DE×DE)->St->Hp->(List (V×V)->Hp->Prop)->EK->Prop
 | [],_,H,Q,_=>Q [] H
 | (k,v)::r,σ,H,Q,E=>k σ H (fun x H1=>v σ H1 (fun y H2=>Qb r σ H2 (fun ps H3=>Q ((x,y)::ps) H3) E) E) E
def Cf (trs:List (DE×DE)):DE:=fun σ H Q E=>∀ p,H p=none->Qb trs σ (upd H p (.dK [])) (fun ps H2=>H2 p=some (.dK []) /\ ∃ kvs:List (Key×V),ps=kvs.map (fun kv=>(kV kv.1,kv.2))/\kvs.length<=15/\Q (.ref p) (upd H2 p (.dK (G5 [] kvs)))) E
theorem X1 {w:Expr->DE} (h:∀ e,QE X e (w e)) {Ex:St->EK} (mt:Ca X Ex) (pos:Pos):∀ (ks vs:List Expr),ks.length=vs.length->PPs X pos (ks.map some) vs ((ks.zip vs).map fun p=>((fun σ H Q=>w p.1 σ H Q (Ex σ)),fun σ H Q=>w p.2 σ H Q (Ex σ)))
 | [],[],_=>ab6
 | k::ks,v::vs,hl=>X0 (h k Ex mt) (h v Ex mt) (X1 h mt pos ks vs (by simpa using hl))
 | [],_::_,hl=>by simp at hl
 | _::_,[],hl=>by simp at hl
theorem N9 {Ex:St->EK} {w:Expr->DE}:∀ (l:List (Expr×Expr)) (σ:St) (H:Hp) (Q:List (V×V)->Hp->Prop),Qb (l.map fun p=>(w p.1,w p.2)) σ H Q (Ex σ)=Ni (l.map fun p=>((fun σ H Q=>w p.1 σ H Q (Ex σ)),fun σ H Q=>w p.2 σ H Q (Ex σ))) σ H Q
 | [],_,_,_=>rfl
 | (k,v)::r,σ,H,Q=>by
  show w k σ H _ _=w k σ H _ _
  congr 1
  funext x H1
  congr 1
  funext y H2
  exact N9 r σ H2 _
theorem ac5 {w:Expr->DE} (h:∀ e,QE X e (w e)) {ks vs:List Expr} (hl:ks.length=vs.length) (h0:ks≠[]) (h15:ks.length<=15):QE X (.Dict (ks.map some) vs pos) (Cf ((ks.zip vs).map fun p=>(w p.1,w p.2))):=by
 intro Ex mt pins s σ H Q I q
 refine ab2 (X1 h mt pos ks vs hl) (by simp) (by simpa using hl) (by simpa using h0) (by simpa using h15) pins s σ H Q I ?_
 intro p hp
 have q:=q p hp
 rw [N9] at q
 exact q
theorem Vj {a:Expr} {da:DE} {p2 pos2:Pos} (hc:X.calm=true) (hg:Gl X "len") (hm:X.mg "len" = none) (hg2:Gl X "set") (hm2:X.mg "set" = none) (ha:QE X a da) (hs:noStar a=true) :
  QE X (.Call (.Name "len" p) [.Call (.Name "set" p2) [a] [] pos2] [] pos) (dUn (Il X.K) da):=by
 intro Ex mt pins s σ H Q I h
 refine wpAny_Call_Name_kw (Fn I hg hm PySem.boot_len (PyProof.Rows.callWith_builtin1 (Calls.spliced_cons ?_) rfl rfl) (by decide) (by decide))
 refine wpAny_Call_Name_kw (Fn I hg2 hm2 PyProof.Rows.boot_set (PyProof.Rows.callWith_type1 ?_ (A7 hs [] X.env) rfl) (by decide) (by decide))
 rw [A7 hs]
 show wpAny _ _ (spliced ((false,eval a X.env)::backTo pos2 (starEach [] X.env))) _ _ s
 refine Calls.spliced_cons (thn (ha Ex mt pins s σ H _ I h) fun u s1 ⟨x,H1,I1,r1,q1⟩=>Calls.spliced_nil ?_)
 exact thn (aa0 hc I1 r1 q1) fun v s2 q=>Calls.spliced_nil q
end
def Itst (lo st:Int) (n:Nat):It:=⟨fun i _=>i<n,fun i H x H'=>H'=H/\x=.int (lo+(i:Int) * st),fun i _=>n<=i⟩
theorem Vx {P:Program} {w:World} {K:PySem.W.Frag} {tg:Expr} (it:Addr) (lo st:Int) (n:Nat):Turn P w K tg (Itst lo st n) [it] it (fun i h=>IsRangeIter h it (lo+(i:Nat) * st) ((n:Int) - (i:Nat)) st) where
 mem:=List.mem_singleton.mpr rfl
 obj:=fun i h q b hb=>by
  obtain rfl:=List.mem_singleton.mp hb
  exact⟨_,q,fun v z=>by cases (show Data.fields _=Data.cell v from z)⟩
 keep:=fun i h h' q k=>k it (List.mem_singleton.mpr rfl) _ q
 item:=by
  intro X hP hw hK hc i pins s σ H E I hf q go
  subst hP hw hK
  obtain⟨g0,g1,_,g3,g4,g5⟩:=hf it (List.mem_singleton.mpr rfl)
  refine (Walks.range (prog:=X.prog) (w:=X.w) (I.ok.hd hc) it lo st n).item i s _ _ go q fun v h' tk hv q' kk=>?_
  obtain⟨t,rfl⟩:=hv
  have I1:Inv X pins σ H { s with heap:=h',toks:=tk }:=I.turned (fun b o nb e=>kk b o (fun z=>nb (List.mem_singleton.mp z)) e) g0 g1 g3 g4 g5
  exact⟨_,rfl,Lc (s:={ s with heap:=h',toks:=tk }) (n := "range_iterator") q' rfl rfl (by decide) ⟨.int (lo+(i:Int) * st),H,I1,⟨t,rfl⟩,⟨rfl,rfl⟩,q',fun b hb=>(hf b hb).1⟩⟩
 done:=by
  intro X hP hw hK hc i pins s σ H E I hf q go
  subst hP hw hK
  obtain⟨g0,g1,_,g3,g4,g5⟩:=hf it (List.mem_singleton.mpr rfl)
  exact wpAny_pyNext_range_end (I.ok.hd hc) q (by have:n<=i:=go;omega) fun h' eb=>⟨rfl,I.turned (t':=s.toks) (fun b o nb e=>eb b o nb e) g0 g1 g3 g4 g5⟩
 self:=fun _ _ _ _ _ q h=>wpAny_pyIter_rangeiter q h
section
variable {X:Cx} {tg:Expr}
theorem ae2 {pins:List (Addr×Obj)} {σ:St} {H:Hp} {s:Shared} {R:It->Hp->Prop} {E:Value->Shared->Prop} {lo hi st:Int} {t u v:Tok} {tk:Nat} (I:Inv X pins σ H s) (sm:Builtin.Range.small lo hi st=true)
  (q:R (Itst lo st (Builtin.Range.rangeSize lo hi st).toNat) H):wpAny (model X.prog X.w) X.A (pyIter (.ref s.heap.objs.size)) (PIE X pins σ tg R) E { s with heap:=s.heap.push { cls:=.type "range", data:=.fields #[.int lo t,.int hi u,.int st v] },toks:=tk }:=by
 refine wpAny_pyIter_range (IsRange.new ..) sm ?_
 have I1:Inv X pins σ H { s with heap:=s.heap.push { cls:=.type "range", data:=.fields #[.int lo t,.int hi u,.int st v] },toks:=tk }:=I.kept fun b o e=>Heap.get?_push_of_some _ e
 generalize s.heap.push { cls:=.type "range", data:=.fields #[.int lo t,.int hi u,.int st v] }=h1 at I1 ⊢
 refine⟨h1.objs.size,[h1.objs.size],_,_,H,rfl,I1.kept (t':=tk) fun b o e=>Heap.get?_push_of_some _ e,Vx _ lo st (Builtin.Range.rangeSize lo hi st).toNat,?_,fun b hb=>?_,q⟩
 ·have e:lo+((0:Nat):Int) * st=lo:=by rw [Int.natCast_zero,Int.zero_mul,Int.add_zero]
  have f:(((Builtin.Range.rangeSize lo hi st).toNat:Nat):Int) - ((0:Nat):Int)=Builtin.Range.rangeSize lo hi st:=by
   rw [<- rangeSize_toNat,Int.natCast_zero,Int.sub_zero]
  show IsRangeIter _ _ (lo+((0:Nat):Int) * st) ((((Builtin.Range.rangeSize lo hi st).toNat:Nat):Int) - ((0:Nat):Int)) st
  rw [e,f]
  exact Heap.get?_push_size _ rfl
 ·obtain rfl:=List.mem_singleton.mp hb
  exact I1.fpOk (Nat.le_refl _) (I1.hok.fresh (Nat.le_refl _))
end
def QI (X:Cx) (tg e:Expr) (t:DI):Prop:=∀ Ex,Ca X Ex->PI X tg e (fun σ H R=>t σ H R (Ex σ))
def iNo:DI:=fun _ _ _ _=>False
def onD (p:Addr) (H:Hp) (R:Obj->List (Key×V)->Hp->Prop):Prop:=(∃ kvs,H p=some (.dK kvs) /\ ∀ o,R o kvs (upd H p (.frz o (.dK kvs)))) \/ ∃ o kvs,H p=some (.frz o (.dK kvs))/\R o kvs H
theorem Xr {X:Cx} {pins:List (Addr×Obj)} {σ:St} {H:Hp} {s:Shared} {p:Addr} {R:Obj->List (Key×V)->Hp->Prop} (I:Inv X pins σ H s) (h:onD p H R):∃ o kvs H',Inv X pins σ H' s/\H' p=some (.frz o (.dK kvs))/\R o kvs H':=by
 rcases h with ⟨kvs,e,q⟩|⟨o,kvs,e,q⟩
 ·obtain⟨o,ep,_,_,I'⟩:=I.froze e
  exact⟨o,kvs,_,I',Ab,q o⟩
 ·exact⟨o,kvs,H,I,e,q⟩
def iVal (K:PySem.W.Frag) (a:DE):DI:=fun σ H R E=>a σ H (fun x H1=>match x with
 | .str z=>R (Its z) H1
 | .ref p=>((∃ xs,SqL K H1 p xs)/\R (Itl K p) H1)\/((∃ xs,SqT K H1 p xs)/\R (Itt K p) H1)\/onD p H1 fun o kvs H2=>R (Itd p o kvs) H2
 | _=>False) E
def iRng (t:DA):DI:=fun σ H R E=>t σ H (fun vs H1=>match vs with
 | [.int j]=>(-(2 ^ 62)<=j/\j<2 ^ 62)/\R (Itr 0 j.toNat) H1
 | [.int i,.int j]=>(-(2 ^ 62)<=i/\i<2 ^ 62 /\ -(2 ^ 62)<=j/\j<2 ^ 62)/\R (Itr i (j - i).toNat) H1
 | [.int i,.int j,.int k]=>(Builtin.Range.small i j k=true/\1<=k/\k<=1000)/\R (Itst i k (Builtin.Range.rangeSize i j k).toNat) H1
 | _=>False) E
def iEn (K:PySem.W.Frag) (t:DA):DI:=fun σ H R E=>t σ H (fun vs H1=>match vs with
 | [.ref a]=>((∃ xs,SqL K H1 a xs)/\R (Ite K a) H1)\/onD a H1 fun o kvs H2=>R (Itde a o kvs) H2
 | _=>False) E
section
variable {X:Cx} {tg e a b:Expr} {da:DE} {r:DA} {p pos:Pos}
theorem ag4:QI X tg e iNo:=fun _ _ _ _ _ _ _ _ h=>h.elim
theorem ao8 (ha:QE X e da):QI X tg e (iVal X.K da):=by
 intro Ex mt pins s σ H R I h
 refine thn (ha Ex mt pins s σ H _ I h) fun v s1 ⟨x,H1,I1,r1,q1⟩=>?_
 cases x with
 | str z=>
  obtain⟨t,rfl⟩:=r1
  refine wpAny_pyIter_strU ?_
  refine⟨s1.heap.objs.size,[s1.heap.objs.size],_,_,H1,rfl,I1.kept (t':=s1.toks) fun b o e=>Heap.get?_push_of_some _ e,Zg s1.heap.objs.size z t (strIterType z) (by unfold strIterType;split <;> simp),⟨_,Heap.get?_push_size _ rfl,rfl,rfl⟩,fun b hb=>?_,q1⟩
  have e:b=s1.heap.objs.size:=by simpa using hb
  subst e
  exact I1.fpOk (Nat.le_refl _) (I1.hok.fresh (Nat.le_refl _))
 | ref a=>
  cases r1
  rcases q1 with ⟨⟨xs,hq⟩,q⟩|⟨⟨xs,hq⟩,q⟩|q
  ·obtain⟨its,rv,p,hz⟩:=I1.list hq
   refine wpAny_pyIter_list p.isList ?_
   refine⟨s1.heap.objs.size,[s1.heap.objs.size],_,_,H1,rfl,I1.kept (t':=s1.toks) fun b o e=>Heap.get?_push_of_some _ e,Vw a _,⟨_,Heap.get?_push_size _ rfl,rfl,rfl⟩,fun b hb=>?_,q⟩
   have e:b=s1.heap.objs.size:=by simpa using hb
   subst e
   exact I1.fpOk (Nat.le_refl _) (I1.hok.fresh (Nat.le_refl _))
  ·obtain⟨its,rv,p,hz⟩:=I1.tuple hq
   refine wpAny_pyIter_tuple (show s1.heap.IsTuple a its.toArray from p) ?_
   refine⟨s1.heap.objs.size,[s1.heap.objs.size],_,_,H1,rfl,I1.kept (t':=s1.toks) fun b o e=>Heap.get?_push_of_some _ e,Rf a _,⟨_,Heap.get?_push_size _ rfl,rfl,rfl⟩,fun b hb=>?_,q⟩
   have e:b=s1.heap.objs.size:=by simpa using hb
   subst e
   exact I1.fpOk (Nat.le_refl _) (I1.hok.fresh (Nat.le_refl _))
  ·obtain⟨o,kvs,H2,I2,e,q⟩:=Xr I1 q
   exact Zz I2 e q
 | _=>exact (show False from q1).elim
variable {es:List Expr}
theorem Yc (hg:Gl X "range") (hm:X.mg "range" = none) (ha:QA X (a::es) r) (hs:(a::es).all noStar=true):QI X tg (.Call (.Name "range" p) (a::es) [] pos) (iRng r):=by
 intro Ex mt pins s σ H R I h
 have h2:=List.all_cons▸hs
 rw [Bool.and_eq_true] at h2
 refine Call_ (Fn I hg hm boot_range (PyProof.Rows.callWith_type1 (thn (ha Ex mt pos pins s σ H _ I h) fun us s1 ⟨vs,H1,I1,r1,q1⟩=>?_) (A7 h2.1 es X.env) (Bf h2.2 X.env pos)))
 dsimp only at q1
 split at q1
 ·obtain⟨⟨h1,h2⟩,q⟩:=q1
  obtain⟨u,rfl,t,rfl⟩:=Gp r1
  exact call_range_1 (Pf I1 (by omega) (by omega) h1 h2 (by simpa using q))
 ·obtain⟨⟨h1,h2,h3,h4⟩,q⟩:=q1
  obtain⟨u,v,rfl,⟨t,rfl⟩,⟨t',rfl⟩⟩:=a74 r1
  exact call_range_2 (Pf I1 h1 h2 h3 h4 q)
 ·obtain⟨⟨h1,h2,h3⟩,q⟩:=q1
  cases r1 with
  | cons ra rr=>cases rr with
   | cons rb rr=>cases rr with
    | cons rc rr=>
     cases rr
     obtain⟨t,rfl⟩:=ra
     obtain⟨t',rfl⟩:=rb
     obtain⟨t2,rfl⟩:=rc
     exact call_range_3 (by omega) (ae2 I1 h1 q) (.inl (PyProof.noPylong_small (by omega)))
 ·exact q1.elim
theorem ad0 {elts:List Expr} {kt:Nat} {pt:Pos} (hg:Gl X "enumerate") (hm:X.mg "enumerate" = none) (ha:QA X (a::es) r) (hs:(a::es).all noStar=true):QI X (.Tuple elts kt pt) (.Call (.Name "enumerate" p) (a::es) [] pos) (iEn X.K r):=by
 intro Ex mt pins s σ H R I h
 have hh:=List.all_cons▸hs
 rw [Bool.and_eq_true] at hh
 refine Call_ (Fn I hg hm boot_enumerate (PyProof.Rows.callWith_type1 (thn (ha Ex mt pos pins s σ H _ I h) fun us s1 ⟨vs,H1,I1,r1,q1⟩=>?_) (A7 hh.1 es X.env) (Bf hh.2 X.env pos)))
 dsimp only at q1
 split at q1
 ·rename_i l
  obtain⟨u,rfl,ru⟩:=Gp r1
  cases ru
  rcases q1 with ⟨⟨xs,q1⟩,q⟩|q
  case inr=>
   obtain⟨o,kvs,H2,I2,e,q⟩:=Xr I1 q
   exact Wp I2 e q
  obtain⟨its1,t1,p1,z1⟩:=I1.list q1
  refine call_enumerate_list p1.isList fun h' he hit hsz hk=>?_
  refine wpAny_pyIter_enum he ?_
  refine⟨_,_,_,_,H1,rfl,I1.kept (t':=s1.toks) hk,Vv (Nat.succ_ne_self _),⟨⟨_,he⟩,hit⟩,fun b hb=>?_,q⟩
  have hb:b=s1.heap.objs.size+1\/b=s1.heap.objs.size:=by simpa using hb
  have le:s1.heap.objs.size<=b:=by
   rcases hb with e|e
   ·rw [e];exact Nat.le_add_right _ 1
   ·rw [e];exact Nat.le_refl _
  exact I1.fpOk le (I1.hok.fresh le)
 ·exact q1.elim
def gNo:DG:=fun _ _ _ _=>False
def gdS:List DG->List V->St->Hp->(St->Hp->Prop)->Prop
 | [],[],σ,H,Q=>Q σ H
 | g::gs,v::vs,σ,H,Q=>g v σ H fun σ' H'=>gdS gs vs σ' H' Q
 | _,_,_,_,_=>False
def gdT (K:PySem.W.Frag) (n:Nat) (gs:List DG):DG:=fun v σ H Q=>match v with
 | .ref a=>∃ xs,SqT K H a xs/\xs.length=n/\gdS gs xs σ H Q
 | _=>False
theorem Oz:PG X tg gNo:=fun _ _ _ _ _ _ _ _ _ h=>h.elim
theorem az4:PGs X [] (gdS []):=by
 intro pins s σ H vs us Q I r h
 cases vs with
 | nil=>exact ab4 pins s σ H [] us Q I r ⟨rfl,h⟩
 | cons v vs=>exact (show False from h).elim
theorem az3 {g:DG} {gs:List DG} {ts:List Expr} (h1:PG X tg g) (h2:PGs X ts (gdS gs)) (hs:(assignEach (tg::ts) X.env).map (·.2)=assign tg X.env::(assignEach ts X.env).map (·.2)):PGs X (tg::ts) (gdS (g::gs)):=by
 intro pins s σ H vs us Q I r h
 cases vs with
 | nil=>exact (show False from h).elim
 | cons v vs=>exact Xv h1 h2 hs pins s σ H (v::vs) us Q I r ⟨v,vs,rfl,h⟩
theorem pg_T {ts:List Expr} {k n:Nat} {gs:List DG} (hc:X.calm=true) (h:PGs X ts (gdS gs)) (hn:(assignEach ts X.env).length=n) (hst:(assignEach ts X.env).findIdx? (·.1)=none):PG X (.Tuple ts k pos) (gdT X.K n gs):=by
 intro pins s σ H v u Q I r hw
 cases v with
 | ref a=>exact am7 hc h hn hst pins s σ H _ u Q I r (let ⟨xs,h1,h2,h3⟩:=hw;⟨a,xs,rfl,h1,h2,h3⟩)
 | _=>exact (show False from hw).elim
end
def Ck (cs:List (Str×Addr)):List (Str×NameKind)->List (Str×Addr)->List (Str×Addr)
 | [],acc=>acc
 | (n,k)::r,acc=>if k==.free then Ck cs r ((n,(cs.lookup n).getD 0)::acc) else Ck cs r acc
theorem Ko {scope:Scope} {env:Env} (h:∀ y∈scope.names,y.2=.free -> ∃ c,env.cells.lookup y.1=some c):closureFor scope env=pure (Ck env.cells scope.names []):=by
 unfold closureFor
 generalize scope.names=names at h
 suffices ∀ acc,(forIn names acc fun (x:Str×NameKind) cs=>do
   if (x.2==.free)=true then do
    let c <- cellOf env x.1
    pure (ForInStep.yield ((x.1,c)::cs))
   else pure (ForInStep.yield cs):Sem (List (Str×Addr)))=pure (Ck env.cells names acc) by
  have:=this []
  simp only [bind_pure]
  exact this
 induction names with
 | nil=>intro acc;rfl
 | cons y r ih=>
  intro acc
  obtain⟨n,k⟩:=y
  rw [List.forIn_cons]
  unfold Ck
  by_cases e:(k==NameKind.free)=true
  ·obtain⟨c,hc⟩:=h (n,k) (by simp) (eq_of_beq e)
   have ec:cellOf env n=pure c:=by
    unfold cellOf
    rw [show env.cells.lookup n=some c from hc]
   simp only [e,if_true,ec,pure_bind]
   rw [ih (fun y hy=>h y (List.mem_cons_of_mem _ hy))]
   rw [show env.cells.lookup n=some c from hc]
   rfl
  ·have e':(k==NameKind.free)=false:=by simpa using e
   simp only [e',Bool.false_eq_true,if_false,pure_bind]
   rw [ih (fun y hy=>h y (List.mem_cons_of_mem _ hy))]
theorem Gv {cs:List (Str×Addr)}:∀ {names:List (Str×NameKind)} {acc:List (Str×Addr)} {p:Str×Addr},p∈Ck cs names acc->p∈acc\/((p.1,NameKind.free)∈names/\p.2=(cs.lookup p.1).getD 0)
 | [],_,_,h=>.inl h
 | (n,k)::r,acc,p,h=>by
  unfold Ck at h
  by_cases e:(k==NameKind.free)=true
  ·rw [if_pos e] at h
   rcases Gv h with h|⟨h1,h2⟩
   ·rcases List.mem_cons.mp h with h|h
    ·subst h
     exact .inr ⟨by rw [eq_of_beq e];simp,rfl⟩
    ·exact .inl h
   ·exact .inr ⟨List.mem_cons_of_mem _ h1,h2⟩
  ·rw [if_neg e] at h
   rcases Gv h with h|⟨h1,h2⟩
   ·exact .inl h
   ·exact .inr ⟨List.mem_cons_of_mem _ h1,h2⟩
theorem Gu {cs:List (Str×Addr)}:∀ {names:List (Str×NameKind)} {acc:List (Str×Addr)} {p:Str×Addr},p∈acc->p∈Ck cs names acc
 | [],_,_,h=>h
 | (n,k)::r,acc,p,h=>by
  unfold Ck
  split
  ·exact Gu (List.mem_cons_of_mem _ h)
  ·exact Gu h
theorem K4 {cs:List (Str×Addr)}:∀ {names:List (Str×NameKind)} {acc:List (Str×Addr)} {n:Str},(n,NameKind.free)∈names->n∈(Ck cs names acc).map (·.1)
 | [],_,_,h=>by cases h
 | (m,k)::r,acc,n,h=>by
  unfold Ck
  rcases List.mem_cons.mp h with e|h
  ·cases e
   rw [if_pos (show (NameKind.free==NameKind.free)=true from rfl)]
   exact List.mem_map.mpr ⟨_,Gu (List.mem_cons_self),rfl⟩
  ·split <;> exact K4 h
def relN (sc:List (Str×NameKind)) (names:List (Str×NameKind)):List (Str×NameKind):=names.map fun (n,k)=>if (k==.free&&sc.lookup n==some .cell) then (n,.cell) else (n,k)
def locN (names:List (Str×NameKind)):List Str:=(names.filter fun y=>(y.2==.local) && !(y.1==(".0" : Str))).map (·.1)
def freN (names:List (Str×NameKind)):List Str:=(names.filter fun y=>y.2==.free).map (·.1)
def cfV (o:Option NameKind):Bool:=o==some .cell||o==some .free
def Cl (G:Sg) (names:List (Str×NameKind)):Sg:={ G with N:=locN names++freN names,sc:=relN G.sc names,top:=false }
def Fb (G:Sg) (names:List (Str×NameKind)):List (Option Nat):=(locN names).map (fun _=>none)++(freN names).map (fun x=>Cd G.N x 0)
def Es (G:Sg) (sc:Scope):Bool:=
 (sc.names.all fun y=>!(y.2==.cell))&&(sc.names.all fun y=>!(y.2==.local)||(sc.names.lookup y.1==some .local))&&(sc.kind==.function) &&
 decide (locN sc.names++freN sc.names).Nodup&&((freN sc.names).all fun x=>(Cd G.N x 0).isSome&&cfV (G.sc.lookup x)&&cfV ((relN G.sc sc.names).lookup x)) &&
 ((locN sc.names).all fun x=>(relN G.sc sc.names).lookup x==some .local)
section
variable {X:Cx} {G:Sg} {sc:Scope}
theorem F7 {o:Option NameKind} (h:cfV o=true):o=some .cell\/o=some .free:=by
 unfold cfV at h
 rw [Bool.or_eq_true] at h
 exact h.elim (fun e=>.inl (eq_of_beq e)) fun e=>.inr (eq_of_beq e)
theorem Fr (O:GOk X G):(relabel sc X.env).names=relN G.sc sc.names:=by
 unfold relabel relN
 apply List.map_congr_left
 rintro⟨n,k⟩ _
 have e:X.env.kindOf n=G.sc.lookup n:=O.sc n
 dsimp only
 rw [e,O.kind]
 simp
theorem Mq (O:GOk X G) (h:Es G sc=true):Io X (Cl G sc.names).N (Fb G sc.names) sc (Ck X.env.cells sc.names []):=by
 unfold Es at h
 simp only [Bool.and_eq_true,List.all_eq_true,Bool.not_eq_true',decide_eq_true_eq,Bool.or_eq_true] at h
 obtain⟨⟨⟨⟨⟨h1,h2⟩,h3⟩,h4⟩,h5⟩,h6⟩:=h
 have fr:∀ y∈sc.names,y.2=.free -> ∃ c,X.env.cells.lookup y.1=some c:=fun y hy hf=>by
  refine O.cel y.1 ?_
  rw [O.sc]
  refine F7 (h5 y.1 ?_).1.2
  exact List.mem_map.mpr ⟨y,List.mem_filter.mpr ⟨hy,by rw [hf];rfl⟩,rfl⟩
 have nc:∀ y∈sc.names,y.2≠.cell:=fun y hy e=>by
  have:=h1 y hy
  rw [e] at this
  cases this
 refine⟨Ko fr,nc,eq_of_beq h3,fun y hy hl=>?_,fun x c hx=>?_,fun x hx=>?_,?_,fun k j x e1 e2=>?_⟩
 ·rcases h2 y hy with z|z
  ·rw [hl] at z;cases z
  ·exact eq_of_beq z
 ·have hm:=PySem.mem_of_lookup hx
  rcases Gv hm with z|⟨z1,z2⟩
  ·cases z
  ·obtain⟨c',hc'⟩:=fr _ z1 rfl
   have z2':c=(X.env.cells.lookup x).getD 0:=z2
   rw [show X.env.cells.lookup x=some c' from hc'] at z2' ⊢
   rw [z2']
   rfl
 ·have hn:(relabel sc X.env).names=relN G.sc sc.names:=Fr O
  have key:∀ kd,(relabel sc X.env).names.lookup x=some kd->cfV (some kd)=true -> ∃ c,(Ck X.env.cells sc.names []).lookup x=some c:=fun kd hkd hc=>by
   rw [hn] at hkd
   have hm:=PySem.mem_of_lookup hkd
   unfold relN at hm
   obtain⟨⟨n,k⟩,hy,e⟩:=List.mem_map.mp hm
   dsimp only at e
   have hfree:k=.free/\n=x:=by
    have hkc:=nc _ hy
    by_cases e1:(k==NameKind.free&&G.sc.lookup n==some .cell)=true
    ·rw [if_pos e1] at e
     rw [Bool.and_eq_true] at e1
     exact⟨eq_of_beq e1.1,congrArg Prod.fst e⟩
    ·rw [if_neg e1] at e
     cases e
     rcases F7 hc with z|z
     ·exact absurd (Option.some.inj z) hkc
     ·exact⟨Option.some.inj z,rfl⟩
   obtain⟨rfl,rfl⟩:=hfree
   exact Xh (K4 hy)
  rcases hx with hx|hx
  ·exact key _ hx rfl
  ·exact key _ hx rfl
 ·unfold Fb Cl
  simp
 ·have e1':(locN sc.names++freN sc.names)[k]? = some x:=e1
  have e2':((locN sc.names).map (fun _=>(none:Option Nat))++(freN sc.names).map (fun x=>Cd G.N x 0))[k]? = some (some j):=e2
  by_cases hlt:k<(locN sc.names).length
  ·rw [List.getElem?_append_left (by simpa using hlt),List.getElem?_map] at e2'
   cases q:(locN sc.names)[k]? with
   | none=>rw [q] at e2';cases e2'
   | some z=>rw [q] at e2';cases e2'
  ·rw [List.getElem?_append_right (by simpa using hlt)] at e1' 
   rw [List.getElem?_append_right (by simpa using hlt),List.length_map,List.getElem?_map,e1'] at e2'
   have hs:Cd G.N x 0=some j:=Option.some.inj e2'
   have hx:x∈freN sc.names:=List.mem_of_getElem? e1'
   obtain⟨⟨_,c1⟩,c2⟩:=h5 x hx
   refine⟨by rw [O.N];exact D0 hs,?_,?_⟩
   ·rw [O.sc];exact F7 c1
   ·rw [Fr O];exact F7 c2
theorem Rt (O:GOk X G) (h:Es G sc=true) (fp:List Addr) (C:Addr) (s:Shared) (H:Hp) (xe:Value->Shared->Prop) :
  GOk (X.comp (Cl G sc.names).N sc (Ck X.env.cells sc.names []) fp C s H xe) (Cl G sc.names):=by
 have S:=Mq O h
 unfold Es at h
 simp only [Bool.and_eq_true,List.all_eq_true,Bool.not_eq_true',decide_eq_true_eq,Bool.or_eq_true] at h
 obtain⟨⟨⟨⟨⟨h1,h2⟩,h3⟩,h4⟩,h5⟩,h6⟩:=h
 have hn:(relabel sc X.env).names=relN G.sc sc.names:=Fr O
 refine⟨O.K,eq_of_beq h3,(fun z=>by cases z),rfl,h4,fun x=>?_,fun x hx=>?_,fun z=>(by cases z),O.calm,O.hd,O.units,fun x hx=>S.has x hx,fun x i e=>?_,O.val,O.bl,fun x C oi e=>?_,fun x C oi e=>?_,fun m l e mi hm=>?_,fun z=>(by cases z),O.fr⟩
 ·show (relabel sc X.env).names.lookup x=_
  rw [hn]
  rfl
 ·show Vis (relabel sc X.env) x
  unfold Vis
  rw [hn]
  rcases List.mem_append.mp hx with q|q
  ·exact .inl (eq_of_beq (h6 x q))
  ·exact .inr (F7 (h5 x q).2)
 ·obtain⟨m,F⟩:=O.fn x i e
  obtain⟨CX,p,f⟩:=F.ok
  exact⟨m,⟨F.kp,⟨CX,p,f⟩,F.room,F.binds,F.vals⟩⟩
 ·obtain⟨m,k,c,i0⟩:=O.exc x C oi e
  refine⟨m,k,c,?_⟩
  cases oi with
  | none=>exact i0
  | some i=>obtain⟨a1,a2,F,r⟩:=i0;obtain⟨CX,p,f⟩:=F.ok;exact⟨a1,a2,⟨F.kp,⟨CX,p,f⟩,F.room,F.binds,F.vals⟩,r⟩
 ·obtain⟨m,k,i0⟩:=O.cls x C oi e
  refine⟨m,k,?_⟩
  cases oi with
  | none=>exact i0
  | some i=>
   obtain⟨a,b,c,F,r⟩:=i0
   obtain⟨CX,p,f⟩:=F.ok
   exact⟨a,b,c,⟨F.kp,⟨CX,p,f⟩,F.room,F.binds,F.vals⟩,r⟩
 ·obtain⟨a,b,F⟩:=O.met m l e mi hm
  obtain⟨CX,p,f⟩:=F.ok
  exact⟨a,b,⟨F.kp,⟨CX,p,f⟩,F.room,F.binds,F.vals⟩⟩
end
def Bh:St->Hp->(Option Int->Hp->Prop)->EK->Prop:=fun _ H Q _=>Q none H
def Bv (a:DE):St->Hp->(Option Int->Hp->Prop)->EK->Prop:=fun σ H Q E=>a σ H (fun x H1=>match x with
 | .int i=>Q (some i) H1
 | _=>False) E
abbrev DO:=St->Hp->(Option Int->Hp->Prop)->EK->Prop
def rSlD (K:PySem.W.Frag):V->Option Int->Option Int->Hp->VK->Prop:=fun x lo hi H Q=>match x with
 | .str z=>z.length<=sizeLine/\Q (.str (Txt.slice z lo hi)) H
 | .ref a=>(∃ xs,SqL K H a xs /\ ∀ p,H p=none->Q (.ref p) (upd H p (.lst (cutV xs lo hi)))) \/
   (∃ xs,SqT K H a xs /\ ¬ (HT.sIx xs.length 0 lo=0/\HT.sIx xs.length xs.length hi=xs.length) /\ ∀ p,H p=none->Q (.ref p) (upd H p (.tup (cutV xs lo hi))))
 | _=>False
def dSl (K:PySem.W.Frag) (a:DE) (l h:DO):DE:=fun σ H Q E=>a σ H (fun x H1=>l σ H1 (fun lo H2=>h σ H2 (fun hi H3=>rSlD K x lo hi H3 Q) E) E) E
def QO (X:Cx) (e:Option Expr) (t:DO):Prop:=∀ Ex,Ca X Ex->PO X e (fun σ H Q=>t σ H Q (Ex σ))
section
variable {X:Cx} {G:Sg} {e:Expr} {de:DE} {lo hi:Option Expr} {dl dh:DO} {pos p2:Pos}
theorem Tc:QO X none Bh:=fun _ _=>ab5
theorem Td (h:QE X e de):QO X (some e) (Bv de):=by
 intro Ex m pins s σ H Q I hw
 rw [evalPart_some]
 refine thn (h Ex m pins s σ H _ I hw) fun u s1 ⟨x,H1,I1,r1,q1⟩=>?_
 cases x with
 | int i=>obtain⟨t,rfl⟩:=r1;exact⟨some i,H1,I1,.int i t,q1⟩
 | _=>exact (show False from q1).elim
theorem M1 (e:Expr) (z:Str) (t:Tok) (r:Value):letTemporaryGo e (.str z t) r=pure ():=by
 cases e <;> rfl
theorem Yb (he:QE X e de) (hl:QO X lo dl) (hh:QO X hi dh):QE X (.Subscript e (.Slice lo hi none p2) pos) (dSl X.K de dl dh):=by
 intro Ex m pins s σ H Q I h
 refine Subscript_ (thn (he Ex m pins s σ H _ I h) fun v s1 ⟨x,H1,I1,r1,q1⟩=>?_)
 refine wpAny_Slice (thn (hl Ex m pins s1 σ H1 _ I1 q1) fun vl s2 ⟨l,H2,I2,pl,q2⟩=>thn (hh Ex m pins s2 σ H2 _ I2 q2) fun vu s3 ⟨u,H3,I3,pu,q3⟩=>?_)
 rw [evalPart_none]
 refine wpAny_pure ?_
 show wpAny (model X.prog X.w) X.A (subscriptTail e (.Slice lo hi none p2) v (.ref s3.heap.objs.size)) (EP X pins σ Q) X.xe { s3 with heap:=s3.heap.push { cls:=.type "slice", data:=.fields #[vl,vu,.none] } }
 have I4:Inv X pins σ H3 { s3 with heap:=s3.heap.push { cls:=.type "slice", data:=.fields #[vl,vu,.none] } }:=I3.kept (t':=s3.toks) fun b ob q=>Heap.get?_push_of_some _ q
 have gen:∀ r,SlR X r->r x l u H3 Q->wpAny (model X.prog X.w) X.A (subscriptTail e (.Slice lo hi none p2) v (.ref s3.heap.objs.size)) (EP X pins σ Q) X.xe { s3 with heap:=s3.heap.push { cls:=.type "slice", data:=.fields #[vl,vu,.none] } }:=fun r hr q=>by
  obtain⟨T,id,hT,ht,hg⟩:=hr pins _ σ H3 x v vl vu l u s3.heap.objs.size Q I4 r1 (Heap.IsSliceOf.new ..) pl pu q
  exact tail_any (ops:=[.ref s3.heap.objs.size,v]) ht hT hg (by with_unfolding_all rfl)
 cases x with
 | str z=>
  obtain⟨hz,q⟩:=q3
  obtain⟨t,rfl⟩:=r1
  have hk:KeptH (fun h=>Inv X pins σ H3 { s3 with heap:=h }):=fun h ob J=>J.kept (t':=s3.toks) fun b o eb=>Heap.get?_push_of_some _ eb
  have fin:∀ h' t' k,Inv X pins σ H3 { s3 with heap:=h' }->EP X pins σ Q (.str (Txt.slice z l u) t') { s3 with heap:=h',toks:=k }:=fun h' t' k J=>⟨.str _,H3,J.tok k,⟨_,rfl⟩,q⟩
  cases pl with
  | none=>
   cases pu with
   | none=>exact tail_of_ItemOn (SBH.sliceItem_nn hk I3 fin hz) (by with_unfolding_all rfl) (M1 e z t)
   | int j uj=>exact tail_of_ItemOn (SBH.sliceItem_ns hk I3 fin hz) (by with_unfolding_all rfl) (M1 e z t)
  | int i ui=>
   cases pu with
   | none=>exact tail_of_ItemOn (SBH.sliceItem_sn hk I3 fin hz) (by with_unfolding_all rfl) (M1 e z t)
   | int j uj=>exact tail_of_ItemOn (SBH.sliceItem_ss hk I3 fin hz) (by with_unfolding_all rfl) (M1 e z t)
 | ref a=>
  rcases q3 with ⟨xs,h1,h2⟩|⟨xs,h1,h2,h3⟩
  ·exact gen _ ad9 ⟨a,xs,rfl,h1,h2⟩
  ·exact gen _ as3 ⟨a,xs,rfl,h1,h2,h3⟩
 | _=>exact (show False from q3).elim
def Jo:Expr->Bool
 | .Set _ _ _=>false
 | _=>true
theorem Jp {e:Expr} (h:Jo e=true) (env:Env) (x:Value):foldedSetIterable e env x=pure x:=by
 cases e with
 | Set _ _ _=>cases h
 | _=>rfl
theorem E2:Ca X (fun _ _ _=>False):=fun _ _ _ _ _ _ _ h=>h.elim
variable {tg iter elt:Expr} {ifs:List Expr} {sc:Scope} {wi:DI} {g:DG} {tc:DT}
def okSt (G:Sg) (x:Str):Bool:=(G.sc.lookup x==some .local)||(G.top&&(G.sc.lookup x==some .cell))
def wG:Nat->Sg->Expr->DG
 | 0,_,_=>gNo
 | n+1,G,e=>match e with
  | .Name x _=>match Cd G.N x 0 with
   | some i=>if okSt G x=true then gdN i else gNo
   | none=>gNo
  | .Tuple ts _ _=>if G.calm=true/\ts.all noStar=true then gdT G.K ts.length (ts.map (wG n G)) else gNo
  | _=>gNo
theorem M3 (O:GOk X G) {x:Str} (h:okSt G x=true):Loc X.env.scope x/\(X.fn x=true\/X.env.scope.names.lookup x=some .local):=by
 unfold okSt at h
 rw [Bool.or_eq_true,Bool.and_eq_true] at h
 rcases h with h|⟨h1,h2⟩
 ·have:X.env.scope.names.lookup x=some .local:=by rw [O.sc];exact eq_of_beq h
  exact⟨.inl this,.inr this⟩
 ·have:X.env.scope.names.lookup x=some .cell:=by rw [O.sc];exact eq_of_beq h2
  exact⟨.inr this,.inl (O.top h1 x)⟩
theorem En {e:Expr} (h:noStar e=true) (es:List Expr) (env:Env):assignEach (e::es) env=(false,assign e env)::assignEach es env:=by
 cases e with
 | Starred _ _=>cases h
 | _=>rfl
theorem Iq {es:List Expr} (h:es.all noStar=true) (env:Env):(assignEach es env).length=es.length/\(assignEach es env).findIdx? (·.1)=none:=by
 induction es with
 | nil=>exact⟨rfl,rfl⟩
 | cons e es ih=>
  rw [List.all_cons,Bool.and_eq_true] at h
  obtain⟨h1,h2⟩:=ih h.2
  rw [En h.1]
  refine⟨by rw [List.length_cons,List.length_cons,h1],?_⟩
  rw [List.findIdx?_cons,h2]
  rfl
theorem Px:∀ (n:Nat) (X:Cx) (G:Sg),GOk X G -> ∀ e,PG X e (wG n G e)
 | 0,_,_,_,_=>Oz
 | n+1,X,G,O,e=>by
  cases e with
  | Name x p=>
   unfold wG
   dsimp only
   split
   ·rename_i i e
    split
    ·rename_i h
     obtain⟨h1,h2⟩:=M3 O h
     exact ab3 (by rw [O.N];exact O.nd) (by rw [O.N];exact D0 e) h1 h2
    ·exact Oz
   ·exact Oz
  | Tuple ts k p=>
   unfold wG
   dsimp only
   split
   ·rename_i h
    obtain⟨h1,h2⟩:=h
    obtain⟨h3,h4⟩:=Iq h2 X.env
    rw [<- O.K]
    refine pg_T (O.calm▸h1) ?_ h3 h4
    clear h3 h4
    induction ts with
    | nil=>exact az4
    | cons t ts ih=>
     rw [List.all_cons,Bool.and_eq_true] at h2
     refine az3 (Px n X G O t) (ih h2.2) ?_
     rw [En h2.1]
     rfl
   ·exact Oz
  | _=>exact Oz
end
end L2
namespace L2
open PySem PySem.Spec
structure Ri (l:List Addr) (e C:Addr) (dx:Option Addr) (h h':Heap):Prop where
 exc:∃ (vs':Array Value) (T:Addr) (oT:Obj) (ts':Array Value),h'.get? e=some (Aq C dx vs')/\vs'.size=6/\vs'[1]? = some (.ref T)/\h.objs.size<=T/\T≠e/\h'.get? T=some oT/\oT.data=.fields ts'/\3<ts'.size /\ ∀ vs,h.get? e=some (Aq C dx vs)->vs'[2]? = vs[2]?
 keep:∀ b o,b≠e->b∉l->h.get? b=some o->h'.get? b=some o
 slot:∀ b o,b≠e->h.get? b=some o -> ∃ sl,h'.get? b=some { o with slots:=sl }
abbrev tbO (fs:Array Value):Obj:={ cls:=.type "traceback", dict:=none,data:=.fields fs }
abbrev Jk (T:Addr):Obj->Obj:=Obj.mapFields (·.setIfInBounds 1 (.ref T))
abbrev Ia (h:Heap) (e:Addr) (fs:Array Value):Heap:=(h.push (tbO fs)).update e (Jk h.objs.size)
section
variable {h:Heap} {e C:Addr} {dx:Option Addr} {vs fs:Array Value}
theorem apart (q:h.get? e=some (Aq C dx vs)):h.objs.size≠e:=Nat.ne_of_gt (Heap.lt_size q)
theorem On (T:Addr):(Jk T (Aq C dx vs)).data=.fields (vs.setIfInBounds 1 (.ref T)):=rfl
theorem Qc (q:h.get? e=some (Aq C dx vs)):(Ia h e fs).get? e=some (Aq C dx (vs.setIfInBounds 1 (.ref h.objs.size))):=
 Heap.get?_update_self (Jk h.objs.size) (Heap.get?_push_of_some (tbO fs) q) (Obj.isFreed_of_fields (On h.objs.size))
theorem Qd (q:h.get? e=some (Aq C dx vs)):(Ia h e fs).get? h.objs.size=some (tbO fs):=
 (Heap.get?_update_other (h.push (tbO fs)) (Jk h.objs.size) (apart q).symm).trans (Heap.get?_push_size h rfl)
theorem Hl {b:Addr} {o:Obj} (ne:b≠e) (q:h.get? b=some o):(Ia h e fs).get? b=some o:=
 (Heap.get?_update_other (h.push (tbO fs)) (Jk h.objs.size) ne.symm).trans (Heap.get?_push_of_some (tbO fs) q)
theorem Qo {h0:Heap} {l:List Addr} (hz:h.objs.size=h0.objs.size) (k1:∀ b,b∉l->h.get? b=h0.get? b) (k2:∀ b o,h0.get? b=some o -> ∃ sl,h.get? b=some { o with slots:=sl }) (q:h.get? e=some (Aq C dx vs)) (hs:vs.size=6) (hf:3<fs.size) :
  Ri l e C dx h0 (Ia h e fs) where
 exc:=⟨_,h.objs.size,_,_,Qc q,by rw [Array.size_setIfInBounds];exact hs,Array.getElem?_setIfInBounds_self_of_lt (by omega),by omega,apart q,Qd q,rfl,hf,fun vs0 q0=>by
  obtain⟨sl,z⟩:=k2 e _ q0
  rw [q] at z
  cases z
  exact Array.getElem?_setIfInBounds_ne (by decide)⟩
 keep:=fun b o ne nl hb=>Hl ne ((k1 b nl).trans hb)
 slot:=fun b o ne hb=>let ⟨sl,z⟩:=k2 b o hb;⟨sl,Hl ne z⟩
end
section
variable {M:Model} {A:Around} {E:Value->Shared->Prop} {s:Shared} {base:Heap} {env:Env} {outer:List Env} {L e C:Addr} {dx:Option Addr} {vs:Array Value} {Q:Unit->Shared->Prop}
theorem U9 {head:Value} {hadNext:Bool} {env0:Env} (hfr:A.frames=some (env0::outer)) (hl:s.heap.FunFrames base (env0::outer)) (h0:env0.frame=some L) (hf:env.frame=some L) (q:s.heap.get? e=some (Aq C dx vs)) (hs:vs.size=6) (k:∀ h',Ri (frs (env0::outer)) e C dx s.heap h'->Q () { s with heap:=h' }) :
  wpAny M A ((frameOf env >>= fun a=>entryPlaceOf L hadNext >>= fun pl=>EntryCells.newEntry head a .none (rawInt L) .none pl >>= fun b=>setField (.ref e) 1 b)) Q E s:=by
 have off:e∉frs (env0::outer):=fun z=>by
  obtain⟨_,o,z1,z2⟩:=hl.mem z
  rw [q] at z1
  cases z1
  exact z2 vs rfl
 have fe:frameOf env=frameOf env0:=by unfold frameOf;rw [hf,h0]
 rw [fe]
 refine wpAny_bind (wpAny_frameOf_fun hfr hl h0 fun h1 ⟨a1,a2,a3⟩=>wpAny_bind (wpAny_entryPlaceOf fun pl hpl=>?_))
 unfold EntryCells.newEntry newFields
 refine wpAny_bind (wpAny_newObj_type ?_ (hpl.sizeOk5 _ _ _ _ _))
 have q1:h1.get? e=some (Aq C dx vs):=(a2 e off).trans q
 have lt:3<([head,.ref L,.none,rawInt L,.none]++(if pl.isEmpty then List.replicate 6 Value.none else pl)).toArray.size:=by rw [List.size_toArray,List.length_append];simp only [List.length_cons,List.length_nil];omega
 generalize ([head,.ref L,.none,rawInt L,.none]++(if pl.isEmpty then List.replicate 6 Value.none else pl)).toArray=fs at lt ⊢
 exact wpAny_setField (Heap.get?_push_of_some (tbO fs) q1) rfl (show 1<vs.size by omega) (k _ (Qo a1 a2 a3 q1 hs lt))
end
end L2
namespace L2
open PySem PySem.Spec PyProof.Rows
open Sem (wp)
def au1 (n:Nat) (a:Addr) (H':Hp) (s':Shared):Prop:=
 ∃ (C:Addr) (dx:Option Addr) (vs:Array Value) (T:Addr) (oT:Obj) (ts:Array Value),FlO H' a C dx/\s'.heap.get? a=some (Aq C dx vs)/\vs.size=6/\vs[1]? = some (.ref T)/\T≠a/\s'.heap.get? T=some oT/\oT.data=.fields ts/\ts[3]? = some .none/\n<=T/\H' T=none
def CXE (P:Program) (w:World):CXT:=fun outer H s E e s'=>
 ∃ (a:Addr) (H':Hp),e=.ref a/\s'.os=s.os/\AllBare s'.gens/\Un (frs outer) [] H H' s.heap s'.heap/\HOk P w H' s'.heap/\au1 s.heap.objs.size a H' s'/\E e none H'
section
variable {X:Cx} {pins:List (Addr×Obj)} {σ:St} {H:Hp} {s:Shared} {a C:Addr} {dx:Option Addr} {h':Heap}
theorem Z9 (I:Inv X pins σ H s) (ea:FlO H a C dx) (L:Ri (frs X.stack) a C dx s.heap h'):Un (frs X.stack) [] H H s.heap h' where
 keep:=fun b o q n hb _=>L.keep b o (fun z=>by rw [z] at n;rcases ea with ea|ea <;> (rw [ea] at n;cases n)) hb q
 slot:=fun b o q n _ _=>L.slot b o (fun z=>by rw [z] at n;rcases ea with ea|ea <;> (rw [ea] at n;cases n)) q
 free:=fun b o _ n _=>n
 there:=fun b o q _=>by
  by_cases hb:b=a
  ·obtain⟨vs',T,oT,ts',h1,_⟩:=L.exc
   exact⟨_,by rw [hb];exact h1⟩
  ·obtain⟨sl,h1⟩:=L.slot b o hb q
   exact⟨_,h1⟩
 tups:=fun _ _ e=>e
 frzs:=fun _ _ _ e=>e
 tbls:=fun b ps e=>⟨#[],by rw [e];simp⟩
theorem Z8 (I:Inv X pins σ H s) (ea:FlO H a C dx) (L:Ri (frs X.stack) a C dx s.heap h'):HOk X.prog X.w H h':=fun b o e=>by
 by_cases hb:b=a
 ·subst hb
  obtain⟨vs',T,oT,ts',h1,h2,_,_,_,_,_,_,hc⟩:=L.exc
  rcases ea with ea|ea
  ·obtain⟨vs,g1,_,g3⟩:=Ww I ea
   rw [ea] at e
   cases e
   exact Wv h1 h2 ((hc vs g1).trans g3)
  ·rw [ea] at e
   cases e
   exact Wu h1 h2
 ·refine (I.hok b o e).stay (fun c u hc q=>L.keep c u ?_ ?_ q) (fun _ q=>q) fun _ _ q=>q
  ·rcases hc with rfl|hc
   ·exact hb
   ·rintro rfl
    rcases ea with ea|ea <;> (rw [ea] at hc;cases hc)
  ·intro hm
   have n:=I.stkFree c hm
   rcases hc with rfl|hc
   ·rw [n] at e;cases e
   ·rw [n] at hc;cases hc
end
end L2
namespace L2
open PySem PySem.Spec PyProof.Rows
open Sem (wp)
section
variable {X:Cx} {pins:List (Addr×Obj)} {σ:St} {H:Hp} {s:Shared} {a:Addr} {E:Value->Shared->Prop} {Q:Unit->Shared->Prop}
def FlyT (X:Cx) (pins:List (Addr×Obj)) (H:Hp) (a:Addr) (s:Shared) (z:Value):Prop:=
 ∃ (C:Addr) (dx:Option Addr) (vs:Array Value) (T:Addr) (oT:Obj) (ts:Array Value),FlO H a C dx/\s.heap.get? a=some (Aq C dx vs)/\vs.size=6/\vs[1]? = some (.ref T)/\T≠a/\s.heap.get? T=some oT/\oT.data=.fields ts/\ts[3]? = some z/\FpOk X pins H T
theorem FlyT.at {z:Value} (F:FlyT X pins H a s z):Fi X pins H a s:=by
 obtain⟨C,dx,vs,T,oT,ts,h1,h2,h3,q1,q2,q3,q4,q5,q6⟩:=F
 exact⟨C,dx,vs,h1,h2,h3,.inr ⟨T,oT,ts,q1,q2,q3,q4,⟨z,q5⟩,q6⟩⟩
theorem set3 {C T:Addr} {dx:Option Addr} {vs ts:Array Value} {oT:Obj} {y:Value} (I:Inv X pins σ H s) (h1:FlO H a C dx) (h2:s.heap.get? a=some (Aq C dx vs)) (h3:vs.size=6) (q1:vs[1]? = some (.ref T)) (q2:T≠a) (q3:s.heap.get? T=some oT) (q4:oT.data=.fields ts) (q5:ts[3]? = some y) (q6:FpOk X pins H T) (v:Value) :
  Inv X pins σ H { s with heap:=s.heap.update T (Obj.mapFields (·.setIfInBounds 3 v)) }/\FlyT X pins H a { s with heap:=s.heap.update T (Obj.mapFields (·.setIfInBounds 3 v)) } v/\(s.heap.update T (Obj.mapFields (·.setIfInBounds 3 v))).get? a=some (Aq C dx vs):=by
 have ha:(s.heap.update T (Obj.mapFields (·.setIfInBounds 3 v))).get? a=some (Aq C dx vs):=(Heap.get?_update_other _ _ q2).trans h2
 obtain⟨c0,d0,dt0,sl0⟩:=oT
 cases (show dt0=.fields ts from q4)
 have hT:(s.heap.update T (Obj.mapFields (·.setIfInBounds 3 v))).get? T=some ⟨c0,d0,.fields (ts.setIfInBounds 3 v),sl0⟩:=Heap.get?_update_self _ q3 (Obj.isFreed_of_fields (vs:=ts.setIfInBounds 3 v) rfl)
 exact⟨I.turned (t':=s.toks) (fun b o ne e=>(Heap.get?_update_other _ _ (Ne.symm ne)).trans e) q6.1 q6.2.1 q6.2.2.2.1 q6.2.2.2.2.1 q6.2.2.2.2.2,⟨C,dx,vs,T,_,_,h1,ha,h3,q1,q2,hT,rfl,Array.getElem?_setIfInBounds_self_of_lt (Array.getElem?_eq_some_iff.mp q5).1,q6⟩,ha⟩
theorem Tn {A:Around} {fr:Option Addr} {z:Value} (I:Inv X pins σ H s) (F:FlyT X pins H a s z) (h:∀ s',Inv X pins σ H s'->FlyT X pins H a s' (fr.elim .none fun f=>rawInt f)->Q () s'):wpAny (model X.prog X.w) A (setFlight (.ref a) fr) Q E s:=by
 obtain⟨C,dx,vs,T,oT,ts,h1,h2,h3,q1,q2,q3,q4,q5,q6⟩:=F
 obtain⟨I',F',_⟩:=set3 I h1 h2 h3 q1 q2 q3 q4 q5 q6 (fr.elim .none fun f=>rawInt f)
 unfold setFlight
 refine wpAny_bind (wpAny_field h2 rfl q1 ?_)
 rw [if_pos (by simp)]
 exact wpAny_setField q3 q4 (Array.getElem?_eq_some_iff.mp q5).1 (h _ I' F')
theorem Xp {env:Env} (I:Inv X pins σ H s) {e0:Env} {o0:List Env} {L:Addr} (hs:X.stack=e0::o0) (h0:e0.frame=some L) (hf:env.frame=some L) (F:Fi X pins H a s) (h:∀ s' z,Inv X pins σ H s'->FlyT X pins H a s' z->Q () s') :
  wpAny (model X.prog X.w) X.A (noteFrame (.ref a) env) Q E s:=by
 obtain⟨C,dx,vs,h1,h2,h3,h4⟩:=F
 have fr:X.A.frames=some (e0::o0):=hs▸I.ok.frames
 have new:∀ {s1:Shared} {head:Value} {hadNext:Bool},Inv X pins σ H s1->s1.heap.get? a=some (Aq C dx vs)->wpAny (model X.prog X.w) X.A ((frameOf env >>= fun y=>entryPlaceOf L hadNext >>= fun pl=>EntryCells.newEntry head y .none (rawInt L) .none pl >>= fun b=>setField (.ref a) 1 b)) Q E s1:=fun {s1 head hadNext} I1 q=>by
  have fn:s1.heap.FunFrames X.base (e0::o0):=hs▸I1.stack
  refine U9 (base:=X.base) fr fn h0 hf q h3 fun h' L=>?_
  rw [<- hs] at L
  have I':=I1.call (h':=h') (g':=s1.gens) (t':=s1.toks) (d':=s1.drawn) (ch:=[]) (Z9 I1 h1 L) (Z8 I1 h1 L) I1.bare (fun b z=>absurd z (by simp))
  obtain⟨vs',T,oT,ts',a1,a2,a3,a4,a5,a6,a7,a8,_⟩:=L.exc
  exact h _ _ I' ⟨C,dx,vs',T,oT,ts',h1,a1,a2,a3,a5,a6,a7,Array.getElem?_eq_getElem a8,I1.fpOk a4 (I1.hok.fresh a4)⟩
 unfold noteFrame
 simp only [hf]
 rcases h4 with c|⟨T,oT,ts,c,ne,hT,hd,⟨z,hz⟩,fp⟩
 ·refine wpAny_bind (wpAny_field h2 rfl c ?_)
  rw [if_neg (by decide)]
  exact new I h2
 ·refine wpAny_bind (wpAny_field h2 rfl c ?_)
  rw [if_pos (by simp)]
  refine wpAny_bind (wpAny_field hT hd hz ?_)
  by_cases e:(z==rawInt L)=true
  ·rw [if_pos e]
   exact wpAny_pure (h s z I ⟨C,dx,vs,T,oT,ts,h1,h2,h3,c,ne,hT,hd,hz,fp⟩)
  ·rw [if_neg e]
   obtain⟨I',_,ha⟩:=set3 I h1 h2 h3 c ne hT hd hz fp .none
   exact wpAny_bind (wpAny_setField hT hd (Array.getElem?_eq_some_iff.mp hz).1 (new I' ha))
theorem Sn (I:Inv X pins σ H s) (hs:X.stack=X.env::X.outer) (hf:X.env.frame=some X.env.locals) (F:Fi X pins H a s) (h:∀ s',Inv X pins σ H s'->FlyT X pins H a s' .none->Q () s') :
  wpAny (model X.prog X.w) X.A (noteFrame (.ref a) X.env) (fun _ s1=>wpAny (model X.prog X.w) X.A (setFlight (.ref a) none) Q E s1) E s:=
 Xp I hs hf hf F fun s1 z I1 F1=>Tn I1 F1 h
theorem Gy {A:Around} (I:Inv X pins σ H s) (F:Fi X pins H a s) (h:∀ s',Inv X pins σ H s'->Fi X pins H a s'->Q () s'):wpAny (model X.prog X.w) A (setFlight (.ref a) none) Q E s:=by
 obtain⟨C,dx,vs,h1,h2,h3,h4⟩:=F
 rcases h4 with h4|⟨T,oT,ts,q1,q2,q3,q4,⟨z,q5⟩,q6⟩
 ·unfold setFlight
  refine wpAny_bind (wpAny_field h2 rfl h4 ?_)
  rw [if_neg (by decide)]
  exact wpAny_pure (h s I ⟨C,dx,vs,h1,h2,h3,.inl h4⟩)
 ·exact Tn I ⟨C,dx,vs,T,oT,ts,h1,h2,h3,q1,q2,q3,q4,q5,q6⟩ fun s' I' F'=>h s' I' F'.at
end
section
variable {prog:Program} {w:World} {A:Around} {E:Value->Shared->Prop} {s:Shared} {K:PySem.W.Frag} {a C D:Addr} {dx:Option Addr} {vs:Array Value} {b:Bool} {Q:Bool->Shared->Prop}
open PySem.W in
theorem Jm (X:K.In s.heap) (c:ECls K C) (d:ECls K D) (ha:s.heap.get? a=some (Aq C dx vs)) (m:mroIn K C (.ref D)=some b) (h:Q b s) :
  wpAny (model prog w) A (excMatches (.ref a) (.ref D)) Q E s:=by
 obtain⟨nm,qn,N,bs,bm,hdct,sn,sub,ab,col,dd,k0,k1,k2,k3,k5,hl,ht,hd⟩:=c.obj
 obtain⟨nm',qn',N',bs',bm',hdct',sn',sub',ab',col',dd',k0',k1',k2',k3',k5',hl',ht',hd'⟩:=d.obj
 have hC:=X _ _ hl
 have hD:=X _ _ hl'
 have hcB:(Value.ref D::bm').contains (.type "BaseException")=true:=by rw [List.contains_cons,Bm ht' (show valTail.contains (.type "BaseException")=true by decide +kernel),Bool.or_true]
 have hcD:(Value.ref C::bm).contains (.ref D)=b:=by
  unfold mroIn at m
  obtain⟨cd,e,em⟩:∃ cd,clsIn K C=some cd/\cd.mro=.ref C::bm:=⟨_,by unfold clsIn;rw [hl],rfl⟩
  rw [e,Option.bind_some,em] at m
  exact Option.some.inj m
 have f:=tc_notTuple
 obtain⟨hp,g,dr,tk,os⟩:=s
 unfold excMatches
 repeat (first|with_reducible refine wpAny_loadPart_at ha ?_|with_reducible refine wpAny_loadPart_at hD ?_|(with_reducible refine wpAny_isSubtype_exc hD ?_;rw [hcB])|(with_reducible refine wpAny_isSubtype_exc hC ?_;rw [hcD])|wp_step)
 cases b <;> (wp_walk;exact h)
end
end L2
namespace L2
open PySem PySem.Spec PyProof.Rows
section
variable {X:Cx} {G:Sg} {elt tg iter:Expr} {ifs:List Expr} {sc:Scope} {wi:DI} {g:DG} {tc:DT} {de:DE} {pos:Pos}
theorem av0 {pins pins':List (Addr×Obj)} {σ:St} {H2 H':Hp} {s2:Shared} {N':List Str} {cl:List (Str×Addr)} {fp:List Addr} {C T:Addr} {xe:Value->Shared->Prop} (I2:Inv X pins σ H2 s2) (f2:∀ b∈fp,FpOk X pins H2 b)
  (F:FpOk (X.comp N' sc cl fp C s2 H2 xe) pins' H' T):FpOk X pins H' T:=by
 obtain⟨r1,r2,r3,r4,r5,r6⟩:=F
 rcases r4 with r4|r4
 ·exact⟨r1,(f2 T r4).2⟩
 ·exact I2.fpOk r4 r1
theorem Jn {Ex:St->EK} (m:Ca X Ex) (fr:FrH X) {pins:List (Addr×Obj)} {σ:St} {H2:Hp} {s2:Shared} {N':List Str} {cl:List (Str×Addr)} {fp:List Addr} {C D:Addr} {us:Option (Value->Sem Unit)} {Q2:Value->Shared->Prop} (I2:Inv X pins σ H2 s2) (f2:∀ b∈fp,FpOk X pins H2 b)
  (hC:s2.heap.objs.size<=C):Ca (X.comp N' sc cl fp C s2 H2 (Bg X sc cl us Q2 D C)) (fun _ a H'=>Ex σ a H'):=by
 intro pins' σ' H' s' a I' F' hE
 obtain⟨e0,o0,L,f1,f3,f4⟩:=fr
 refine Xp (X:=X.comp N' sc cl fp C s2 H2 (Bg X sc cl us Q2 D C)) (env:=compEnvC sc cl C X.env) I' f1 f3 f4 F' fun s3 z I3 F3=>?_
 obtain⟨mm,hn,_⟩:=id I3.loc
 refine⟨mm,hn,fun h' sb cenv hce=>?_⟩
 have I4:Inv X pins σ H' s3:=I2.call' (ch:=fp) I3.os I3.base I3.hok I3.bare fun b hb=>⟨(f2 b hb).2.2.2.1,(f2 b hb).2.1,(f2 b hb).2.2.2.2.1,(f2 b hb).2.2.2.2.2⟩
 have fo:=I2.fpOk hC I3.free
 obtain⟨g0,g1,g2,g3,g4,g5⟩:=id fo
 have I5:Inv X pins σ H' { s3 with heap:=h' }:=I4.turned (t':=s3.toks) (fun b o hb e=>(sb.2 b hb).trans e) g0 g1 g3 g4 g5
 obtain⟨C0,dx,vs,T,oT,ts,h1,h2,h3,q1,q2,q3,q4,q5,q6⟩:=F3
 have na:a≠C:=fun z=>by rcases h1 with h1|h1 <;> (rw [z,g0] at h1;cases h1)
 have nT:T≠C:=q6.2.1
 have F5:FlyT X pins H' a { s3 with heap:=h' } z:=⟨C0,dx,vs,T,oT,ts,h1,(sb.2 a na).trans h2,h3,q1,q2,(sb.2 T nT).trans q3,q4,q5,av0 I2 f2 q6⟩
 unfold PySem.passOn
 refine wpAny_bind (wpAny_field (s:={ s3 with heap:=h' }) ((sb.2 a na).trans h2) rfl q1 ?_)
 rw [if_neg (by simp)]
 refine wpAny_bind (Tn I5 F5 fun s6 I6 F6=>?_)
 exact wpAny_throw (m pins σ H' s6 a I6 F6.at hE)
def QIfs (X:Cx) (ifs:List Expr) (t:DT):Prop:=∀ Ex,Ca X Ex->PIfs X ifs (fun σ H Q=>t σ H Q (Ex σ))
theorem Pa:QIfs X [] dYes:=fun _ _=>Xx
theorem Pb {c:Expr} {t:DT} (h:QT X c t):QIfs X [c] t:=fun Ex m=>Xy (h Ex m)
theorem Sy (O:GOk X G) (hc:X.calm=true) (hk:Es G sc=true) (hs:Jo iter=true) (hi:QI X tg iter wi) (hg:∀ X',GOk X' (Cl G sc.names)->PG X' tg g) (ht:∀ X',GOk X' (Cl G sc.names)->QIfs X' ifs tc) (he:∀ X',GOk X' (Cl G sc.names)->QE X' elt de) :
  QE X (.ListComp elt [⟨tg,iter,ifs,0⟩] sc pos) (Bt (Fb G sc.names) wi g tc de):=by
 intro Ex m pins s σ H Q I h
 exact Wk hc (Mq O hk) (hi Ex m) (fun Q2 fp C D s2 H2 I2 f2 hC=>
  have M:=Jn (N':=(Cl G sc.names).N) (cl:=Ck X.env.cells sc.names []) (us:=none) (Q2:=Q2) (D:=D) m O.fr I2 f2 hC
  have K:=Rt O hk fp C s2 H2 (Bg X sc (Ck X.env.cells sc.names []) none Q2 D C)
  ⟨hg _ K,ht _ K _ M,he _ K _ M⟩) I h (fun x=>Jp hs X.env x)
end
def Rq (K:PySem.W.Frag) (op:BoolOp):List DE->DE
 | []=>dNo
 | [a]=>a
 | a::r=>match op with
  | .And=>N8 K a (Rq K op r)
  | .Or=>dOrV K a (Rq K op r)
def Rp (op:BoolOp):List DT->DT
 | []=>fun _ _ _ _=>False
 | [a]=>a
 | a::r=>match op with
  | .And=>dAnd a (Rp op r)
  | .Or=>dOr a (Rp op r)
def Cy:List DE->DA
 | []=>dNil
 | a::r=>Aa a (Cy r)
def tNo:DT:=fun _ _ _ _=>False
def wCmp (G:Sg) (ops:List CmpOp) (bs:List Expr) (a:DE) (ds:List DE):DE:=match ops,bs,ds with
 | [op],[b],[d]=>if behindInMarks op b=false then dBin (rCmp G.K op) a d else dNo
 | [op,op'],[b,c],[d,d']=>if lastMarks [op,op'] [b,c]=false then Eb (rCmp G.K op) (rCmp G.K op') a d d' else dNo
 | _,_,_=>dNo
def Zk (G:Sg) (x:Str) (es:List Expr) (ds:List DE):DE:=
 if isGl G x=true/\(Cd G.N x 0)=none/\es.all noStar=true then (match G.gb.lookup x with
  | some (.fn i)=>if es.length<=i.ps.length/\i.ps.length<=es.length+i.dfs.length then dFn (spE i.sp (i.dfs.drop (es.length+i.dfs.length - i.ps.length))) (Cy ds) else dNo
  | some (.exc C oi)=>(match oi with
   | none=>if es.isEmpty=true then dFn (mkX C none 0) (Cy ds) else dFn (fun vs H Q E=>vs.length<=1000/\mkX C none 0 vs H Q E) (Cy ds)
   | some i=>if es.length+1<=i.ps.length/\i.ps.length<=es.length+1+i.dfs.length then (if es.isEmpty=true then dFn (mkX C (some i) (es.length+1+i.dfs.length - i.ps.length)) (Cy ds)
    else dFn (fun vs H Q E=>vs.length<=1000/\mkX C (some i) (es.length+1+i.dfs.length - i.ps.length) vs H Q E) (Cy ds)) else dNo)
  | some (.cls C oi)=>(match oi with
   | none=>if es.isEmpty=true then dFn (mkC C none 0) (Cy ds) else dNo
   | some i=>if es.length+1<=i.ps.length/\i.ps.length<=es.length+1+i.dfs.length then dFn (mkC C (some i) (es.length+1+i.dfs.length - i.ps.length)) (Cy ds) else dNo)
  | some _=>dNo
  | none=>if G.bl.contains x=true then (match bltR G.K G.calm x with
   | some (_,r)=>if es.isEmpty=true then dNo else dFn (fun vs H Q _=>r vs H Q) (Cy ds)
   | none=>dNo) else dNo) else dNo
def Zm (G:Sg) (o:Expr) (m:Str) (es:List Expr) (ap cp:Pos) (d:DE) (ds:List DE):DE:=
 if Dk o=true/\es.all noStar=true/\es.length<30/\(ap.endLine==cp.line)=true then (match Bp G.gb m with
  | none=>dMt (rMt G.K (mtR G.K m)) d (Cy ds)
  | some l=>dOwn m es.length l d (Cy ds)) else dNo
inductive Fz where
 | lenSet (a:Expr)
def fzD (K:PySem.W.Frag) (w:Expr->DE):Fz->DE
 | .lenSet a=>dUn (Il K) (w a)
def isBl (G:Sg) (x:Str):Bool:=isGl G x&&(G.gb.lookup x).isNone&&G.bl.contains x
def Qk (G:Sg) (x:Str) (es:List Expr):Option Fz:=match es with
 | [.Call (.Name y _) [a] [] _]=>if x = "len" /\ y = "set" /\ isBl G x=true/\isBl G y=true/\noStar a=true/\G.calm=true then some (.lenSet a) else none
 | _=>none
mutual
def wE:Nat->Sg->Expr->DE
 | 0,_,_=>dNo
 | n+1,G,e=>match e with
  | .Constant c _ _=>Zl c
  | .Name x _=>Zn G x
  | .BinOp a op b _=>dBin (rOp G.K op) (wE n G a) (wE n G b)
  | .UnaryOp .USub a _=>dUn Tg (wE n G a)
  | .UnaryOp .Not a _=>Ev G.K (wE n G a)
  | .UnaryOp .Invert a _=>dUn Te (wE n G a)
  | .BoolOp op es _=>Rq G.K op (es.map (wE n G))
  | .Compare a ops bs _=>wCmp G ops bs (wE n G a) (bs.map (wE n G))
  | .IfExp t a b _=>dIfE (wT n G t) (wE n G a) (wE n G b)
  | .List es _=>if es.all noStar=true then dLst (Cy (es.map (wE n G))) else dNo
  | .Tuple es _ _=>if es.all noStar=true then dTup (Cy (es.map (wE n G))) else dNo
  | .Subscript a (.Slice lo hi none _) _=>dSl G.K (wE n G a) (match lo with|none=>Bh|some l=>Bv (wE n G l)) (match hi with|none=>Bh|some h=>Bv (wE n G h))
  | .Subscript a b _=>if Ge b=true then dBin (rIxD G.K) (wE n G a) (wE n G b) else dNo
  | .Attribute o f _=>if Dk o=true then dUn (De G.K f) (wE n G o) else dNo
  | .Call (.Name x _) es [] _=>match Qk G x es with
   | some z=>fzD G.K (wE n G) z
   | none=>Zk G x es (es.map (wE n G))
  | .Dict ks vs _=>if ks.isEmpty=true/\vs.isEmpty=true then Et else if (ks.all (·.isSome))=true/\ks.length=vs.length/\ks.length<=15/\ks.isEmpty=false then Cf (((ks.filterMap id).zip vs).map fun p=>(wE n G p.1,wE n G p.2)) else dNo
  | .Call (.Attribute o m ap) es [] cp=>Zm G o m es ap cp (wE n G o) (es.map (wE n G))
  | .ListComp elt [⟨tg,iter,ifs,0⟩] sc _=>if G.calm=true/\Es G sc=true/\Jo iter=true then
    Bt (Fb G sc.names) (wI n G tg iter) (wG n (Cl G sc.names) tg) (match ifs with | []=>dYes | [c]=>wT n (Cl G sc.names) c|_=>tNo) (wE n (Cl G sc.names) elt) else dNo
  | _=>dNo
def wT:Nat->Sg->Expr->DT
 | 0,_,_=>tNo
 | n+1,G,e=>match e with
  | .UnaryOp .Not a _=>dNot (wT n G a)
  | .BoolOp op es _=>Rp op (es.map (wT n G))
  | .Compare a ops bs _=>dTst (wCmp G ops bs (wE n G a) (bs.map (wE n G)))
  | .IfExp _ _ _ _=>tNo
  | e=>dTru G.K (wE n G e)
def wI:Nat->Sg->Expr->Expr->DI
 | 0,_,_,_=>iNo
 | n+1,G,tg,e=>match e with
  | .Call (.Name x _) (a::es) [] _=>
   if x = "range" /\ isGl G x=true/\G.gb.lookup x=none/\G.bl.contains x=true/\(a::es).all noStar=true then iRng (Cy ((a::es).map (wE n G)))
   else if x = "enumerate" /\ isGl G x=true/\G.gb.lookup x=none/\G.bl.contains x=true/\(a::es).all noStar=true then (match tg with
    | .Tuple _ _ _=>iEn G.K (Cy ((a::es).map (wE n G)))
    | _=>iNo)
   else iVal G.K (wE n G e)
  | e=>iVal G.K (wE n G e)
end
theorem ag5 {X:Cx} {e:Expr}:QT X e tNo:=fun _ _ _ _ _ _ _ _ h=>h.elim
theorem B6 {X:Cx} {w:Expr->DE} (h:∀ e,QE X e (w e)):∀ {es:List Expr},es.all noStar=true->QA X es (Cy (es.map w))
 | [],_=>X6
 | e::es,hs=>by
  rw [List.all_cons,Bool.and_eq_true] at hs
  exact Sx (h e) (B6 h hs.2) hs.1
theorem M7 {X:Cx} {w:Expr->DE} {op:BoolOp} {pos:Pos} (h:∀ e,QE X e (w e)):∀ {es:List Expr},QE X (.BoolOp op es pos) (Rq X.K op (es.map w))
 | []=>Bk
 | [e]=>ao4 (h e)
 | e::e'::es=>by
  cases op with
  | And=>exact an4 (h e) (M7 h)
  | Or=>exact a00 (h e) (M7 h)
theorem M8 {X:Cx} {w:Expr->DT} {op:BoolOp} {pos:Pos} (h:∀ e,QT X e (w e)):∀ {es:List Expr},QW X (.BoolOp op es pos) (Rp op (es.map w))
 | []=>fun _ _ _ _ _ _ _ _ _ h=>h.elim
 | [e]=>by
  cases op with
  | And=>exact ad6 (h e)
  | Or=>exact aq1 (h e)
 | e::e'::es=>by
  cases op with
  | And=>exact aq0 (h e) (M8 h)
  | Or=>exact a02 (h e) (M8 h)
section
variable {X:Cx} {G:Sg}
theorem ac4 (O:GOk X G) {w:Expr->DE} (h:∀ e,QE X e (w e)) (a:Expr) (ops:List CmpOp) (bs:List Expr) (pos:Pos):QE X (.Compare a ops bs pos) (wCmp G ops bs (w a) (bs.map w)):=by
 unfold wCmp
 rw [<- O.K]
 split
 ·rename_i op b d e
  have:d=w b:=by simpa using e.symm
  subst this
  split
  ·exact an7 O.units op (h a) (h b) ‹_›
  ·exact Bk
 ·rename_i op op' b c d d' e
  have:w b=d/\w c=d':=by simpa using e
  obtain⟨rfl,rfl⟩:=this
  split
  ·exact X9 O.units op op' (h a) (h b) (h c) ‹_›
  ·exact Bk
 ·exact Bk
theorem ad5 (O:GOk X G) {w:Expr->DE} (h:∀ e,QE X e (w e)) (a:Expr) (ops:List CmpOp) (bs:List Expr) (pos:Pos):QT X (.Compare a ops bs pos) (dTst (wCmp G ops bs (w a) (bs.map w))):=by
 unfold wCmp
 rw [<- O.K]
 split
 ·rename_i op b d e
  have:d=w b:=by simpa using e.symm
  subst this
  split
  ·exact ap7 O.units op (h a) (h b) ‹_›
  ·exact fun _ _ _ _ _ _ _ _ h=>h.elim
 ·rename_i op op' b c d d' e
  have:w b=d/\w c=d':=by simpa using e
  obtain⟨rfl,rfl⟩:=this
  split
  ·exact Yg O.units op op' (h a) (h b) (h c) ‹_›
  ·exact fun _ _ _ _ _ _ _ _ h=>h.elim
 ·exact fun _ _ _ _ _ _ _ _ h=>h.elim
theorem X8 (O:GOk X G) {w:Expr->DE} (h:∀ e,QE X e (w e)) (x:Str) (es:List Expr) (p pos:Pos):QE X (.Call (.Name x p) es [] pos) (Zk G x es (es.map w)):=by
 unfold Zk
 split
 ·rename_i hh
  obtain⟨hg,_,hs⟩:=hh
  have dd:=Jf hg
  split
  ·rename_i i e
   obtain⟨hm,F⟩:=O.fn x i e
   split
   ·rename_i hl
    cases es with
    | nil=>exact X7 F (by have:=hl.1;omega) (O.gl hg) hm dd.1
    | cons e es=>exact ac3 F (by have:=hl.1;omega) (O.gl hg) hm (B6 h hs) hs dd.1
   ·exact Bk
  ·rename_i C oi e
   obtain⟨hm,kp,c,hi⟩:=O.exc x C oi e
   split
   ·cases es with
    | nil=>exact Ta (j:=0) c hi (fun i z=>nomatch z) kp (O.gl hg) hm dd.1
    | cons e es=>exact Q3 (j:=0) c hi (fun i z=>nomatch z) kp (O.gl hg) hm (B6 h hs) hs dd.1
   ·rename_i i
    split
    ·rename_i hl
     cases es with
     | nil=>exact Ta (j:=([]:List Expr).length+1+i.dfs.length - i.ps.length) c hi (fun i z=>by cases z;have:=hl.1;omega) kp (O.gl hg) hm dd.1
     | cons e es=>exact Q3 (j:=(e::es).length+1+i.dfs.length - i.ps.length) c hi (fun i z=>by cases z;have:=hl.1;omega) kp (O.gl hg) hm (B6 h hs) hs dd.1
    ·exact Bk
  ·rename_i C oi e
   obtain⟨hm,kp,hi⟩:=O.cls x C oi e
   split
   ·cases es with
    | nil=>exact Sz (j:=0) hi (fun i z=>nomatch z) kp (O.gl hg) hm dd.1
    | cons e es=>exact Bk
   ·rename_i i
    split
    ·rename_i hl
     cases es with
     | nil=>exact Sz hi (fun i z=>by cases z;have:=hl.1;omega) kp (O.gl hg) hm dd.1
     | cons e es=>exact ao0 hi (fun i z=>by cases z;have:=hl.1;omega) kp (O.gl hg) hm (B6 h hs) hs dd.1
    ·exact Bk
  ·exact Bk
  ·rename_i e
   split
   ·rename_i hb
    split
    ·rename_i f r er
     split
     ·exact Bk
     ·rename_i hne
      cases es with
      | nil=>exact absurd rfl hne
      | cons e es=>
       rw [<- O.K] at er
       obtain⟨b1,b2⟩:=Zv er O.calm
       exact an6 b2 (O.gl hg) (O.bl x hb) b1 (B6 h hs) hs dd.2.2 dd.1
    ·exact Bk
   ·exact Bk
 ·exact Bk
theorem Ya (O:GOk X G) {w:Expr->DE} (h:∀ e,QE X e (w e)) (o:Expr) (m:Str) (es:List Expr) (ap cp:Pos):QE X (.Call (.Attribute o m ap) es [] cp) (Zm G o m es ap cp (w o) (es.map w)):=by
 unfold Zm
 rw [<- O.K]
 split
 ·rename_i hh
  obtain⟨h1,h2,h3,h4⟩:=hh
  split
  ·cases es with
   | nil=>exact ao1 (fun b hb=>Xl O.units hb) (h o) h1 h4
   | cons e es=>exact az9 (fun b hb=>Xl O.units hb) (h o) (B6 h h2) h1 h2 h3 h4
  ·rename_i l e
   cases es with
   | nil=>exact ac9 (O.met m l e) (h o) h1 h4
   | cons e es=>exact ao5 (O.met m l ‹_›) (h o) (B6 h h2) h1 h2 h3 h4
 ·exact Bk
end
theorem Ih {X:Cx} {G:Sg} (O:GOk X G) {x:Str} (h:isBl G x=true):Gl X x/\X.mg x=none:=by
 unfold isBl at h
 rw [Bool.and_eq_true,Bool.and_eq_true] at h
 exact⟨O.gl h.1.1,O.bl _ h.2⟩
theorem ac7 {X:Cx} {G:Sg} (O:GOk X G) {w:Expr->DE} (h:∀ e,QE X e (w e)) {x:Str} {es:List Expr} {p pos:Pos} {z:Fz} (e:Qk G x es=some z) :
  QE X (.Call (.Name x p) es [] pos) (fzD G.K w z):=by
 unfold Qk at e
 split at e
 ·split at e
  ·rename_i hh
   obtain⟨rfl,rfl,h1,h2,h3,h4⟩:=hh
   cases e
   rw [<- O.K]
   exact Vj (O.calm▸h4) (Ih O h1).1 (Ih O h1).2 (Ih O h2).1 (Ih O h2).2 (h _) h3
  ·cases e
 ·cases e
theorem Nz {α:Type}:∀ {ks:List (Option α)},ks.all (·.isSome)=true->(ks.filterMap id).map some=ks
 | [],_=>rfl
 | none::_,h=>by simp at h
 | some k::ks,h=>by
  rw [List.all_cons,Bool.and_eq_true] at h
  show some k::(ks.filterMap id).map some=_
  rw [Nz h.2]
theorem w_ok:∀ (n:Nat) (X:Cx) (G:Sg),GOk X G->(∀ e,QE X e (wE n G e))/\(∀ e,QT X e (wT n G e))/\(∀ tg e,QI X tg e (wI n G tg e)):=by
 intro n
 induction n with
 | zero=>
  intro X G O
  refine⟨fun e=>?_,fun e=>?_,fun tg e=>?_⟩
  ·unfold wE;exact Bk
  ·unfold wT;exact ag5
  ·unfold wI;exact ag4
 | succ n ih=>
  intro X G O
  obtain⟨hE,hT,hI⟩:=ih X G O
  have hv:∀ tg e,QI X tg e (iVal G.K (wE n G e)):=fun tg e=>by rw [<- O.K];exact ao8 (hE e)
  refine⟨fun e=>?_,fun e=>?_,fun tg e=>?_⟩
  ·unfold wE
   split
   ·exact O7 _ _ _
   ·exact ac8 O _ _
   ·rw [<- O.K];exact an5 _ (hE _) (hE _)
   ·exact ao2 (hE _)
   ·rw [<- O.K];exact ao3 (hE _)
   ·exact an8 (hE _)
   ·rw [<- O.K];exact M7 hE
   ·exact ac4 O hE _ _ _ _
   ·exact az7 (hT _) (hE _) (hE _)
   ·split
    ·exact an9 (B6 hE ‹_›)
    ·exact Bk
   ·split
    ·exact ao6 (B6 hE ‹_›)
    ·exact Bk
   ·rw [<- O.K]
    refine Yb (hE _) ?_ ?_
    ·split
     ·exact Tc
     ·exact Td (hE _)
    ·split
     ·exact Tc
     ·exact Td (hE _)
   ·split
    ·rw [<- O.K];exact az8 O.units (hE _) (hE _) ‹_›
    ·exact Bk
   ·split
    ·rw [<- O.K];exact ac2 (hE _) (Ei ‹_› _ X.env _)
    ·exact Bk
   ·split
    ·exact ac7 O hE ‹_›
    ·exact X8 O hE _ _ _ _
   ·rename_i ks vs p0
    split
    ·rename_i hh
     have e1:ks=[]:=by simpa using hh.1
     have e2:vs=[]:=by simpa using hh.2
     subst e1 e2
     exact ac6
    ·split
     ·rename_i hh
      obtain⟨h1,h2,h3,h4⟩:=hh
      have e:=Nz h1
      have hl:(ks.filterMap id).length=ks.length:=by rw [<- List.length_map (f:=some),e]
      have q:=ac5 (X:=X) (pos:=p0) hE (ks:=ks.filterMap id) (vs:=vs) (by rw [hl];exact h2) (fun z=>by rw [z] at e;rw [<- e] at h4;simp at h4) (by rw [hl];exact h3)
      rw [e] at q
      exact q
     ·exact Bk
   ·exact Ya O hE _ _ _ _ _
   ·split
    ·rename_i hh
     obtain⟨h1,h2,h3⟩:=hh
     refine Sy O (O.calm▸h1) h2 h3 (hI _ _) (fun X' O'=>Px n X' _ O' _) (fun X' O'=>?_) (fun X' O'=>(ih X' _ O').1 _)
     split
     ·exact Pa
     ·exact Pb ((ih X' _ O').2.1 _)
     ·exact fun _ _ _ _ _ _ _ _ h=>h.elim
    ·exact Bk
   ·exact Bk
  ·unfold wT
   split
   ·exact ap8 (hT _)
   ·exact fun Ex m=>PW.pt (M8 hT Ex m)
   ·exact ad5 O hE _ _ _ _
   ·exact ag5
   ·rename_i h1 h2 h3 h4
    rw [<- O.K]
    refine ap9 (hE _) ?_
    cases e with
    | UnaryOp op a p=>cases op <;> first|rfl|exact absurd rfl (h1 _ _)
    | BoolOp op es p=>exact absurd rfl (h2 _ _ _)
    | Compare a b c p=>exact absurd rfl (h3 _ _ _ _)
    | IfExp a b c p=>exact absurd rfl (h4 _ _ _ _)
    | _=>rfl
  ·unfold wI
   split
   ·split
    ·rename_i hh
     obtain⟨rfl,h1,_,h2,h3⟩:=hh
     exact Yc (O.gl h1) (O.bl _ h2) (B6 hE h3) h3
    ·split
     ·rename_i hh
      obtain⟨rfl,h1,_,h2,h3⟩:=hh
      split
      ·rw [<- O.K];exact ad0 (O.gl h1) (O.bl _ h2) (B6 hE h3) h3
      ·exact ag4
     ·exact hv _ _
   ·exact hv _ _
def Cx.tr (X:Cx) (pn:List (Addr×Obj)) (xe:Value->Shared->Prop):Cx:={ X with pn:=pn,xe:=xe }
def Cx.hd (X:Cx) (a:Addr):Cx:={ X with A:=X.A.mark (some (.ref a)),calm:=false,xe:=fun _ _=>False }
section
variable {X:Cx} {pins pins':List (Addr×Obj)} {σ:St} {H:Hp} {s:Shared} {a C:Addr} {dx:Option Addr} {xe:Value->Shared->Prop}
theorem av8 {pn:List (Addr×Obj)} (o:X.Ok):(X.tr pn xe).Ok:=⟨o.mod,o.kind,o.glob,o.blt,o.above,o.inj,o.has,o.cab,o.hd,o.frames,o.stk,o.exf,o.bs,o.bsz,o.noex,o.exfs,o.funs,o.frf⟩
theorem aa5 {pn:List (Addr×Obj)} (o:(X.tr pn xe).Ok):X.Ok:=⟨o.mod,o.kind,o.glob,o.blt,o.above,o.inj,o.has,o.cab,o.hd,o.frames,o.stk,o.exf,o.bs,o.bsz,o.noex,o.exfs,o.funs,o.frf⟩
theorem ai8 (I:Inv X pins σ H s):Inv (X.tr (X.pn++pins) xe) [] σ H s:=
 ⟨av8 I.ok,I.os,I.bare,I.base,I.loc,I.cell,I.free,I.freeC,fun p hp=>I.pin p (by rw [List.append_nil] at hp;exact hp),I.hok,I.len⟩
theorem Ez (I:Inv (X.tr (X.pn++pins) xe) pins' σ H s):Inv X pins σ H s:=
 ⟨aa5 I.ok,I.os,I.bare,I.base,I.loc,I.cell,I.free,I.freeC,fun p hp=>I.pin p (List.mem_append_left _ hp),I.hok,I.len⟩
theorem Wx (F:Fi (X.tr (X.pn++pins) xe) pins' H a s):Fi X pins H a s:=by
 obtain⟨C,dx,vs,h1,h2,h3,h4⟩:=F
 refine⟨C,dx,vs,h1,h2,h3,h4.imp id fun⟨T,oT,ts,q1,q2,q3,q4,q5,q6⟩=>⟨T,oT,ts,q1,q2,q3,q4,q5,?_⟩⟩
 obtain⟨r1,r2,r3,r4,r5,r6⟩:=q6
 exact⟨r1,r2,r3,r4,r5,fun p hp=>r6 p (List.mem_append_left _ hp)⟩
theorem ae0 {D:Ends} {f:Flow} (h:SP (X.tr (X.pn++pins) xe) pins' D f s):SP X pins D f s:=by
 cases f with
 | next=>obtain⟨σ',H',I,q⟩:=h;exact⟨σ',H',Ez I,q⟩
 | brk=>obtain⟨σ',H',I,q⟩:=h;exact⟨σ',H',Ez I,q⟩
 | cont=>obtain⟨σ',H',I,q⟩:=h;exact⟨σ',H',Ez I,q⟩
 | ret u=>obtain⟨v,σ',H',I,r,q⟩:=h;exact⟨v,σ',H',Ez I,r,q⟩
theorem G3 (I:Inv X pins σ H s):Inv (X.hd a) pins σ H s:=
 ⟨⟨I.ok.mod,I.ok.kind,I.ok.glob,I.ok.blt,I.ok.above,I.ok.inj,I.ok.has,I.ok.cab,(fun z=>by cases z),I.ok.frames,I.ok.stk,I.ok.exf,I.ok.bs,I.ok.bsz,I.ok.noex,I.ok.exfs,I.ok.funs,I.ok.frf⟩,I.os,I.bare,I.base,I.loc,I.cell,I.free,I.freeC,I.pin,I.hok,I.len⟩
theorem Dw (o:X.Ok) (I:Inv (X.hd a) pins σ H s):Inv X pins σ H s:=⟨o,I.os,I.bare,I.base,I.loc,I.cell,I.free,I.freeC,I.pin,I.hok,I.len⟩
theorem Tp {D:Ends} {f:Flow} (o:X.Ok) (h:SP (X.hd a) pins D f s):SP X pins D f s:=by
 cases f with
 | next=>obtain⟨σ',H',I,q⟩:=h;exact⟨σ',H',Dw o I,q⟩
 | brk=>obtain⟨σ',H',I,q⟩:=h;exact⟨σ',H',Dw o I,q⟩
 | cont=>obtain⟨σ',H',I,q⟩:=h;exact⟨σ',H',Dw o I,q⟩
 | ret u=>obtain⟨v,σ',H',I,r,q⟩:=h;exact⟨v,σ',H',Dw o I,r,q⟩
end
inductive HK where
 | no
 | as (i:Nat)
 | up (T:Addr)
def asD (a:Addr) (u:DS):HK->DS
 | .no=>fun D σ H=>u { D with ex:=fun _ _ _=>False } σ H
 | .up T=>fun D σ H=>(∃ C dx,H a=some (flO a C dx)) /\ ∀ b,H b=none->D.ex σ b (upd H b (fcO b T none))
 | .as i=>fun D σ H=>u ⟨fun σ' H'=>D.nx (σ'.set i none) H',D.rt,fun σ' H'=>D.bk (σ'.set i none) H',fun σ' H'=>D.ct (σ'.set i none) H',fun _ _ _=>False⟩ (σ.set i (some (.ref a))) H
def Gs (K:PySem.W.Frag) (C a:Addr):List (Addr×HK×DS)->Outs->St->Hp->Prop
 | [],_,_,_=>False
 | (T,oi,u)::r,D,σ,H=>∃ b,PySem.W.mroIn K C (.ref T)=some b/\(if b=true then asD a u oi D σ H else Gs K C a r D σ H)
def dTry (K:PySem.W.Frag) (tb:DS) (us:List (Addr×HK×DS)):DS:=fun D σ H=>tb { D with ex:=fun σ' a H'=>∃ C dx,FlO H' a C dx/\ECls K C/\Gs K C a us D σ' H' } σ H
inductive AsOk (X:Cx):Option Str->HK->Prop where
 | no:AsOk X none .no
 | as {n:Str} {i:Nat} (hN:X.N.Nodup) (hi:X.N[i]? = some n) (hl:X.env.scope.names.lookup n=some .local):AsOk X (some n) (.as i)
inductive HsOk (X:Cx):List ExceptHandler->List (Addr×HK×DS)->Prop where
 | nil:HsOk X [] []
 | cons {x:Str} {p pos:Pos} {nm:Option Str} {oi:HK} {b:Stmt} {suite:List Stmt} {rest:List ExceptHandler} {T:Addr} {u:DS} {us:List (Addr×HK×DS)} (hg:Gl X x) (hm:X.mg x=some (.ref T)) (hd:(x==("__debug__" : Str))=false) (ec:ECls X.K T) (ha:AsOk X nm oi) (hs:∀ a,QSs (X.hd a) (b::suite) u) (r:HsOk X rest us) :
   HsOk X (.ExceptHandler (some (.Name x p)) nm (b::suite) pos::rest) ((T,oi,u)::us)
 | up {x y z:Str} {p p1 p2 p3 p4 p5 pos:Pos} {k k2:Nat} {rest:List ExceptHandler} {T T':Addr} {u:DS} {us:List (Addr×HK×DS)} (hg:Gl X x) (hm:X.mg x=some (.ref T)) (hd:(x==("__debug__" : Str))=false) (ec:ECls X.K T)
   (hgy:Gl X y) (hmy:X.mg y=some (.ref T')) (hdy:(y==("__debug__" : Str))=false) (ecy:ECls X.K T') (kpy:PySem.W.keepIn X.K (.ref T')=true) (iny:Gr X T' none) (r:HsOk X rest us) :
   HsOk X (.ExceptHandler (some (.Name x p)) none [.Raise (some (.Call (.Name y p1) [.Constant (.str z) k p2] [] p3)) (some (.Constant .none k2 p4)) p5] pos::rest) ((T,.up T',u)::us)
theorem Kq:entryFor table "proto.unchain" = some Builtin.«proto.unchain»:=entryFor_of_fast (by kernel_rfl)
theorem Pe {prog:Program} {w:World} {A:Around} {E:Value->Shared->Prop} {s:Shared} {Q:Flow->Shared->Prop} {e a:Addr} {oa oe:Obj} {va ve:Array Value} (hh:A.handled=some (.ref a)) (ne:a≠e) (ha:s.heap.get? a=some oa) (hda:oa.data=.fields va) (h2:va[2]? = some .none)
  (he:s.heap.get? e=some oe) (hde:oe.data=.fields ve) (hz:2<ve.size) (h:E (.ref e) { s with heap:=s.heap.update e (Obj.mapFields (·.setIfInBounds 2 (.ref a))) }):wpAny (model prog w) A (raiseNew (.ref e):Sem Flow) Q E s:=by
 unfold raiseNew
 refine wpAny_bind (wpAny_handled ?_)
 rw [hh]
 have hne:(Value.ref a != Value.ref e)=true:=by simpa using ne
 simp only [hne,if_true]
 refine wpAny_bind (wpAny_holding (wpAny_runValue (codeAny_builtin Kq ?_)))
 unfold Builtin.«proto.unchain»
 refine wpAny_bind (wpAny_field ha hda h2 ?_)
 rw [if_pos (by rfl)]
 refine wpAny_pure ?_
 show wpAny (model prog w) A (setField (.ref e) 2 (.ref a) >>= fun _=>throw (.ref e)) Q E s
 refine wpAny_bind (wpAny_setField he hde hz ?_)
 exact wpAny_throw h
section
variable {X:Cx} {pins:List (Addr×Obj)}
theorem Yl {σ:St} {H:Hp} {s1:Shared} {a C1 T':Addr} {dx1:Option Addr} {y z:Str} {p1 p2 p3 p4 p5:Pos} {k k2:Nat} {Qf:Flow->Shared->Prop} {Ee:Value->Shared->Prop} (I1:Inv X pins σ H s1) (ea:H a=some (flO a C1 dx1))
  (hgy:Gl X y) (hmy:X.mg y=some (.ref T')) (hdy:(y==("__debug__" : Str))=false) (ecy:ECls X.K T') (kpy:PySem.W.keepIn X.K (.ref T')=true) (iny:Gr X T' none)
  (hE:∀ b s',H b=none->Inv X pins σ (upd H b (fcO b T' none)) s'->Fi X pins (upd H b (fcO b T' none)) b s'->Ee (.ref b) s') :
  wpAny (model X.prog X.w) (X.A.mark (some (.ref a))) (exec (.Raise (some (.Call (.Name y p1) [.Constant (.str z) k p2] [] p3)) (some (.Constant .none k2 p4)) p5) X.env) Qf Ee s1:=by
 have he:QE (X.hd a) (.Call (.Name y p1) [.Constant (.str z) k p2] [] p3) _:=Q3 (X:=X.hd a) (oi:=none) (j:=0) (r:=Aa (dC (.str z)) dNil) ecy iny (fun i h=>by cases h) kpy hgy hmy (Sx (O7 (.str z) k p2) X6 rfl) rfl hdy
 rw [arm_exec_Raise]
 show wpAny _ _ (do standAt p5;raiseStmt X.env (some (do let v <- eval (.Call (.Name y p1) [.Constant (.str z) k p2] [] p3) X.env;standAt p5;pure v)) (some (do let v <- eval (.Constant .none k2 p4) X.env;standAt p5;pure v))) _ _ _
 refine wpAny_bind (wpAny_standAt ?_)
 unfold raiseStmt
 refine wpAny_bind (wpAny_bind (wpAny_mono (he _ E2 pins s1 σ H (fun x H1=>∃ b,x=.ref b/\H b=none/\H1=upd H b (excO b T' none)) (G3 I1) ⟨by simp,fun b hb=>⟨b,rfl,hb,rfl⟩⟩) (fun v s2 ⟨x,H1,I2,r1,b,e1,hb,e2⟩=>wpAny_bind (wpAny_standAt (wpAny_pure ?_))) fun _ _ z=>z.elim))
 subst e1 e2
 cases r1
 have I2:=Dw I1.ok I2
 obtain⟨vs,g1,g2,g3,g4⟩:=Qh I2 Ab
 obtain⟨nm,qn,N,bs,bm,hdct,sn,sub,ab,col,dd,k0,k1,k2',k3,k5,hl,ht,hd⟩:=ecy.obj
 have hC:=I2.kIn _ _ hl
 have hb0:bm.contains (.type "BaseException")=true:=Bm ht (by decide +kernel)
 have hcB:(Value.ref T'::bm).contains (.type "BaseException")=true:=by rw [List.contains_cons,hb0,Bool.or_true]
 have nab:a≠b:=fun z=>by rw [z,hb] at ea;cases ea
 obtain⟨va,ga1,ga2,ga3⟩:=Ww I2 (a:=a) (C:=C1) (dx:=dx1) (by rw [Af nab];exact ea)
 obtain⟨hp,g,d,tk,os⟩:=s2
 repeat (first|with_reducible refine wpAny_field g1 rfl g3 ?_|with_reducible refine wpAny_loadPart_at g1 ?_|with_reducible refine wpAny_loadPart_at hC ?_|(with_reducible refine wpAny_isSubtype_exc hC ?_;rw [hcB])|wp_step)
 have nTb:T'≠b:=fun z=>by
  rw [z] at hC
  rw [hC] at g1
  have:=congrArg (fun o=>o.map Obj.data) g1
  simp [excClassObj] at this
 have q3:(hp.update b (Obj.mapFields fun x=>x.setIfInBounds 3 Value.none)).get? b=some (Aq T' none (vs.setIfInBounds 3 .none)):=Heap.get?_update_self _ g1 (Obj.isFreed_of_fields (vs:=vs.setIfInBounds 3 .none) rfl)
 have q4:((hp.update b (Obj.mapFields fun x=>x.setIfInBounds 3 Value.none)).update b (Obj.mapFields fun x=>x.setIfInBounds 4 (Value.bool true))).get? b=some (Aq T' none ((vs.setIfInBounds 3 .none).setIfInBounds 4 (.bool true))):=Heap.get?_update_self _ q3 (Obj.isFreed_of_fields (vs:=(vs.setIfInBounds 3 .none).setIfInBounds 4 (.bool true)) rfl)
 have keep:∀ c u,c≠b->hp.get? c=some u->((hp.update b (Obj.mapFields fun x=>x.setIfInBounds 3 Value.none)).update b (Obj.mapFields fun x=>x.setIfInBounds 4 (Value.bool true))).get? c=some u:=fun c u ne e=>(Heap.get?_update_other _ _ ne.symm).trans ((Heap.get?_update_other _ _ ne.symm).trans e)
 have hC2:=keep _ _ nTb hC
 have ga':=keep _ _ nab ga1
 have w1:((vs.setIfInBounds 3 .none).setIfInBounds 4 (.bool true))[1]? = some Value.none:=by rw [Array.getElem?_setIfInBounds_ne (by decide),Array.getElem?_setIfInBounds_ne (by decide)];exact g3
 have wz:((vs.setIfInBounds 3 .none).setIfInBounds 4 (.bool true)).size=6:=by rw [Array.size_setIfInBounds,Array.size_setIfInBounds];exact g2
 generalize ((vs.setIfInBounds 3 .none).setIfInBounds 4 (.bool true))=v2 at q4 w1 wz
 generalize (hp.update b (Obj.mapFields fun x=>x.setIfInBounds 3 Value.none)).update b (Obj.mapFields fun x=>x.setIfInBounds 4 (Value.bool true))=hp2 at q4 keep hC2 ga' ⊢
 repeat (first|with_reducible refine wpAny_field q4 rfl w1 ?_|with_reducible refine wpAny_loadPart_at q4 ?_|with_reducible refine wpAny_loadPart_at hC2 ?_|wp_step)
 have q5:(hp2.update b (Obj.mapFields fun x=>x.setIfInBounds 2 (.ref a))).get? b=some (Aq T' none (v2.setIfInBounds 2 (.ref a))):=Heap.get?_update_self _ q4 (Obj.isFreed_of_fields (vs:=v2.setIfInBounds 2 (.ref a)) rfl)
 have wz5:(v2.setIfInBounds 2 (.ref a)).size=6:=by rw [Array.size_setIfInBounds];exact wz
 have w5:(v2.setIfInBounds 2 (.ref a))[1]? = some Value.none:=by rw [Array.getElem?_setIfInBounds_ne (by decide)];exact w1
 refine Pe rfl nab ga' rfl ga3 q4 rfl (by rw [wz];decide) ?_
 have I3:Inv X pins σ (upd H b (fcO b T' none)) { heap:=hp2.update b (Obj.mapFields fun x=>x.setIfInBounds 2 (.ref a)),gens:=g,drawn:=d,toks:=tk,os:=os }:=by
  have:=I2.write (x:=b) (e:=b) (h':=hp2.update b (Obj.mapFields fun x=>x.setIfInBounds 2 (.ref a))) (t':=tk) (o:=fcO b T' none) (by rw [Ab];exact True.intro) (.inl rfl) (fun c u ne z=>(Heap.get?_update_other _ _ ne.symm).trans (keep c u ne z)) ⟨_,q5⟩ (Wu q5 wz5)
  rw [ae7] at this
  exact this
 exact hE b _ hb I3 ⟨T',none,_,.inr Ab,q5,wz5,.inl w5⟩
theorem Fe {M:Model} {A:Around} {E:Value->Shared->Prop} {σ:St} {H:Hp} {s:Shared} {i:Nat} {x:Str} {pos:Pos} {Q:Unit->Shared->Prop} (I:Inv X pins σ H s) (hN:X.N.Nodup) (hi:X.N[i]? = some x) (hk:X.env.scope.names.lookup x=some .local)
  (h:∀ s',Inv X pins (σ.set i none) H s'->Q () s'):wpAny M A (do bindName X.env x .none;unbindBehindTheSuite X.env x pos) Q E s:=by
 obtain⟨m,hn,hl⟩:=id I.loc
 refine wpAny_nameGoes_keeps hk hn (by rw [I.ok.kind];rfl) fun h' v hn' sb=>h _ ?_
 have old:∀ {b o},X.s₀.heap.get? b=some o->h'.get? b=s.heap.get? b:=fun {b o} e=>sb.2 b (Nat.ne_of_lt (Nat.lt_of_lt_of_le (Heap.lt_size e) I.ok.above))
 exact {
  ok:=I.ok
  os:=I.os
  bare:=I.bare
  base:={ I.base with
   keep:=fun b o e n hb hx=>by show h'.get? b=_;rw [old e];exact I.base.keep b o e n hb hx
   slot:=fun b o e n hb hx=>by show ∃ sl,h'.get? b=_;rw [old e];exact I.base.slot b o e n hb hx
   there:=fun b o e hx=>by show ∃ o',h'.get? b=_;rw [old e];exact I.base.there b o e hx }
  loc:=⟨_,hn',fun j y w e1 e2 e3=>by
   have hj:j≠i:=fun z=>by
    have lt:i<σ.length:=by rw [I.len];exact (List.getElem?_eq_some_iff.mp hi).1
    rw [z,List.getElem?_set_self lt] at e2
    cases e2
   rw [List.getElem?_set_ne (Ne.symm hj)] at e2
   obtain⟨u,r,q⟩:=hl j y w e1 e2 e3
   have ny:y≠x:=fun z=>hj (Jq hN e1 (z▸hi))
   refine⟨u,r,q.imp (fun⟨k,e⟩=>⟨k,(if_neg ny).trans e⟩) fun⟨k,c,e,z⟩=>⟨k,c,e,z.sameBut sb (I.cne y c e)⟩⟩⟩
  cell:=fun y c e=>let ⟨w,z⟩:=I.cell y c e;⟨w,z.sameBut sb (I.cne y c e)⟩
  free:=I.free
  freeC:=I.freeC
  pin:=fun p hp=>let ⟨e,n,ne,nf,d⟩:=I.pin p hp;⟨(sb.2 p.1 ne).trans e,n,ne,nf,d⟩
  hok:=fun b ob e=>(I.hok b ob e).stay (fun c w hc q=>(sb.2 c (by
   rintro rfl
   have f:=I.free
   rcases hc with rfl|hc
   ·rw [f] at e;cases e
   ·rw [f] at hc;cases hc)).trans q) (fun _ q=>q) fun _ _ q=>q
  len:=by rw [List.length_set];exact I.len }
theorem Up (hst:X.stack=X.env::X.outer) (hfr:X.env.frame=some X.env.locals) {Ex:St->EK} (mt:Ca X Ex) {D:Ends} {hl:List ExceptHandler} {us:List (Addr×HK×DS)} (K:HsOk X hl us):∀ {σ:St} {H:Hp} {s:Shared} {a C:Addr} {dx:Option Addr},Inv X pins σ H s->Fi X pins H a s->FlO H a C dx->ECls X.K C->Gs X.K C a us (outs Ex D) σ H ->
  wpAny (model X.prog X.w) X.A (handleBy (.ref a) X.env hl) (SP X pins D) X.xe s:=by
 induction K with
 | nil=>intro σ H s a C dx I F e ec h;exact h.elim
 | @cons x p pos nm oi b suite rest T u us hg hm hd ecT ha hs r ih=>
  intro σ H s a C dx I F e ec h
  obtain⟨m,hm2,h⟩:=h
  have hx:∃ vs:Array Value,s.heap.get? a=some (Aq C dx vs):=by
   obtain⟨vs,z,_⟩:=Rw I (.inr e)
   exact⟨vs,z⟩
  obtain⟨vs,hx⟩:=hx
  refine wpAny_handleBy_cons (codeAny_handlers_test (C5 (X:=X.hd a) (G3 I) hg hm ?_ hd)) (by intro q;cases q)
  refine Jm (A:=(X.hd a).A) I.kIn ec ecT hx hm2 ?_
  cases m with
  | false=>exact ih I F e ec h
  | true=>
   cases ha with
   | no=>
    refine codeAny_handlers_suite (Gy (A:=(X.hd a).A) I F fun s1 I1 F1=>?_)
    exact wpAny_mono (hs a (fun _ _ _=>False) E2 pins s1 σ H D (G3 I1) h) (fun f s2 q=>Tp I.ok q) fun _ _ z=>z.elim
   | @as n i hN hi hlo=>
    refine codeAny_handlers_suite_as (Gy (A:=(X.hd a).A) I F fun s1 I1 F1=>?_)
    refine Gk (i:=i) (v:=.ref a) I1 hN hi (.inl hlo) rfl (fun s2 I2=>?_) (.inr hlo)
    refine wpAny_mono (hs a (fun _ _ _=>False) E2 pins s2 (σ.set i (some (.ref a))) H ⟨fun σ' H'=>D.nx (σ'.set i none) H',D.rt,fun σ' H'=>D.bk (σ'.set i none) H',fun σ' H'=>D.ct (σ'.set i none) H'⟩ (G3 I2) h) (fun f s3 q=>?_) fun _ _ z=>z.elim
    have q:=Tp I.ok q
    cases f with
    | next=>obtain⟨σ',H',I',q⟩:=q;exact Fe I' hN hi hlo fun s4 I4=>⟨_,H',I4,q⟩
    | brk=>obtain⟨σ',H',I',q⟩:=q;exact Fe I' hN hi hlo fun s4 I4=>⟨_,H',I4,q⟩
    | cont=>obtain⟨σ',H',I',q⟩:=q;exact Fe I' hN hi hlo fun s4 I4=>⟨_,H',I4,q⟩
    | ret w=>obtain⟨v,σ',H',I',r,q⟩:=q;exact Fe I' hN hi hlo fun s4 I4=>⟨v,_,H',I4,r,q⟩
 | @up x y z p p1 p2 p3 p4 p5 pos k k2 rest T T' u us hg hm hd ecT hgy hmy hdy ecy kpy iny r ih=>
  intro σ H s a C dx I F e ec h
  obtain⟨m,hm2,h⟩:=h
  obtain⟨vs,hx,_⟩:=Rw I (.inr e)
  refine wpAny_handleBy_cons (codeAny_handlers_test (C5 (X:=X.hd a) (G3 I) hg hm ?_ hd)) (by intro q;cases q)
  refine Jm (A:=(X.hd a).A) I.kIn ec ecT hx hm2 ?_
  cases m with
  | false=>exact ih I F e ec h
  | true=>
   refine codeAny_handlers_suite (Gy (A:=(X.hd a).A) I F fun s1 I1 F1=>?_)
   obtain⟨⟨C1,dx1,ea⟩,hE⟩:=h
   refine wpAny_execs_cons (Yl I1 ea hgy hmy hdy ecy kpy iny fun b s2 hb I2 F2=>?_)
   refine Xp (X:=X.hd a) (G3 I2) hst hfr hfr F2 fun s3 z I3 F3=>?_
   have I3:=Dw I.ok I3
   have F3:FlyT X pins (upd H b (fcO b T' none)) b s3 z:=F3
   obtain⟨Cb,dxb,vb,Tb,oT,ts,h1,h2,h3,q1,q2,q3,q4,q5,q6⟩:=id F3
   refine wpAny_bind (wpAny_field h2 rfl q1 ?_)
   rw [if_neg (by simp)]
   refine Tn I3 F3 fun s4 I4 F4=>?_
   exact mt pins σ _ s4 b I4 F4.at (hE b hb)
theorem ap6 {Y:Cx} {body:List Stmt} {h0:ExceptHandler} {hs:List ExceptHandler} {pos:Pos} {tb:DS} {us:List (Addr×HK×DS)} (hst:Y.stack=Y.env::Y.outer) (hfr:Y.env.frame=some Y.env.locals)
  (hb:∀ pn xe,PassesOwn (model Y.prog Y.w) Y.A Y.env xe->QSs (Y.tr pn xe) body tb) (hh:HsOk Y (h0::hs) us):QS Y (.Try body (h0::hs) [] [] pos) (dTry Y.K tb us):=by
 intro Ex m pins s σ H D I hw
 refine wpAny_Try_except ?_
 refine wpAny_mono (hb (Y.pn++pins) (fun e s1=>wpAny (model Y.prog Y.w) Y.A (noteFrame e Y.env) (fun _ s2=>wpAny (model Y.prog Y.w) Y.A (setFlight e none) (fun _ s3=>wpAny (model Y.prog Y.w) Y.A (handleBy e Y.env (h0::hs)) (SP Y pins D) Y.xe s3) Y.xe s2) Y.xe s1) PassesOwn.looking
  (fun σ' a H'=>∃ C dx,FlO H' a C dx/\ECls Y.K C/\Gs Y.K C a us (outs Ex D) σ' H') ?_ [] s σ H D (ai8 I) hw) (fun f s1 q=>?_) fun _ _ z=>z
 ·intro pins' σ' H' s' a I' F' ⟨C,dx,e,ec,h⟩
  exact Sn (Ez I') hst hfr (Wx F') fun s2 I2 F2=>Up hst hfr m hh I2 F2.at e ec h
 ·have q:=ae0 q
  cases f with
  | next=>exact wpAny_execs_nil q
  | _=>exact q
end
def G7:Expr->Bool
 | .ListComp _ _ _ _=>false
 | .SetComp _ _ _ _=>false
 | .DictComp _ _ _ _ _=>false
 | _=>true
theorem G8 {e:Expr} (h:G7 e=true) (t:Option Expr) (l:Nat) (env:Env):swapsWith e t l env=pure false:=by
 cases e with
 | ListComp _ _ _ _=>cases h
 | SetComp _ _ _ _=>cases h
 | DictComp _ _ _ _ _=>cases h
 | _=>rfl
section
variable {X:Cx} {G:Sg} {st:Stmt} {rest:List Stmt} {t u:DS} {e:Expr} {de:DE} {pos p':Pos}
theorem Br:QS X st B7:=fun _ _ _ _ _ _ _ _ h=>h.elim
theorem ad4:QSs X [] Ad:=fun _ _=>ac0
theorem Yf (h1:QS X st t) (h2:QSs X rest u):QSs X (st::rest) (dSeq t u):=fun Ex m=>X5 (h1 Ex m) (h2 Ex m)
theorem ad2:QS X (.Pass pos) Ad:=fun _ _=>ab8
theorem ap0:QS X (.Break pos) dBrk:=fun _ _=>X3
theorem ap1:QS X (.Continue pos) dCnt:=fun _ _=>O3
theorem ap4 (h:QE X e de):QS X (.Return (some e) pos) (dRet de):=fun Ex m=>am9 (h Ex m)
theorem ad3:QS X (.Return none pos) af0:=fun _ _=>ab9
theorem ad1 (h:QE X e de) (hn:G7 e=true):QS X (.Expr e pos) (Eu de):=fun Ex m=>ab7 (h Ex m) (G8 hn _ _ _)
theorem a01 {c:Expr} {a b:List Stmt} {tc:DT} (hc:QT X c tc) (ha:QSs X a t) (hb:QSs X b u):QS X (.If c a b pos) (dIf tc t u):=fun Ex m=>az5 (hc Ex m) (ha Ex m) (hb Ex m)
theorem Ye {i:Nat} {x:Str} (O:GOk X G) (hi:Cd G.N x 0=some i) (hx:okSt G x=true) (h:QE X e de) (hn:swapsWith e (some (.Name x p')) pos.line X.env=pure false):QS X (.Assign [.Name x p'] e pos) (dSet i de):=by
 obtain⟨h1,h2⟩:=M3 O hx
 exact fun Ex m=>an0 (by rw [O.N];exact O.nd) (by rw [O.N];exact D0 hi) h1 (h Ex m) hn h2
variable {tg iter elt:Expr} {ifs:List Expr} {sc:Scope} {wi:DI} {g:DG} {tc:DT}
theorem Q4 {i:Nat} {x:Str} {cp:Pos} (O:GOk X G) (hi:Cd G.N x 0=some i) (hx:okSt G x=true) (hc:X.calm=true) (hk:Es G sc=true) (hs:Jo iter=true) (hq:QI X tg iter wi) (hg:∀ X',GOk X' (Cl G sc.names)->PG X' tg g)
  (ht:∀ X',GOk X' (Cl G sc.names)->QIfs X' ifs tc) (he:∀ X',GOk X' (Cl G sc.names)->QE X' elt de) :
  QS X (.Assign [.Name x p'] (.ListComp elt [⟨tg,iter,ifs,0⟩] sc cp) pos) (dSet i (Bt (Fb G sc.names) wi g tc de)):=by
 obtain⟨h1,h2⟩:=M3 O hx
 have sw:swapsWith (.ListComp elt [⟨tg,iter,ifs,0⟩] sc cp) (some (.Name x p')) pos.line X.env=pure (X.env.blockKind==.function&&X.env.kindOf x==some .local&&p'.line==(Expr.ListComp elt [⟨tg,iter,ifs,0⟩] sc cp).pos.line
   && !(sc.names.any fun (n,k)=>n==x&&(k==.local||k==.cell))):=rfl
 cases hb:(X.env.blockKind==.function&&X.env.kindOf x==some .local&&p'.line==(Expr.ListComp elt [⟨tg,iter,ifs,0⟩] sc cp).pos.line
   && !(sc.names.any fun (n,k)=>n==x&&(k==.local||k==.cell))) with
 | false=>
  rw [hb] at sw
  exact Ye O hi hx (Sy O hc hk hs hq hg ht he) sw
 | true=>
  rw [hb] at sw
  simp only [Bool.and_eq_true] at hb
  have hl:X.env.scope.names.lookup x=some .local:=eq_of_beq hb.1.1.2
  intro Ex m pins s σ H D I h
  exact Wj hc (by rw [O.N];exact O.nd) (by rw [O.N];exact D0 hi) hl (Mq O hk) (hq Ex m) (fun us Q2 fp C D s2 H2 I2 f2 hC=>
   have M:=Jn (N':=(Cl G sc.names).N) (cl:=Ck X.env.cells sc.names []) (us:=us) (Q2:=Q2) (D:=D) m O.fr I2 f2 hC
   have K:=Rt O hk fp C s2 H2 (Bg X sc (Ck X.env.cells sc.names []) us Q2 D C)
   ⟨hg _ K,ht _ K _ M,he _ K _ M⟩) I h sw (fun x=>Jp hs X.env x)
theorem ap3 {body:List Stmt} (O:GOk X G) (ht:G.top=true) (hc:X.calm=true) (hi:QI X tg iter wi) (hg:PG X tg g) (hb:QSs X body t) (hs:Jo iter=true):QS X (.For tg iter body [] pos) (dFor wi g t):=by
 intro Ex m pins s σ H D I h
 refine wpAny_mono (am8 (O.own ht) hc (hi Ex m) hg (hb Ex m) (fun x=>Jp hs X.env x) pins s σ H { D with nx:=fun σ' H'=>Thaw H H' (D.nx σ') } I h) (fun f s' q=>?_) fun _ _ z=>z
 cases f with
 | next=>
  obtain⟨σ',H',I',q⟩:=q
  obtain⟨H2,I2,q2⟩:=Thaw.inv I I' q
  exact⟨σ',H2,I2,q2⟩
 | _=>exact q
def B8 (K:PySem.W.Frag) (e:DE):DS:=fun D σ H=>e σ H (Yh K (D.ex σ)) (D.ex σ)
theorem Yd (O:GOk X G) (hc:X.A.handled=none) (h:QE X e de):QS X (.Raise (some e) none pos) (B8 X.K de):=fun Ex m=>X4 m hc (h Ex m)
def Xm:Expr->Bool
 | .Tuple _ _ _=>false
 | _=>true
theorem Xn {e:Expr} (h:Xm e=true) (tg:Expr) (env:Env):swappedStores [tg] e env=pure none:=by
 cases e with
 | Tuple _ _ _=>cases h
 | _=>cases tg <;> rfl
theorem ao9 {ts:List Expr} {kt:Nat} {pt:Pos} {g:DG} (h:QE X e de) (hg:PG X (.Tuple ts kt pt) g) (hn:G7 e=true) (ht:Xm e=true):QS X (.Assign [.Tuple ts kt pt] e pos) (dAsg de g):=
 fun Ex m=>X2 (h Ex m) hg (show swapsWithSole [.Tuple ts kt pt] e pos.line X.env=pure false from G8 hn (some (.Tuple ts kt pt)) pos.line X.env) (Xn ht _ _)
def By (K:PySem.W.Frag) (o i:DE):DG:=fun v σ H Q=>o σ H (fun x H1=>i σ H1 (fun y H2=>Yk x y v H2 (Q σ)) fun _ _=>False) fun _ _=>False
theorem ap5 {o i:Expr} {do' di:DE} (hu:X.A.units+64<cLine) (ho:QE X o do') (hi:QE X i di) (h:QE X e de) (hsl:Ge i=true):QS X (.Assign [.Subscript o i p'] e pos) (dAsg de (By X.K do' di)):=by
 intro Ex m
 have hg:PG X (.Subscript o i p') (By X.K do' di):=am6 (ho _ E2) (hi _ E2) (a59 hu) (by
  intro v
  cases i with
  | Slice _ _ _ _=>cases hsl
  | _=>rfl)
 exact X2 (h Ex m) hg (show swapsWithSole [.Subscript o i p'] e pos.line X.env=pure false from by show swapsWith e (some (.Subscript o i p')) pos.line X.env=pure false;cases e <;> rfl) (by cases e <;> rfl)
def dFld (K:PySem.W.Frag) (f:Str) (o e:DE):DS:=fun D σ H=>e σ H (fun y H1=>o σ H1 (fun x H2=>Yi K f x y H2 (D.nx σ)) (D.ex σ)) (D.ex σ)
theorem ap2 {o:Expr} {f:Str} {do':DE} (ho:QE X o do') (h:QE X e de):QS X (.Assign [.Attribute o f p'] e pos) (dFld X.K f do' de):=by
 intro Ex m pins s σ H D I hw
 refine plainObj_wpAny_Assign_Attribute (thn (h Ex m pins s σ H _ I hw) fun u s1 ⟨y,H1,I1,ry,q⟩=>thn (ho Ex m pins s1 σ H1 _ I1 q) fun ov s2 ⟨x,H2,I2,rx,q2⟩=>?_) (by cases e <;> rfl)
 exact a58 I2 rx ry q2 fun H' s' I' hN=>⟨σ,H',I',hN⟩
end
def valB:GB->GB
 | .val v u=>.val v u
 | .exc C _=>.val (.ref C) (.ref C)
 | .cls C _=>.val (.ref C) (.ref C)
 | _=>.met "" []
def Cw (gb:List (Str×GB)):List (Str×GB):=gb.map fun p=>(p.1,valB p.2)
theorem D7 (x:Str):∀ gb:List (Str×GB),(Cw gb).lookup x=(gb.lookup x).map valB
 | []=>rfl
 | (y,g)::r=>by
  show List.lookup x ((y,valB g)::Cw r)=_
  rw [List.lookup_cons,List.lookup_cons]
  cases x==y with
  | true=>rfl
  | false=>exact D7 x r
theorem Kk {m:Str} {l:List MI}:∀ {gb:List (Str×GB)},Bp (Cw gb) m=some l->l=[]
 | [],h=>by cases h
 | (y,g)::r,h=>by
  have go:Bp (Cw r) m=some l->l=[]:=Kk
  cases g with
  | val v u=>exact go h
  | exc C i=>exact go h
  | cls C i=>exact go h
  | fn i=>
   have h:(if ("" : Str)=m then some [] else Bp (Cw r) m)=some l:=h
   split at h
   ·cases h;rfl
   ·exact go h
  | met m' l'=>
   have h:(if ("" : Str)=m then some [] else Bp (Cw r) m)=some l:=h
   split at h
   ·cases h;rfl
   ·exact go h
def hdG (G:Sg):Sg:={ G with gb:=Cw G.gb,calm:=false }
def Og (gb:List (Str×GB)) (x:Str):Option Addr:=match gb.lookup x with
 | some (.exc T _)=>some T
 | _=>none
def okH (G:Sg):ExceptHandler->Bool
 | .ExceptHandler (some (.Name x _)) nm (_::_) _=>isGl G x&&(Og G.gb x).isSome&&(match nm with
  | none=>true
  | some n=>(Cd G.N n 0).isSome&&(G.sc.lookup n==some .local))
 | _=>false
def av6 (G:Sg):ExceptHandler->Option Nat
 | .ExceptHandler _ (some n) _ _=>Cd G.N n 0
 | _=>none
def af2 (G:Sg) (y:Str):Option Addr:=match G.gb.lookup y with
 | some (.exc T none)=>if isGl G y=true then some T else none
 | _=>none
def upOf (G:Sg):ExceptHandler->Option Addr
 | .ExceptHandler _ none [.Raise (some (.Call (.Name y _) [.Constant (.str _) _ _] [] _)) (some (.Constant .none _ _)) _] _=>af2 G y
 | _=>none
def Lp (G:Sg) (h:ExceptHandler):HK:=match upOf G h with
 | some T=>.up T
 | none=>match av6 G h with
  | some i=>.as i
  | none=>.no
def clsH (G:Sg):ExceptHandler->Addr
 | .ExceptHandler (some (.Name x _)) _ _ _=>(Og G.gb x).getD 0
 | _=>0
def ae9:ExceptHandler->List Stmt
 | .ExceptHandler _ _ b _=>b
theorem ai6 {X:Cx} {G:Sg} (O:GOk X G) (a:Addr):GOk (X.hd a) (hdG G) where
 K:=O.K
 kind:=O.kind
 own:=fun _=>PassesOwn.never
 N:=O.N
 nd:=O.nd
 sc:=O.sc
 vis:=O.vis
 top:=O.top
 calm:=rfl
 hd:=fun z=>by cases z
 units:=O.units
 cel:=O.cel
 fn:=fun x i e=>by
  have e:(Cw G.gb).lookup x=some (.fn i):=e
  rw [D7] at e
  obtain⟨g,_,z⟩:=Option.map_eq_some_iff.mp e
  cases g <;> cases z
 val:=fun x v u e=>by
  have e:(Cw G.gb).lookup x=some (.val v u):=e
  rw [D7] at e
  obtain⟨g,hg,z⟩:=Option.map_eq_some_iff.mp e
  cases g with
  | val v' u'=>cases z;exact O.val x v u hg
  | exc C i=>cases z;exact⟨(O.exc x C i hg).1,rfl⟩
  | cls C i=>cases z;exact⟨(O.cls x C i hg).1,rfl⟩
  | fn i=>cases z
  | met m l=>cases z
 bl:=O.bl
 exc:=fun x C oi e=>by
  have e:(Cw G.gb).lookup x=some (.exc C oi):=e
  rw [D7] at e
  obtain⟨g,_,z⟩:=Option.map_eq_some_iff.mp e
  cases g <;> cases z
 cls:=fun x C oi e=>by
  have e:(Cw G.gb).lookup x=some (.cls C oi):=e
  rw [D7] at e
  obtain⟨g,_,z⟩:=Option.map_eq_some_iff.mp e
  cases g <;> cases z
 met:=fun m l e mi hm=>by
  rw [Kk (show Bp (Cw G.gb) m=some l from e)] at hm
  cases hm
 frm:=O.frm
 fr:=O.fr
theorem Tv {X:Cx} {pn:List (Addr×Obj)} {xe:Value->Shared->Prop} {i:FI} (F:FIOk X i):FIOk (X.tr pn xe) i:=⟨F.kp,F.ok,F.room,F.binds,F.vals⟩
theorem as7 {X:Cx} {G:Sg} (O:GOk X G) {pn:List (Addr×Obj)} {xe:Value->Shared->Prop} (ho:PassesOwn (model X.prog X.w) X.A X.env xe):GOk (X.tr pn xe) G where
 K:=O.K
 kind:=O.kind
 own:=fun _=>ho
 N:=O.N
 nd:=O.nd
 sc:=O.sc
 vis:=O.vis
 top:=O.top
 calm:=O.calm
 hd:=O.hd
 units:=O.units
 cel:=O.cel
 fn:=fun x i e=>⟨(O.fn x i e).1,Tv (O.fn x i e).2⟩
 val:=O.val
 bl:=O.bl
 exc:=fun x C oi e=>by
  obtain⟨a,b,c,d⟩:=O.exc x C oi e
  refine⟨a,b,c,?_⟩
  cases oi with
  | none=>exact d
  | some i=>exact⟨d.1,d.2.1,Tv d.2.2.1,d.2.2.2⟩
 cls:=fun x C oi e=>by
  obtain⟨a,b,d⟩:=O.cls x C oi e
  refine⟨a,b,?_⟩
  cases oi with
  | none=>exact d
  | some i=>exact⟨d.1,d.2.1,d.2.2.1,Tv d.2.2.2.1,d.2.2.2.2⟩
 met:=fun m l e mi hm=>⟨(O.met m l e mi hm).1,(O.met m l e mi hm).2.1,Tv (O.met m l e mi hm).2.2⟩
 frm:=O.frm
 fr:=O.fr
theorem Xq {G:Sg} {h:ExceptHandler} (hh:okH G h=true):∃ x p nm b suite pos,h=.ExceptHandler (some (.Name x p)) nm (b::suite) pos/\isGl G x=true/\(Og G.gb x).isSome=true /\ ∀ n,nm=some n->(Cd G.N n 0).isSome=true/\G.sc.lookup n=some .local:=by
 unfold okH at hh
 split at hh
 ·rw [Bool.and_eq_true,Bool.and_eq_true] at hh
  refine⟨_,_,_,_,_,_,rfl,hh.1.1,hh.1.2,fun n e=>?_⟩
  have h2:=hh.2
  rw [e] at h2
  have h2:((Cd G.N n 0).isSome&&(G.sc.lookup n==some .local))=true:=h2
  rw [Bool.and_eq_true] at h2
  exact⟨h2.1,eq_of_beq h2.2⟩
 ·cases hh
theorem Xa {X:Cx} {G:Sg} (O:GOk X G) {w:List Stmt->DS} (h:∀ a ss,QSs (X.hd a) ss (w ss)):∀ {hl:List ExceptHandler},hl.all (okH G)=true->HsOk X hl (hl.map fun h=>(clsH G h,Lp G h,w (ae9 h)))
 | [],_=>.nil
 | e0::r,hh=>by
  rw [List.all_cons,Bool.and_eq_true] at hh
  obtain⟨h1,h2⟩:=hh
  obtain⟨x,p,nm,b,suite,pos,rfl,hg,hs,hnm⟩:=Xq h1
  obtain⟨T,hT⟩:=Option.isSome_iff_exists.mp hs
  have hl:∃ oi,G.gb.lookup x=some (.exc T oi):=by
   unfold Og at hT
   split at hT
   ·rename_i T' oi e;cases hT;exact⟨oi,e⟩
   ·cases hT
  obtain⟨oi,hl⟩:=hl
  obtain⟨m,kp,ec,_⟩:=O.exc x T oi hl
  have e:clsH G (.ExceptHandler (some (.Name x p)) nm (b::suite) pos)=T:=by show (Og G.gb x).getD 0=T;rw [hT];rfl
  rw [List.map_cons,e]
  cases hu:upOf G (.ExceptHandler (some (.Name x p)) nm (b::suite) pos) with
  | some T'=>
   have ek:Lp G (.ExceptHandler (some (.Name x p)) nm (b::suite) pos)=.up T':=by unfold Lp;rw [hu]
   rw [ek]
   unfold upOf at hu
   split at hu
   ·rename_i ty y p1 z k p2 p3 k2 p4 p5 p6 heq
    cases heq
    unfold af2 at hu
    split at hu
    ·rename_i T'' hy
     split at hu
     ·rename_i hgy
      cases hu
      obtain⟨my,kpy,ecy,iny⟩:=O.exc y T' none hy
      exact .up (O.gl hg) m (Jf hg).1 ec (O.gl hgy) my (Jf hgy).1 ecy kpy iny (Xa O h h2)
     ·cases hu
    ·cases hu
   ·cases hu
  | none=>
  have ao:AsOk X nm (Lp G (.ExceptHandler (some (.Name x p)) nm (b::suite) pos)):=by
   unfold Lp
   rw [hu]
   cases nm with
   | none=>exact .no
   | some n=>
    obtain⟨z1,z2⟩:=hnm n rfl
    obtain⟨i,hi⟩:=Option.isSome_iff_exists.mp z1
    show AsOk X (some n) (match Cd G.N n 0 with|some i=>HK.as i|none=>HK.no)
    rw [hi]
    exact .as (by rw [O.N];exact O.nd) (by rw [O.N];exact D0 hi) (by rw [O.sc];exact z2)
  exact .cons (O.gl hg) m (Jf hg).1 ec ao (fun a=>h a _) (Xa O h h2)
mutual
def wS:Nat->Sg->Stmt->DS
 | 0,_,_=>B7
 | n+1,G,st=>match st with
  | .Pass _=>Ad
  | .Break _=>dBrk
  | .Continue _=>dCnt
  | .Return (some e) _=>dRet (wE n G e)
  | .Return none _=>af0
  | .Expr e _=>if G7 e=true then Eu (wE n G e) else B7
  | .If c a b _=>dIf (wT n G c) (wSs n G a) (wSs n G b)
  | .Assign [.Name x _] (.ListComp elt [⟨tg,iter,ifs,0⟩] sc _) _=>match Cd G.N x 0 with
   | some i=>if okSt G x=true/\G.calm=true/\Es G sc=true/\Jo iter=true then
     dSet i (Bt (Fb G sc.names) (wI n G tg iter) (wG n (Cl G sc.names) tg) (match ifs with | []=>dYes | [c]=>wT n (Cl G sc.names) c|_=>tNo) (wE n (Cl G sc.names) elt)) else B7
   | none=>B7
  | .Assign [.Name x _] e _=>match Cd G.N x 0 with
   | some i=>if okSt G x=true/\G7 e=true then dSet i (wE n G e) else B7
   | none=>B7
  | .Assign [.Tuple ts kt pt] e _=>if G7 e=true/\Xm e=true then dAsg (wE n G e) (wG n G (.Tuple ts kt pt)) else B7
  | .Assign [.Attribute o f _] e _=>dFld G.K f (wE n G o) (wE n G e)
  | .Assign [.Subscript o i _] e _=>if Ge i=true then dAsg (wE n G e) (By G.K (wE n G o) (wE n G i)) else B7
  | .Raise (some e) none _=>if G.calm=true then B8 G.K (wE n G e) else B7
  | .For tg iter body [] _=>if G.calm=true/\Jo iter=true/\G.top=true then dFor (wI n G tg iter) (wG n G tg) (wSs n G body) else B7
  | .Try body (h::hs) [] [] _=>if G.top=true/\(h::hs).all (okH G)=true then dTry G.K (wSs n G body) ((h::hs).map fun h=>(clsH G h,Lp G h,wSs n (hdG G) (ae9 h))) else B7
  | _=>B7
def wSs:Nat->Sg->List Stmt->DS
 | 0,_,_=>B7
 | _+1,_,[]=>Ad
 | n+1,G,s::r=>dSeq (wS n G s) (wSs n G r)
end
theorem ah7:∀ (n:Nat) (X:Cx) (G:Sg),GOk X G->(∀ s,QS X s (wS n G s))/\(∀ ss,QSs X ss (wSs n G ss)):=by
 intro n
 induction n with
 | zero=>
  intro X G O
  refine⟨fun s=>?_,fun s=>?_⟩
  ·unfold wS;exact Br
  ·unfold wSs;exact fun _ _ _ _ _ _ _ _ h=>h.elim
 | succ n ih=>
  intro X G O
  obtain⟨hS,hSs⟩:=ih X G O
  obtain⟨hE,hT,hI⟩:=w_ok n X G O
  refine⟨fun s=>?_,fun s=>?_⟩
  ·unfold wS
   split
   ·exact ad2
   ·exact ap0
   ·exact ap1
   ·exact ap4 (hE _)
   ·exact ad3
   ·split
    ·exact ad1 (hE _) ‹_›
    ·exact Br
   ·exact a01 (hT _) (hSs _) (hSs _)
   ·split
    ·rename_i i e
     split
     ·rename_i hh
      obtain⟨h1,h2,h3,h4⟩:=hh
      refine Q4 O e h1 (O.calm▸h2) h3 h4 (hI _ _) (fun X' O'=>Px n X' _ O' _) (fun X' O'=>?_) (fun X' O'=>(w_ok n X' _ O').1 _)
      split
      ·exact Pa
      ·exact Pb ((w_ok n X' _ O').2.1 _)
      ·exact fun _ _ _ _ _ _ _ _ h=>h.elim
     ·exact Br
    ·exact Br
   ·split
    ·rename_i i e
     split
     ·rename_i hh
      exact Ye O e hh.1 (hE _) (G8 hh.2 _ _ _)
     ·exact Br
    ·exact Br
   ·split
    ·rename_i hh
     exact ao9 (hE _) (Px n X G O _) hh.1 hh.2
    ·exact Br
   ·rw [<- O.K];exact ap2 (hE _) (hE _)
   ·split
    ·rename_i hh
     rw [<- O.K];exact ap5 O.units (hE _) (hE _) (hE _) hh
    ·exact Br
   ·split
    ·rename_i hcm
     rw [<- O.K];exact Yd O (O.hd (O.calm▸hcm)) (hE _)
    ·exact Br
   ·split
    ·rename_i hh
     exact ap3 O hh.2.2 (O.calm▸hh.1) (hI _ _) (Px n X G O _) (hSs _) hh.2.1
    ·exact Br
   ·split
    ·rename_i hh
     rw [<- O.K]
     exact ap6 (O.frm hh.1).1 (O.frm hh.1).2 (fun pn xe ho=>(ih _ _ (as7 O ho)).2 _) (Xa O (fun a ss=>(ih _ _ (ai6 O a)).2 ss) hh.2)
    ·exact Br
   ·exact Br
  ·cases s with
   | nil=>unfold wSs;exact ad4
   | cons a r=>unfold wSs;exact Yf (hS a) (hSs r)
section
variable {P:Program} {w:World} {K:PySem.W.Frag} {mg:Str->Option Value} {base:Heap}
structure FnIn (P:Program) (w:World) (K:PySem.W.Frag) (mg:Str->Option Value) (base:Heap) (k:Nat) (x:Str) (i:FI):Prop where
 at_:mg x=some (.ref i.f)
 kp:PySem.W.keepIn K (.ref i.f)=true
 ok:∃ CX,(∀ X':Cx,X'.prog=P->X'.w=w->Kt CX X')/\FnOk P w K mg base CX i.k i.f i.fd i.ps i.sp
 le:i.k<=k
 binds:∀ j,j<=i.dfs.length->Binds K i.fd i.ps (i.ds.drop j)
 vals:Vals i.dfs i.ds
def ah8 (P:Program) (w:World) (K:PySem.W.Frag) (mg:Str->Option Value) (base:Heap) (k:Nat) (C:Addr):Option FI->Prop
 | none=>PySem.W.findIn K (.ref C) "__init__" = some (some (.builtin "ValueError.__init__"))
 | some i=>PySem.W.findIn K (.ref C) "__init__" = some (some (.ref i.f))/\PySem.W.isFn K (.ref i.f)=true/\PySem.W.keepIn K (.ref i.f)=true/\(∃ CX,(∀ X':Cx,X'.prog=P->X'.w=w->Kt CX X')/\FnOk P w K mg base CX i.k i.f i.fd i.ps i.sp) /\
   i.k+1<=k/\(∀ j,j<=i.dfs.length->Binds K i.fd i.ps (i.ds.drop j))/\Vals i.dfs i.ds
structure ExcIn (P:Program) (w:World) (K:PySem.W.Frag) (mg:Str->Option Value) (base:Heap) (k:Nat) (x:Str) (C:Addr) (oi:Option FI):Prop where
 at_:mg x=some (.ref C)
 kp:PySem.W.keepIn K (.ref C)=true
 cls:ECls K C
 init:ah8 P w K mg base k C oi
structure FiIn (P:Program) (w:World) (K:PySem.W.Frag) (mg:Str->Option Value) (base:Heap) (k:Nat) (i:FI):Prop where
 kp:PySem.W.keepIn K (.ref i.f)=true
 ok:∃ CX,(∀ X':Cx,X'.prog=P->X'.w=w->Kt CX X')/\FnOk P w K mg base CX i.k i.f i.fd i.ps i.sp
 le:i.k<=k
 binds:∀ j,j<=i.dfs.length->Binds K i.fd i.ps (i.ds.drop j)
 vals:Vals i.dfs i.ds
theorem FiIn.mono {k k':Nat} {i:FI} (F:FiIn P w K mg base k i) (h:k<=k'):FiIn P w K mg base k' i:=⟨F.kp,F.ok,Nat.le_trans F.le h,F.binds,F.vals⟩
def MkIn (P:Program) (w:World) (K:PySem.W.Frag) (mg:Str->Option Value) (base:Heap) (k:Nat) (C:Addr):Option FI->Prop
 | none=>PySem.W.makesIn K C=true/\PySem.W.findIn K (.ref C) "__init__" = some (some (.builtin "object.__init__"))
 | some i=>PySem.W.makesIn K C=true/\PySem.W.findIn K (.ref C) "__init__" = some (some (.ref i.f))/\PySem.W.isFn K (.ref i.f)=true/\FiIn P w K mg base k i/\i.k+1<=k
structure ClsIn (P:Program) (w:World) (K:PySem.W.Frag) (mg:Str->Option Value) (base:Heap) (k:Nat) (x:Str) (C:Addr) (oi:Option FI):Prop where
 at_:mg x=some (.ref C)
 kp:PySem.W.keepIn K (.ref C)=true
 made:MkIn P w K mg base k C oi
theorem ClsIn.mono {k k':Nat} {x:Str} {C:Addr} {oi:Option FI} (F:ClsIn P w K mg base k x C oi) (h:k<=k'):ClsIn P w K mg base k' x C oi:=by
 refine⟨F.at_,F.kp,?_⟩
 cases oi with
 | none=>exact F.made
 | some i=>obtain⟨a,b,c,d,e⟩:=F.made;exact⟨a,b,c,d.mono h,Nat.le_trans e h⟩
structure MetIn (P:Program) (w:World) (K:PySem.W.Frag) (mg:Str->Option Value) (base:Heap) (k:Nat) (m:Str) (mi:MI):Prop where
 cls:Cls K mi.C
 at_:Meth K mi.C m mi.i.f
 fi:FiIn P w K mg base k mi.i
theorem MetIn.mono {k k':Nat} {m:Str} {mi:MI} (F:MetIn P w K mg base k m mi) (h:k<=k'):MetIn P w K mg base k' m mi:=⟨F.cls,F.at_,F.fi.mono h⟩
theorem ExcIn.mono {P:Program} {w:World} {K:PySem.W.Frag} {mg:Str->Option Value} {base:Heap} {k k':Nat} {x:Str} {C:Addr} {oi:Option FI} (F:ExcIn P w K mg base k x C oi) (h:k<=k'):ExcIn P w K mg base k' x C oi:=by
 refine⟨F.at_,F.kp,F.cls,?_⟩
 cases oi with
 | none=>exact F.init
 | some i=>obtain⟨a,b,c,d,e,f⟩:=F.init;exact⟨a,b,c,d,Nat.le_trans e h,f⟩
structure Tab (P:Program) (w:World) (K:PySem.W.Frag) (mg:Str->Option Value) (base:Heap) (k:Nat) (gb:List (Str×GB)) (bl:List Str):Prop where
 fn:∀ x i,(x,GB.fn i)∈gb->FnIn P w K mg base k x i
 val:∀ x v u,(x,GB.val v u)∈gb->mg x=some u/\RelV v u
 bl:∀ x∈bl,mg x=none
 exc:∀ x C oi,(x,GB.exc C oi)∈gb->ExcIn P w K mg base k x C oi
 cls:∀ x C oi,(x,GB.cls C oi)∈gb->ClsIn P w K mg base k x C oi
 met:∀ x m l,(x,GB.met m l)∈gb -> ∀ mi∈l,MetIn P w K mg base k m mi
theorem FnIn.mono {k k':Nat} {x:Str} {i:FI} (F:FnIn P w K mg base k x i) (h:k<=k'):FnIn P w K mg base k' x i:=⟨F.at_,F.kp,F.ok,Nat.le_trans F.le h,F.binds,F.vals⟩
theorem Tab.nil {bl:List Str} (h:∀ x∈bl,mg x=none):Tab P w K mg base 0 [] bl:=⟨fun _ _ h=>(by cases h),fun _ _ _ h=>(by cases h),h,fun _ _ _ h=>(by cases h),fun _ _ _ h=>(by cases h),fun _ _ _ h=>(by cases h)⟩
theorem Tab.mono {k k':Nat} {gb:List (Str×GB)} {bl:List Str} (T:Tab P w K mg base k gb bl) (h:k<=k'):Tab P w K mg base k' gb bl:=⟨fun x i hx=>(T.fn x i hx).mono h,T.val,T.bl,fun x C oi hx=>(T.exc x C oi hx).mono h,fun x C oi hx=>(T.cls x C oi hx).mono h,fun x m l hx mi hm=>(T.met x m l hx mi hm).mono h⟩
theorem Tab.cons {k:Nat} {gb:List (Str×GB)} {bl:List Str} {x:Str} {i:FI} (T:Tab P w K mg base k gb bl) (F:FnIn P w K mg base k x i):Tab P w K mg base k ((x,.fn i)::gb) bl:=
 ⟨fun y j hy=>by
  rcases List.mem_cons.mp hy with e|e
  ·cases e;exact F
  ·exact T.fn y j e,fun y v' u' hy=>by
  rcases List.mem_cons.mp hy with e|e
  ·cases e
  ·exact T.val y v' u' e,T.bl,fun y C' oi' hy=>by
  rcases List.mem_cons.mp hy with e|e
  ·cases e
  ·exact T.exc y C' oi' e,fun y C' oi' hy=>by
  rcases List.mem_cons.mp hy with e|e
  ·cases e
  ·exact T.cls y C' oi' e,fun y m' l' hy=>by
  rcases List.mem_cons.mp hy with e|e
  ·cases e
  ·exact T.met y m' l' e⟩
theorem Tab.consX {k:Nat} {gb:List (Str×GB)} {bl:List Str} {x:Str} {C:Addr} {oi:Option FI} (T:Tab P w K mg base k gb bl) (F:ExcIn P w K mg base k x C oi):Tab P w K mg base k ((x,.exc C oi)::gb) bl:=
 ⟨fun y j hy=>by
  rcases List.mem_cons.mp hy with e|e
  ·cases e
  ·exact T.fn y j e,fun y v' u' hy=>by
  rcases List.mem_cons.mp hy with e|e
  ·cases e
  ·exact T.val y v' u' e,T.bl,fun y C' oi' hy=>by
  rcases List.mem_cons.mp hy with e|e
  ·cases e;exact F
  ·exact T.exc y C' oi' e,fun y C' oi' hy=>by
  rcases List.mem_cons.mp hy with e|e
  ·cases e
  ·exact T.cls y C' oi' e,fun y m' l' hy=>by
  rcases List.mem_cons.mp hy with e|e
  ·cases e
  ·exact T.met y m' l' e⟩
theorem Tab.consV {k:Nat} {gb:List (Str×GB)} {bl:List Str} {x:Str} {v:V} {u:Value} (T:Tab P w K mg base k gb bl) (F:mg x=some u) (r:RelV v u):Tab P w K mg base k ((x,.val v u)::gb) bl:=
 ⟨fun y j hy=>by
  rcases List.mem_cons.mp hy with e|e
  ·cases e
  ·exact T.fn y j e,fun y v' u' hy=>by
  rcases List.mem_cons.mp hy with e|e
  ·cases e;exact⟨F,r⟩
  ·exact T.val y v' u' e,T.bl,fun y C' oi' hy=>by
  rcases List.mem_cons.mp hy with e|e
  ·cases e
  ·exact T.exc y C' oi' e,fun y C' oi' hy=>by
  rcases List.mem_cons.mp hy with e|e
  ·cases e
  ·exact T.cls y C' oi' e,fun y m' l' hy=>by
  rcases List.mem_cons.mp hy with e|e
  ·cases e
  ·exact T.met y m' l' e⟩
theorem Tab.consC {k:Nat} {gb:List (Str×GB)} {bl:List Str} {x:Str} {C:Addr} {oi:Option FI} (T:Tab P w K mg base k gb bl) (F:ClsIn P w K mg base k x C oi):Tab P w K mg base k ((x,.cls C oi)::gb) bl:=
 ⟨fun y j hy=>by
  rcases List.mem_cons.mp hy with e|e
  ·cases e
  ·exact T.fn y j e,fun y v' u' hy=>by
  rcases List.mem_cons.mp hy with e|e
  ·cases e
  ·exact T.val y v' u' e,T.bl,fun y C' oi' hy=>by
  rcases List.mem_cons.mp hy with e|e
  ·cases e
  ·exact T.exc y C' oi' e,fun y C' oi' hy=>by
  rcases List.mem_cons.mp hy with e|e
  ·cases e;exact F
  ·exact T.cls y C' oi' e,fun y m' l' hy=>by
  rcases List.mem_cons.mp hy with e|e
  ·cases e
  ·exact T.met y m' l' e⟩
theorem Tab.consM {k:Nat} {gb:List (Str×GB)} {bl:List Str} {x:Str} {m:Str} {l:List MI} (T:Tab P w K mg base k gb bl) (F:∀ mi∈l,MetIn P w K mg base k m mi):Tab P w K mg base k ((x,.met m l)::gb) bl:=
 ⟨fun y j hy=>by
  rcases List.mem_cons.mp hy with e|e
  ·cases e
  ·exact T.fn y j e,fun y v' u' hy=>by
  rcases List.mem_cons.mp hy with e|e
  ·cases e
  ·exact T.val y v' u' e,T.bl,fun y C' oi' hy=>by
  rcases List.mem_cons.mp hy with e|e
  ·cases e
  ·exact T.exc y C' oi' e,fun y C' oi' hy=>by
  rcases List.mem_cons.mp hy with e|e
  ·cases e
  ·exact T.cls y C' oi' e,fun y m' l' hy=>by
  rcases List.mem_cons.mp hy with e|e
  ·cases e;exact F
  ·exact T.met y m' l' e⟩
theorem Oy (X:Cx):Kt CX0 X:=fun _ _ _ _ _ _ _ _ _ h=>h.elim
def defG (K:PySem.W.Frag) (N:List Str) (sc:Scope) (gb:List (Str×GB)) (bl:List Str):Sg:=⟨K,N,sc.names,gb,bl,true,true⟩
def Ay (N:List Str) (sc:Scope):Bool:=N.all fun x=>(sc.names.lookup x==some .local)||(sc.names.lookup x==some .cell)
def ai2 (Q:VK) (E:EK):Outs:=⟨fun _ H'=>Q .non H',Q,fun _ _=>False,fun _ _=>False,fun _=>E⟩
structure FunD (K:PySem.W.Frag) (x qual:Str) (st:Stmt) (f:Addr) (fd:FuncData) (dV:Value):Prop where
 ex:∃ (oc:Value) (od:Option Addr) (kV doc pm:Value) (an:Option Addr) (cdv ct:Value) (osl:Array (Option Value)),
  fd=PySem.W.fnOf x qual (Bo st) (Ah st) (Ac st) dV kV doc pm an cdv ct/\K.lookup f=some ⟨oc,od,.func fd,osl⟩/\PySem.W.codeIn K cdv qual=true
 kp:PySem.W.keepIn K (.ref f)=true
theorem Fun.toD {x qual:Str} {st:Stmt} {f:Addr} {fd:FuncData} (F:Fun K x qual st f fd):FunD K x qual st f fd .none:=⟨F.ex,F.kp⟩
theorem Z2 {x qual:Str} {st:Stmt} {f:Addr} {oc:Value} {od an:Option Addr} {osl:Array (Option Value)} {dV kV doc pm cdv ct:Value} (l:K.lookup f=some ⟨oc,od,.func (PySem.W.fnOf x qual (Bo st) (Ah st) (Ac st) dV kV doc pm an cdv ct),osl⟩)
  (c:PySem.W.codeIn K cdv qual=true) (k:PySem.W.keepIn K (.ref f)=true):FunD K x qual st f (PySem.W.fnOf x qual (Bo st) (Ah st) (Ac st) dV kV doc pm an cdv ct) dV:=⟨⟨oc,od,kV,doc,pm,an,cdv,ct,osl,rfl,l,c⟩,k⟩
theorem FunD.ok {x qual:Str} {st:Stmt} {f:Addr} {fd:FuncData} {dV:Value} {N ps:List Str} {k:Nat} {sp:Sp} (F:FunD K x qual st f fd dV) (S:Ak N ps (Ac st)) (len:∀ vs H Q E,sp vs H Q E->vs.length=ps.length)
  (hbody:∀ (cdv:Value) (A:Around) (outer:List Env) (s:Shared) (H:Hp) (vs:List V) (Q:VK) (E:XK),Room k (A.deeper (envOfC qual (Ac st) s.heap.objs.size f cdv))->sp vs H Q E ->
   ∃ t,PSs (cxOf CX0 P w K mg base N qual (Ac st) f cdv A outer s H E).nox (Ah st) t/\t { nx:=fun _ H'=>Q .non H',rt:=Q } (Fk N vs) H):FnOk P w K mg base CX0 (k+1) f fd ps sp:=by
 obtain⟨oc,od,kV,doc,pm,an,cdv,ct,osl,rfl,lk,hcd⟩:=F.ex
 refine af3 lk hcd S len fun A outer s H vs Q E hr hsp=>?_
 obtain⟨t,h,q⟩:=hbody cdv A outer s H vs Q E hr hsp
 exact⟨t,h.nox,q⟩
theorem P4 {fd:FuncData} {ps:List Str} {T:Addr} {o:Obj} {items:Array Value} {n:Nat} {ds:List Value} (hd:fd.defaults=.ref T) (ho:K.lookup T=some o) (hs:o.data=.seq items n)
  (h:∀ us:List Value,(us++ds).length=ps.length -> ∃ k:Option (Array Value)->Sem (List (Str×Value)),bindArgs fd ⟨us,[]⟩=seqItems? fd.defaults >>= k/\k (some items)=pure (ps.zip (us++ds))):Binds K fd ps ds:=fun s us X hl=>by
 obtain⟨k,h1,h2⟩:=h us hl
 exact PySem.W.binds_K X hd ho hs h1 h2
theorem FunD.okW0 {x qual:Str} {st:Stmt} {f:Addr} {fd:FuncData} {N ps:List Str} {k n:Nat} {sp:Sp} {gb:List (Str×GB)} {bl:List Str} {t:DS} {dV:Value} (F:FunD K x qual st f fd dV) (S:Ak N ps (Ac st)) (hv:Ay N (Ac st)=true)
  (T:Tab P w K mg base k gb bl) (rd:wSs n (defG K N (Ac st) gb bl) (Ah st)=t) (len:∀ vs H Q E,sp vs H Q E->vs.length=ps.length)
  (hbody:∀ (vs:List V) (H:Hp) (Q:VK) (E:XK),sp vs H Q E->t (ai2 Q fun _ _=>False) (Fk N vs) H):FnOk P w K mg base CX0 (k+1) f fd ps sp:=by
 refine F.ok S len fun cdv A outer s H vs Q E hr h=>?_
 have O:GOk (cxOf CX0 P w K mg base N qual (Ac st) f cdv A outer s H E).nox (defG K N (Ac st) gb bl):=by
  refine⟨rfl,S.kind,(fun _=>PassesOwn.never),rfl,S.nd,fun x=>rfl,fun x hx=>?_,fun _ _=>rfl,rfl,(fun _=>hr.hd),hr.units,fun x hx=>?_,fun x i e=>?_,fun x v u e=>?_,fun x hx=>?_,fun x C oi e=>?_,fun x C oi e=>?_,fun m l e mi hm=>?_,(fun _=>⟨rfl,rfl⟩),⟨_,_,_,rfl,rfl,rfl⟩⟩
  ·have:=List.all_eq_true.mp hv x hx
   rw [Bool.or_eq_true] at this
   exact this.elim (fun z=>.inl (eq_of_beq z)) fun z=>.inr (.inl (eq_of_beq z))
  ·rcases hx with hx|hx
   ·exact F0 hx
   ·exact absurd rfl (S.nofree _ (PySem.mem_of_lookup hx))
  ·have FI:=T.fn x i (PySem.mem_of_lookup e)
   exact⟨FI.at_,FI.kp,FI.ok,hr.mono FI.le,FI.binds,FI.vals⟩
  ·exact T.val x v u (PySem.mem_of_lookup e)
  ·exact T.bl x (by have hx':bl.contains x=true:=hx;simpa using hx')
  ·have EI:=T.exc x C oi (PySem.mem_of_lookup e)
   refine⟨EI.at_,EI.kp,EI.cls,?_⟩
   cases oi with
   | none=>exact EI.init
   | some i=>obtain⟨a,b,c,d,e,f,g⟩:=EI.init;exact⟨a,b,⟨c,d,hr.mono (by omega),f,g⟩,hr.mono e⟩
  ·have CI:=T.cls x C oi (PySem.mem_of_lookup e)
   refine⟨CI.at_,CI.kp,?_⟩
   cases oi with
   | none=>exact CI.made
   | some i=>obtain⟨a,b,c,d,e⟩:=CI.made;exact⟨a,b,c,⟨d.kp,d.ok,hr.mono d.le,d.binds,d.vals⟩,hr.mono e⟩
  ·obtain⟨x,hx⟩:=Bw e
   have MI:=T.met x m l hx mi hm
   exact⟨MI.cls,MI.at_,⟨MI.fi.kp,MI.fi.ok,hr.mono MI.fi.le,MI.fi.binds,MI.fi.vals⟩⟩
 refine⟨_,(ah7 n _ _ O).2 (Ah st) (fun _ _ _=>False) (fun _ _ _ _ _ _ _ h=>h.elim),?_⟩
 rw [rd]
 exact hbody vs H Q E h
end
theorem Same.upd {H:Hp} {a:Addr} {o:HO} (h:H a=none):Same H (upd H a o):=fun b u e=>by rw [Af (Ae e h)];exact e
theorem Same.set {H H':Hp} {a:Addr} {o:HO} (s:Same H H') (h:H a=none):Same H (L2.upd H' a o):=fun b u e=>by rw [Af (Ae e h)];exact s b u e
theorem Same.seqT {K:PySem.W.Frag} {H H':Hp} {a:Addr} {xs:List V} (e:Same H H') (h:SqT K H a xs):SqT K H' a xs:=by
 rcases h with (h|⟨o,h⟩)|h
 ·exact .inl (.inl (e _ _ h))
 ·exact .inl (.inr ⟨o,e _ _ h⟩)
 ·exact .inr h
structure D9 (J:It) (its:List V) (ok:Hp->Prop):Prop where
 go:∀ i H,ok H->i<its.length->J.go i H
 stop:∀ H,ok H->J.stop its.length H
 yld:∀ i H x H',ok H->i<its.length->J.yld i H x H'->H'=H/\its[i]? = some x
structure Hv (J:It) (its:List (V×V)) (ok:Hp->Prop):Prop where
 go:∀ i H,ok H->i<its.length->J.go i H
 stop:∀ H,ok H->J.stop its.length H
 yld:∀ i H v H',ok H->i<its.length->J.yld i H v H' -> ∃ T x y,H T=none/\v=.ref T/\its[i]? = some (x,y)/\H'=upd H T (.tup [x,y])
def Dq (z:Str):List V:=z.cps.toList.map fun c=>V.str ⟨#[c]⟩
theorem Zp (z:Str):D9 (Its z) (Dq z) (fun _=>True):=by
 have e:(Dq z).length=z.cps.size:=by unfold Dq;simp
 refine⟨fun i H _ h=>?_,fun H _=>?_,fun i H x H' _ _ h=>?_⟩
 ·show i<z.cps.size;omega
 ·show (Dq z).length=z.cps.size;exact e
 ·obtain⟨h1,c,h2,h3⟩:=h
  refine⟨h1,?_⟩
  unfold Dq
  rw [List.getElem?_map,Array.getElem?_toList,h2,h3]
  rfl
theorem Bl {K:PySem.W.Frag} {a:Addr} (xs:List V):D9 (Itl K a) xs (fun H=>SqL K H a xs):=by
 refine⟨fun i H q h=>⟨xs,xs[i],q,by simp [h]⟩,fun H q=>⟨xs,q,Nat.le_refl _⟩,fun i H x H' q _ h=>?_⟩
 obtain⟨h1,h2⟩:=h
 exact⟨h1,h2 xs q⟩
theorem Zq {K:PySem.W.Frag} {a:Addr} (xs:List V):D9 (Itt K a) xs (fun H=>SqT K H a xs):=by
 refine⟨fun i H q h=>⟨xs,xs[i],q,by simp [h]⟩,fun H q=>⟨xs,q,Nat.le_refl _⟩,fun i H x H' q _ h=>?_⟩
 obtain⟨h1,h2⟩:=h
 exact⟨h1,h2 xs q⟩
def rngV (lo:Int) (n:Nat):List V:=(List.range n).map fun (i:Nat)=>V.int (lo+(i:Int))
theorem Ci (lo:Int) (n:Nat):(rngV lo n).length=n:=by unfold rngV;simp
theorem Pg {lo:Int} {n i:Nat} (h:i<n):(rngV lo n)[i]? = some (.int (lo+(i:Int))):=by unfold rngV;simp [h]
theorem D8 (lo:Int) (n:Nat):D9 (Itr lo n) (rngV lo n) (fun _=>True):=by
 refine⟨fun i H _ h=>?_,fun H _=>?_,fun i H x H' _ hi h=>?_⟩
 ·rw [Ci] at h;exact h
 ·show n<=(rngV lo n).length;rw [Ci];exact Nat.le_refl _
 ·obtain⟨h1,h2⟩:=h
  rw [Ci] at hi
  exact⟨h1,by rw [Pg hi,h2]⟩
def Dr:Nat->List V->List (V×V)
 | _,[]=>[]
 | k,x::r=>(.int k,x)::Dr (k+1) r
theorem Ba:∀ (k:Nat) (xs:List V),(Dr k xs).length=xs.length
 | _,[]=>rfl
 | k,_::r=>by rw [Dr,List.length_cons,List.length_cons,Ba (k+1) r]
theorem Cn:∀ {k i:Nat} {xs:List V} {x:V},xs[i]? = some x->(Dr k xs)[i]? = some (.int ((k+i:Nat):Int),x)
 | _,_,[],_,h=>by simp at h
 | k,0,y::r,x,h=>by
  simp only [List.getElem?_cons_zero,Option.some.injEq] at h
  subst h
  rfl
 | k,i+1,y::r,x,h=>by
  rw [List.getElem?_cons_succ] at h
  rw [Dr,List.getElem?_cons_succ,Cn h]
  congr 4
  omega
theorem Fh {K:PySem.W.Frag} {a:Addr} (xs:List V):Hv (Ite K a) (Dr 0 xs) (fun H=>SqL K H a xs):=by
 have e:=Ba 0 xs
 refine⟨fun i H q h=>⟨xs,xs[i]'(by omega),q,by simp⟩,fun H q=>⟨xs,q,by omega⟩,fun i H v H' q _ h=>?_⟩
 obtain⟨T,x,hT,h1,h2,h4⟩:=h
 refine⟨T,.int i,x,hT,h1,?_,h4⟩
 have:=Cn (k:=0) (h2 xs q)
 rw [Nat.zero_add] at this
 exact this
section
variable {J:It} {its:List V} {ok:Hp->Prop} {g:DG} {tb:DS} {D:Outs} {σ:St} {H:Hp}
theorem B9 (Y:D9 J its ok) (Pv:Nat->St->Hp->Prop) (h0:Pv 0 σ H) (hok:∀ i σ H,i<=its.length->Pv i σ H->ok H)
  (hs:∀ i x σ H,its[i]? = some x->Pv i σ H->g x σ H fun σ2 H2=>tb { D with nx:=Pv (i+1),ct:=Pv (i+1),bk:=D.nx } σ2 H2) (hd:∀ σ H,Pv its.length σ H->D.nx σ H):ForW J g tb D σ H:=by
 refine⟨fun i m σ H=>m=its.length - i/\i<=its.length/\Pv i σ H,⟨its.length,by simp,Nat.zero_le _,h0⟩,?_⟩
 rintro i m σ H ⟨rfl,hi,p⟩
 by_cases hlt:i<its.length
 ·refine .inr ⟨Y.go i H (hok i σ H hi p) hlt,Pv (i+1),fun σ' H' p'=>⟨its.length - (i+1),by omega,rfl,hlt,p'⟩,fun x H' y=>?_⟩
  obtain⟨e,y2⟩:=Y.yld i H x H' (hok i σ H hi p) hlt y
  subst e
  exact hs i x σ _ y2 p
 ·have e:i=its.length:=by omega
  subst e
  exact .inl ⟨Y.stop H (hok _ σ H hi p),hd σ H p⟩
theorem Gc {its:List (V×V)} (Y:Hv J its ok) (Pv:Nat->St->Hp->Prop) (h0:Pv 0 σ H) (hok:∀ i σ H,i<=its.length->Pv i σ H->ok H)
  (hs:∀ i x y T σ H,its[i]? = some (x,y)->H T=none->Pv i σ H->g (.ref T) σ (upd H T (.tup [x,y])) fun σ2 H2=>tb { D with nx:=Pv (i+1),ct:=Pv (i+1),bk:=D.nx } σ2 H2) (hd:∀ σ H,Pv its.length σ H->D.nx σ H):ForW J g tb D σ H:=by
 refine⟨fun i m σ H=>m=its.length - i/\i<=its.length/\Pv i σ H,⟨its.length,by simp,Nat.zero_le _,h0⟩,?_⟩
 rintro i m σ H ⟨rfl,hi,p⟩
 by_cases hlt:i<its.length
 ·refine .inr ⟨Y.go i H (hok i σ H hi p) hlt,Pv (i+1),fun σ' H' p'=>⟨its.length - (i+1),by omega,rfl,hlt,p'⟩,fun x H' y=>?_⟩
  obtain⟨T,u,v,hT,e1,e2,e3⟩:=Y.yld i H x H' (hok i σ H hi p) hlt y
  subst e1 e3
  exact hs i u v T σ _ e2 hT p
 ·have e:i=its.length:=by omega
  subst e
  exact .inl ⟨Y.stop H (hok _ σ H hi p),hd σ H p⟩
variable {tc:DT} {te:DE} {L:Addr} {R:Hp->Prop} {E:EK}
theorem C7 (Y:D9 J its ok) (Pv:Nat->St->Hp->Prop) (h0:Pv 0 σ H) (hok:∀ i σ H,i<=its.length->Pv i σ H->ok H)
  (hs:∀ i x σ H,its[i]? = some x->Pv i σ H->g x σ H fun σ3 H3=>tc σ3 H3 (fun b H4=>if b=true then te σ3 H4 (fun v H5=>∃ ys,H5 L=some (.lst ys)/\ys.length<sizeLine/\Pv (i+1) σ3 (upd H5 L (.lst (ys++[v])))) E else Pv (i+1) σ3 H4) E)
  (hd:∀ σ H,Pv its.length σ H->R H):CmpW J g tc te L R σ H E:=by
 refine⟨fun i m σ H=>m=its.length - i/\i<=its.length/\Pv i σ H,⟨its.length,by simp,Nat.zero_le _,h0⟩,?_⟩
 rintro i m σ H ⟨rfl,hi,p⟩
 by_cases hlt:i<its.length
 ·refine .inr ⟨Y.go i H (hok i σ H hi p) hlt,Pv (i+1),fun σ' H' p'=>⟨its.length - (i+1),by omega,rfl,hlt,p'⟩,fun x H' y=>?_⟩
  obtain⟨e,y2⟩:=Y.yld i H x H' (hok i σ H hi p) hlt y
  subst e
  exact hs i x σ _ y2 p
 ·have e:i=its.length:=by omega
  subst e
  exact .inl ⟨Y.stop H (hok _ σ H hi p),hd σ H p⟩
theorem Rs {its:List (V×V)} (Y:Hv J its ok) (Pv:Nat->St->Hp->Prop) (h0:Pv 0 σ H) (hok:∀ i σ H,i<=its.length->Pv i σ H->ok H)
  (hs:∀ i x y T σ H,its[i]? = some (x,y)->H T=none->Pv i σ H->g (.ref T) σ (upd H T (.tup [x,y])) fun σ3 H3=>tc σ3 H3 (fun b H4=>if b=true then te σ3 H4 (fun v H5=>∃ ys,H5 L=some (.lst ys)/\ys.length<sizeLine/\Pv (i+1) σ3 (upd H5 L (.lst (ys++[v])))) E else Pv (i+1) σ3 H4) E)
  (hd:∀ σ H,Pv its.length σ H->R H):CmpW J g tc te L R σ H E:=by
 refine⟨fun i m σ H=>m=its.length - i/\i<=its.length/\Pv i σ H,⟨its.length,by simp,Nat.zero_le _,h0⟩,?_⟩
 rintro i m σ H ⟨rfl,hi,p⟩
 by_cases hlt:i<its.length
 ·refine .inr ⟨Y.go i H (hok i σ H hi p) hlt,Pv (i+1),fun σ' H' p'=>⟨its.length - (i+1),by omega,rfl,hlt,p'⟩,fun x H' y=>?_⟩
  obtain⟨T,u,v,hT,e1,e2,e3⟩:=Y.yld i H x H' (hok i σ H hi p) hlt y
  subst e1 e3
  exact hs i u v T σ _ e2 hT p
 ·have e:i=its.length:=by omega
  subst e
  exact .inl ⟨Y.stop H (hok _ σ H hi p),hd σ H p⟩
theorem Ep {α β:Type} {its:List α} {i:Nat} {x:α} (h:its[i]? = some x) (p:α->Bool) (f:α->β):((its.take (i+1)).filter p).map f=((its.take i).filter p).map f++(if p x=true then [f x] else []):=by
 rw [List.take_add_one,h]
 simp only [Option.toList_some,List.filter_append,List.map_append]
 congr 1
 cases e:p x <;> simp [e]
theorem Mo (Y:D9 J its ok) (Sg:St->Prop) (p:V->Bool) (f:V->V) (h0:H L=none) (hok:∀ H1,Same H H1->ok H1) (hn:its.length<sizeLine) (hσ:Sg σ)
  (hs:∀ x σ H1,x∈its->Sg σ->Same H H1 -> ∀ (Fin:V->St->Hp->Prop) (Skip:St->Hp->Prop),(∀ v σ3 H5,Sg σ3->Same H1 H5->p x=true->v=f x->Fin v σ3 H5)->(∀ σ3 H4,Sg σ3->Same H1 H4->p x=false->Skip σ3 H4) ->
   g x σ H1 fun σ3 H3=>tc σ3 H3 (fun b H4=>if b=true then te σ3 H4 (fun v H5=>Fin v σ3 H5) E else Skip σ3 H4) E)
  (hd:∀ H',Same H H'->H' L=some (.lst ((its.filter p).map f))->R H'):CmpW J g tc te L R σ (upd H L (.lst [])) E:=by
 refine C7 Y (fun i σ' H'=>Sg σ'/\Same H H'/\H' L=some (.lst (((its.take i).filter p).map f))) ⟨hσ,Same.upd h0,Ab⟩ (fun i σ' H' _ q=>hok H' q.2.1) ?_ ?_
 ·rintro i x σ' H' hx ⟨q1,q2,q3⟩
  have hi:i<its.length:=(List.getElem?_eq_some_iff.mp hx).1
  refine hs x σ' H' (List.mem_of_getElem? hx) q1 q2 (fun v σ3 H5=>∃ ys,H5 L=some (.lst ys)/\ys.length<sizeLine/\Sg σ3/\Same H (upd H5 L (.lst (ys++[v])))/\upd H5 L (.lst (ys++[v])) L=some (.lst (((its.take (i+1)).filter p).map f)))
   (fun σ3 H4=>Sg σ3/\Same H H4/\H4 L=some (.lst (((its.take (i+1)).filter p).map f))) (fun v σ3 H5 s1 s2 hp hv=>?_) (fun σ3 H4 s1 s2 hp=>?_)
  ·refine⟨_,s2 _ _ q3,?_,s1,(q2.trans s2).set h0,?_⟩
   ·rw [List.length_map]
    have h1:=List.length_filter_le p (its.take i)
    have h2:(its.take i).length<=i:=by rw [List.length_take];omega
    omega
   ·rw [Ab,Ep hx,if_pos hp,hv]
  ·refine⟨s1,q2.trans s2,?_⟩
   rw [s2 _ _ q3,Ep hx,if_neg (by rw [hp];exact Bool.false_ne_true),List.append_nil]
 ·rintro σ' H' ⟨_,q2,q3⟩
  rw [List.take_length] at q3
  exact hd H' q2 q3
end
section
variable {K:PySem.W.Frag} {H H':Hp}
theorem Same.seqL {a:Addr} {xs:List V} (e:Same H H') (h:SqL K H a xs):SqL K H' a xs:=by
 rcases h with (h|⟨o,h⟩)|h
 ·exact .inl (.inl (e _ _ h))
 ·exact .inl (.inr ⟨o,e _ _ h⟩)
 ·exact .inr h
mutual
theorem Bi (S:Same H H'):∀ {d:Dt} {x:V},At K H d x->At K H' d x
 | .at_ v,x,h=>by unfold At at h ⊢;exact h
 | .lst l,x,h=>by unfold At at h ⊢;obtain⟨a,xs,e,q,h⟩:=h;exact⟨a,xs,e,S.seqL q,Bn S h⟩
 | .tup l,x,h=>by unfold At at h ⊢;obtain⟨a,xs,e,q,h⟩:=h;exact⟨a,xs,e,S.seqT q,Bn S h⟩
theorem Bn (S:Same H H'):∀ {ds:List Dt} {xs:List V},AtL K H ds xs->AtL K H' ds xs
 | [],xs,h=>by unfold AtL at h ⊢;exact h
 | d::ds,xs,h=>by unfold AtL at h ⊢;obtain⟨y,ys,e,h1,h2⟩:=h;exact⟨y,ys,e,Bi S h1,Bn S h2⟩
end
theorem Rm:∀ {ds:List Dt} {xs:List V} {i:Nat} {d:Dt},AtL K H ds xs->ds[i]? = some d -> ∃ y,xs[i]? = some y/\At K H d y
 | [],_,_,_,_,e=>by simp at e
 | c::ds,xs,0,d,h,e=>by
  unfold AtL at h
  obtain⟨y,ys,rfl,h1,h2⟩:=h
  rw [List.getElem?_cons_zero] at e
  cases e
  exact⟨y,rfl,h1⟩
 | c::ds,xs,i+1,d,h,e=>by
  unfold AtL at h
  obtain⟨y,ys,rfl,h1,h2⟩:=h
  rw [List.getElem?_cons_succ] at e
  obtain⟨z,e1,e2⟩:=Rm h2 e
  exact⟨z,by rw [List.getElem?_cons_succ];exact e1,e2⟩
theorem Bb:AtL K H [] []:=by unfold AtL;rfl
theorem Av {d:Dt} {ds:List Dt} {x:V} {xs:List V} (h:At K H d x) (t:AtL K H ds xs):AtL K H (d::ds) (x::xs):=by unfold AtL;exact⟨x,xs,rfl,h,t⟩
theorem Me:∀ {ds:List Dt} {xs:List V} {es:List Dt} {ys:List V},AtL K H ds xs->AtL K H es ys->AtL K H (ds++es) (xs++ys)
 | [],_,_,_,h,g=>by unfold AtL at h;rw [h];exact g
 | c::ds,xs,es,ys,h,g=>by
  unfold AtL at h
  obtain⟨y,zs,rfl,h1,h2⟩:=h
  exact Av h1 (Me h2 g)
theorem N0:∀ {n:Nat} {ds:List Dt} {xs:List V},AtL K H ds xs->AtL K H (ds.drop n) (xs.drop n)
 | 0,_,_,h=>h
 | n+1,[],_,h=>by unfold AtL at h;rw [h];exact Bb
 | n+1,c::ds,xs,h=>by
  unfold AtL at h
  obtain⟨y,zs,rfl,h1,h2⟩:=h
  show AtL K H (ds.drop n) (zs.drop n)
  exact N0 h2
def strD (z:Str):Dt:=.at_ (.str z)
theorem Ce {z:Str}:At K H (strD z) (.str z):=by unfold strD At;exact⟨rfl,rfl⟩
theorem Fy:∀ {r:List Str},AtL K H (r.map strD) (r.map V.str)
 | []=>Bb
 | _::_=>Av Ce Fy
theorem Kv:∀ {r:List Str} {xs:List V},AtL K H (r.map strD) xs->xs=r.map V.str
 | [],xs,h=>by unfold List.map AtL at h;exact h
 | z::r,xs,h=>by
  rw [List.map_cons] at h
  unfold AtL at h
  obtain⟨y,ys,rfl,h1,h2⟩:=h
  unfold strD At at h1
  rw [h1.1,Kv h2]
  rfl
theorem Zt {a:Addr} {r:List Str} (h:SqT K H a (r.map V.str)):At K H (.tup (r.map strD)) (.ref a):=by unfold At;exact⟨a,_,rfl,h,Fy⟩
theorem C2 {a:Addr} {r:List Str} (h:SqL K H a (r.map V.str)):At K H (.lst (r.map strD)) (.ref a):=by unfold At;exact⟨a,_,rfl,h,Fy⟩
theorem Mh {a:Addr} {ds:List Dt} {xs:List V} (h:SqT K H a xs) (g:AtL K H ds xs):At K H (.tup ds) (.ref a):=by unfold At;exact⟨a,xs,rfl,h,g⟩
theorem Ea {a:Addr} {ds:List Dt} {xs:List V} (h:SqL K H a xs) (g:AtL K H ds xs):At K H (.lst ds) (.ref a):=by unfold At;exact⟨a,xs,rfl,h,g⟩
theorem Zs {v:V} (f:Bx v=true):At K H (.at_ v) v:=by unfold At;exact⟨rfl,f⟩
end
theorem Iy {α:Type} {f:α->Dt} {n:Nat} (h:∀ a,dep (f a)<=n):∀ (l:List α),deps (l.map f)<=n
 | []=>by unfold List.map deps;exact Nat.zero_le _
 | a::l=>by
  rw [List.map_cons]
  unfold deps
  exact Nat.max_le.mpr ⟨h a,Iy h l⟩
theorem Ax (z:Str):dep (strD z)<=0:=by unfold strD dep;exact Nat.le_refl _
section
variable {K:PySem.W.Frag} {H H':Hp}
end
end L2
namespace L2
open PySem PySem.Spec PySem.W
structure XC (K:PySem.W.Frag) (C:Addr) (bm:List Value):Prop where
 lk:∃ nm q N bs sn sub ab col dd k0 k1 k2 k3 k5,K.lookup C=some (excClassObj nm q C N bs bm true sn sub ab col dd k0 k1 k2 k3 k5 "ValueError.__new__")
 ty:typeIn K (.ref C)=some (.type "type")
 sa:findIn K (.ref C) "__setattr__" = some (some (.builtin "object.__setattr__"))
 ga:findIn K (.ref C) "__getattribute__" = some (some (.builtin "BaseException.__getattribute__"))
 gt:findIn K (.ref C) "__getattr__" = some none
 ca:findIn K (.ref C) "__class__" = some (some (.builtin "object.__class__"))
 hn:specialIn K (.builtin "object.__class__") "__get__" = some (some (.builtin "getset_descriptor.__get__"))
 htk:takesIn K (.builtin "object.__class__")=some true
theorem xc_mk {K:PySem.W.Frag} {C N:Addr} {bm bs:List Value} {nm q:Str} {sn:List Str} {sub:List Value} {ab:Bool} {col:Option Bool} {dd:Option Addr} {k0 k1 k2 k3 k5:Option Value}
  (lk:K.lookup C=some (excClassObj nm q C N bs bm true sn sub ab col dd k0 k1 k2 k3 k5 "ValueError.__new__")) (ty:typeIn K (.ref C)=some (.type "type")) (sa:findIn K (.ref C) "__setattr__" = some (some (.builtin "object.__setattr__")))
  (ga:findIn K (.ref C) "__getattribute__" = some (some (.builtin "BaseException.__getattribute__"))) (gt:findIn K (.ref C) "__getattr__" = some none) (ca:findIn K (.ref C) "__class__" = some (some (.builtin "object.__class__")))
  (hn:specialIn K (.builtin "object.__class__") "__get__" = some (some (.builtin "getset_descriptor.__get__"))) (htk:takesIn K (.builtin "object.__class__")=some true):XC K C bm:=⟨⟨_,_,_,_,_,_,_,_,_,_,_,_,_,_,lk⟩,ty,sa,ga,gt,ca,hn,htk⟩
theorem XC.ecls {K:PySem.W.Frag} {C:Addr} {bm:List Value} (x:XC K C bm) (h:A9 bm=true):ECls K C:=by
 obtain⟨nm,q,N,bs,sn,sub,ab,col,dd,k0,k1,k2,k3,k5,lk⟩:=x.lk
 exact⟨⟨_,_,_,_,bm,true,_,_,_,_,_,_,_,_,_,_,lk,h,rfl⟩,x.sa,x.ga,x.gt,x.ca,x.hn,x.htk⟩
theorem XC.cls {K:PySem.W.Frag} {C:Addr} {bm:List Value} (x:XC K C bm):∃ cd,clsIn K C=some cd/\cd.mro=.ref C::bm:=by
 obtain⟨nm,q,N,bs,sn,sub,ab,col,dd,k0,k1,k2,k3,k5,lk⟩:=x.lk
 exact⟨_,by unfold clsIn;rw [lk],rfl⟩
theorem XC.kit {K:PySem.W.Frag} {C D:Addr} {bm bd:List Value} (x:XC K C bm) (y:XC K D bd) {b:Bool} (h:(Value.ref C::bm).contains (.ref D)=b):kitOne K (.ref C) (.ref D)=some b:=by
 obtain⟨cd,h1,h2⟩:=x.cls
 obtain⟨cd',h3,_⟩:=y.cls
 unfold kitOne
 by_cases e:(Value.ref C==Value.ref D)=true
 ·rw [if_pos e]
  have e':Value.ref D=Value.ref C:=(eq_of_beq e).symm
  rw [<- h,List.contains_cons,e']
  simp
 ·rw [if_neg e]
  unfold kitCls
  dsimp only
  rw [h3,y.ty,if_pos (by rfl)]
  show mroIn K C (.ref D)=_
  unfold mroIn
  rw [h1,Option.bind_some,h2,h]
  rfl
theorem XC.kitV {K:PySem.W.Frag} {C:Addr} {bm:List Value} (x:XC K C bm) (h:A9 bm=true):kitOne K (.ref C) (.type "ValueError")=some true:=by
 unfold kitOne
 rw [if_neg (by intro z;cases z)]
 unfold kitCls
 dsimp only
 rw [if_pos (by decide +kernel)]
 exact (x.ecls h).sub (by decide +kernel)
theorem Hj {K:PySem.W.Frag} {fd:FuncData} {ps:List Str} {T:Addr} {o:Obj} {items:Array Value} {n:Nat} {ds:List Value} (m:Nat) (hd:fd.defaults=.ref T) (ho:K.lookup T=some o) (hs:o.data=.seq items n) (hm:m+ds.length=ps.length)
  (h:∀ us:List Value,us.length=m -> ∃ k:Option (Array Value)->Sem (List (Str×Value)),bindArgs fd ⟨us,[]⟩=seqItems? fd.defaults >>= k/\k (some items)=pure (ps.zip (us++ds))):Binds K fd ps ds:=
 P4 hd ho hs fun us hl=>h us (by rw [List.length_append] at hl;omega)
end L2
namespace L2
open PySem PySem.Spec PyProof.Rows
open Sem (wp)
section
variable {X:Cx} {pins:List (Addr×Obj)} {σ:St} {H:Hp} {s:Shared} {a C:Addr} {dx:Option Addr} {h':Heap}
theorem Js (X:Cx):Kt (CXE X.prog X.w) X:=by
 intro Ex m pins σ H s e s' I h
 obtain⟨a,H',rfl,os,bare,u,hok,F,a',e',hE⟩:=h
 cases e'
 have I':=I.call' os u hok bare (fun b z=>absurd z (by simp))
 obtain⟨C,dx,vs,T,oT,ts,h1,h2,h3,h4,h5,h6,h7,h8,h9,h10⟩:=F
 exact m pins σ H' s' a I' ⟨C,dx,vs,h1,h2,h3,.inr ⟨T,oT,ts,h4,h5,h6,h7,⟨_,h8⟩,I.fpOk h9 h10⟩⟩ hE
end
section
variable {P:Program} {w:World} {K:PySem.W.Frag} {mg:Str->Option Value} {base:Heap}
theorem U1 {N:List Str} {qual:Str} {scope:Scope} {f:Addr} {cdv:Value} {A:Around} {outer:List Env} {s:Shared} {H:Hp} {E:XK} :
  Ca (cxOf (CXE P w) P w K mg base N qual scope f cdv A outer s H E) (fun _ a H'=>E (.ref a) none H'):=by
 intro pins σ H1 s1 a I F hE
 refine wpAny_bind (Sn (X:=cxOf (CXE P w) P w K mg base N qual scope f cdv A outer s H E) I rfl rfl F fun s' I' F'=>?_)
 obtain⟨C,dx,vs,T,oT,ts,h1,h2,h3,q1,q2,q3,q4,q5,q6⟩:=F'
 exact⟨a,H1,rfl,I'.os,I'.bare,I'.base,I'.hok,⟨C,dx,vs,T,oT,ts,h1,h2,h3,q1,q2,q3,q4,q5,q6.2.2.2.1.elim (fun z=>absurd z (by simp [cxOf])) id,q6.1⟩,hE⟩
def Of (Q:VK) (E:XK):Outs:=⟨fun _ H'=>Q .non H',Q,fun _ _=>False,fun _ _=>False,fun _ a H'=>E (.ref a) none H'⟩
theorem FunD.okWX {x qual:Str} {st:Stmt} {f:Addr} {fd:FuncData} {N ps:List Str} {k n:Nat} {sp:Sp} {gb:List (Str×GB)} {bl:List Str} {t:DS} {dV:Value} (F:FunD K x qual st f fd dV) (S:Ak N ps (Ac st)) (hv:Ay N (Ac st)=true)
  (T:Tab P w K mg base k gb bl) (rd:wSs n (defG K N (Ac st) gb bl) (Ah st)=t) (len:∀ vs H Q E,sp vs H Q E->vs.length=ps.length)
  (hbody:∀ (vs:List V) (H:Hp) (Q:VK) (E:XK),sp vs H Q E->t (Of Q E) (Fk N vs) H):FnOk P w K mg base (CXE P w) (k+1) f fd ps sp:=by
 obtain⟨oc,od,kV,doc,pm,an,cdv,ct,osl,rfl,lk,hcd⟩:=F.ex
 refine af3 lk hcd S len fun A outer s H vs Q E hr h=>?_
 have O:GOk (cxOf (CXE P w) P w K mg base N qual (Ac st) f cdv A outer s H E) (defG K N (Ac st) gb bl):=by
  refine⟨rfl,S.kind,(fun _=>PassesOwn.leaving),rfl,S.nd,fun x=>rfl,fun x hx=>?_,fun _ _=>rfl,rfl,(fun _=>hr.hd),hr.units,fun x hx=>?_,fun x i e=>?_,fun x v u e=>?_,fun x hx=>?_,fun x C oi e=>?_,fun x C oi e=>?_,fun m l e mi hm=>?_,(fun _=>⟨rfl,rfl⟩),⟨_,_,_,rfl,rfl,rfl⟩⟩
  ·have:=List.all_eq_true.mp hv x hx
   rw [Bool.or_eq_true] at this
   exact this.elim (fun z=>.inl (eq_of_beq z)) fun z=>.inr (.inl (eq_of_beq z))
  ·rcases hx with hx|hx
   ·exact F0 hx
   ·exact absurd rfl (S.nofree _ (PySem.mem_of_lookup hx))
  ·have FI:=T.fn x i (PySem.mem_of_lookup e)
   exact⟨FI.at_,FI.kp,FI.ok,hr.mono FI.le,FI.binds,FI.vals⟩
  ·exact T.val x v u (PySem.mem_of_lookup e)
  ·exact T.bl x (by have hx':bl.contains x=true:=hx;simpa using hx')
  ·have EI:=T.exc x C oi (PySem.mem_of_lookup e)
   refine⟨EI.at_,EI.kp,EI.cls,?_⟩
   cases oi with
   | none=>exact EI.init
   | some i=>obtain⟨a,b,c,d,e,f,g⟩:=EI.init;exact⟨a,b,⟨c,d,hr.mono (by omega),f,g⟩,hr.mono e⟩
  ·have CI:=T.cls x C oi (PySem.mem_of_lookup e)
   refine⟨CI.at_,CI.kp,?_⟩
   cases oi with
   | none=>exact CI.made
   | some i=>obtain⟨a,b,c,d,e⟩:=CI.made;exact⟨a,b,c,⟨d.kp,d.ok,hr.mono d.le,d.binds,d.vals⟩,hr.mono e⟩
  ·obtain⟨x,hx⟩:=Bw e
   have MI:=T.met x m l hx mi hm
   exact⟨MI.cls,MI.at_,⟨MI.fi.kp,MI.fi.ok,hr.mono MI.fi.le,MI.fi.binds,MI.fi.vals⟩⟩
 refine⟨_,(ah7 n _ _ O).2 (Ah st) (fun _ a H'=>E (.ref a) none H') U1,?_⟩
 rw [rd]
 exact hbody vs H Q E h
end
end L2
namespace Pn
open PySem L2
abbrev Sw:=List (Str×List Str)
def B5 (c:Nat):Bool:=decide (97<=c)&&decide (c<=122)
def okW (z:Str):Prop:=1<=z.length/\z.length<=8/\z.cps.toList.all B5=true
def okL (l:List Str):Prop:=(∀ z∈l,okW z)/\l.Nodup/\l.length<=8
def Dd (l:List Str):Prop:=okL l/\2<=l.length/\l.length<=4
def A8 (sw:Sw):Nat:=sw.foldl (fun n x=>n * x.2.length) 1
def okSw (sw:Sw):Prop:=1<=sw.length/\sw.length<=5/\(sw.map (·.1)).Nodup/\(∀ x∈sw,okW x.1/\Dd x.2)/\A8 sw<=256
def Cm (acc:List (List Str)) (x:Str×List Str):List (List Str):=acc.flatMap fun a=>x.2.map fun z=>a++[z]
def Ai (sw:Sw):List (List Str):=sw.foldl Cm [[]]
def setM (ns:List Nat):Int:=ns.foldl (fun (c:Int) n=>Builtin.bitOr c (2 ^ n)) 0
def Ft (ms:List Int):Int:=ms.foldl (fun c m=>Builtin.bitOr c m) 0
def havM (p:Nat) (z:Str):Nat->List (List Str)->List Nat
 | _,[]=>[]
 | k,r::rs=>if r[p]? = some z then k::havM p z (k+1) rs else havM p z (k+1) rs
def Dj (rows:List (List Str)) (p:Nat) (z:Str):Int:=setM (havM p z 0 rows)
def Cu (sw:Sw) (w:Str):Nat:=sw.findIdx fun x=>decide (x.1=w)
def Dm (sw:Sw) (e:Str×List Str):Int:=Ft (e.2.map (Dj (Ai sw) (Cu sw e.1)))
def allM (sw:Sw):Int:=2 ^ (Ai sw).length - 1
def boxM (sw:Sw) (rule:Sw):Int:=rule.foldl (fun c e=>Builtin.bitAnd c (Dm sw e)) (allM sw)
def Hi (sw:Sw) (rules:List Sw):List Int:=rules.map (boxM sw)
def Cz (sw:Sw) (rules:List Sw):Int:=Builtin.bitAnd (allM sw) (Builtin.bitNot (Ft (Hi sw rules)))
def B1 (sw:Sw) (e:Str×List Str):Prop:=e.2≠[]/\okL e.2 /\ ∃ x∈sw,x.1=e.1 /\ ∀ z∈e.2,z∈x.2
def Dc (sw:Sw) (rule:Sw):Prop:=rule≠[]/\rule.length<=100/\(rule.map (·.1)).Nodup /\ ∀ e∈rule,B1 sw e
theorem Hg (acc:List (List Str)) (x:Str×List Str):(Cm acc x).length=acc.length * x.2.length:=by
 unfold Cm
 induction acc with
 | nil=>simp
 | cons a acc ih=>rw [List.flatMap_cons,List.length_append,ih,List.length_map,List.length_cons,Nat.add_mul,Nat.one_mul,Nat.add_comm]
theorem Gi:∀ (sw:Sw) (acc:List (List Str)),(sw.foldl Cm acc).length=sw.foldl (fun n x=>n * x.2.length) acc.length
 | [],_=>rfl
 | x::sw,acc=>by rw [List.foldl_cons,List.foldl_cons,Gi sw,Hg]
theorem Gh (sw:Sw):(Ai sw).length=A8 sw:=Gi sw [[]]
def Jr (k:Nat) (rs:List (List Str)):Prop:=rs.Nodup/\(∀ r∈rs,r.length=k) /\ ∀ r∈rs,∀ z∈r,okW z
theorem Y9 {k:Nat} {acc:List (List Str)} {x:Str×List Str} (h:Jr k acc) (hx:Dd x.2):Jr (k+1) (Cm acc x):=by
 obtain⟨h1,h2,h3⟩:=h
 refine⟨?_,?_,?_⟩
 ·unfold Cm
  clear h3
  induction acc with
  | nil=>exact List.nodup_nil
  | cons a acc ih=>
   rw [List.flatMap_cons,List.nodup_append]
   rw [List.nodup_cons] at h1
   refine⟨?_,ih h1.2 (fun r hr=>h2 r (List.mem_cons_of_mem _ hr)),?_⟩
   ·refine List.Pairwise.map _ ?_ hx.1.2.1
    intro y z ne e
    exact ne (by simpa using e)
   ·intro r hr q hq e
    subst e
    obtain⟨y,hy,rfl⟩:=List.mem_map.mp hr
    obtain⟨b,hb,hq⟩:=List.mem_flatMap.mp hq
    obtain⟨z,hz,e⟩:=List.mem_map.mp hq
    have:b=a/\z=y:=by simpa using e
    rw [this.1] at hb
    exact h1.1 hb
 ·intro r hr
  obtain⟨b,hb,hq⟩:=List.mem_flatMap.mp hr
  obtain⟨z,hz,rfl⟩:=List.mem_map.mp hq
  rw [List.length_append,h2 b hb]
  rfl
 ·intro r hr y hy
  obtain⟨b,hb,hq⟩:=List.mem_flatMap.mp hr
  obtain⟨z,hz,rfl⟩:=List.mem_map.mp hq
  rcases List.mem_append.mp hy with hy|hy
  ·exact h3 b hb y hy
  ·have:y=z:=by simpa using hy
   subst this
   exact hx.1.1 _ hz
theorem Hr:∀ {sw:Sw} {k:Nat} {acc:List (List Str)},Jr k acc->(∀ x∈sw,Dd x.2)->Jr (k+sw.length) (sw.foldl Cm acc)
 | [],_,_,h,_=>h
 | x::sw,k,acc,h,hs=>by
  have:=Hr (Y9 h (hs x (List.mem_cons_self))) (fun y hy=>hs y (List.mem_cons_of_mem _ hy))
  rw [List.foldl_cons,List.length_cons,show k+(sw.length+1)=k+1+sw.length by omega]
  exact this
theorem Gj {sw:Sw} (h:∀ x∈sw,Dd x.2):Jr sw.length (Ai sw):=by
 have:=Hr (sw:=sw) (k:=0) (acc:=[[]]) ⟨by simp,by simp,by simp⟩ h
 rwa [Nat.zero_add] at this
theorem B3:∀ {sw:Sw} {n:Nat},1<=n->(∀ x∈sw,Dd x.2)->n<=sw.foldl (fun n x=>n * x.2.length) n
 | [],n,_,_=>Nat.le_refl _
 | x::sw,n,h,hs=>by
  rw [List.foldl_cons]
  have h2:2<=x.2.length:=(hs x List.mem_cons_self).2.1
  have:n<=n * x.2.length:=Nat.le_mul_of_pos_right _ (by omega)
  exact Nat.le_trans this (B3 (by omega) (fun y hy=>hs y (List.mem_cons_of_mem _ hy)))
theorem okSw.sets {sw:Sw} (h:okSw sw):∀ x∈sw,Dd x.2:=fun x hx=>(h.2.2.2.1 x hx).2
theorem okSw.len {sw:Sw} (h:okSw sw):(Ai sw).length<=256:=by rw [Gh];exact h.2.2.2.2
theorem okSw.pos {sw:Sw} (h:okSw sw):1<=(Ai sw).length:=by rw [Gh];exact B3 (Nat.le_refl 1) h.sets
theorem L6 {sw:Sw} (h:okSw sw) (i:Nat):A8 (sw.take i)<=A8 sw:=by
 conv=>rhs;rw [<- List.take_append_drop i sw]
 unfold A8
 rw [List.foldl_append]
 exact B3 (B3 (Nat.le_refl 1) fun x hx=>h.sets x (List.mem_of_mem_take hx)) fun x hx=>h.sets x (List.mem_of_mem_drop hx)
theorem Da {α β:Type} {l:List α} {i:Nat} {x:α} (h:l[i]? = some x) (f:β->α->β) (b:β):(l.take (i+1)).foldl f b=f ((l.take i).foldl f b) x:=by
 rw [List.take_add_one,h,Option.toList_some,List.foldl_append]
 rfl
theorem C6 {α β:Type} {l:List α} {i:Nat} {x:α} (h:l[i]? = some x) (f:α->β):(l.take (i+1)).map f=(l.take i).map f++[f x]:=by
 rw [List.take_add_one,h,Option.toList_some,List.map_append]
 rfl
abbrev Own (ok:Addr->Prop) (H:Hp) (a:Addr) (o:HO):Prop:=ok a/\H a=some o
abbrev Kp (ok:Addr->Prop) (H:Hp) (ok':Addr->Prop) (H':Hp):Prop:=∀ a o,Own ok H a o->Own ok' H' a o
abbrev fresh (H:Hp):Addr->Prop:=fun a=>H a=none
abbrev any:Addr->Prop:=fun _=>True
theorem Kp.same {ok:Addr->Prop} {H H':Hp} (S:Same H H'):Kp ok H ok H':=fun a o h=>⟨h.1,S _ _ h.2⟩
theorem Kp.any {ok:Addr->Prop} {H:Hp}:Kp ok H Pn.any H:=fun a o h=>⟨trivial,h.2⟩
theorem Kp.weak {ok ok':Addr->Prop} {H:Hp} (h:∀ a,ok a->ok' a):Kp ok H ok' H:=fun a o q=>⟨h a q.1,q.2⟩
theorem Kp.trans {ok1 ok2 ok3:Addr->Prop} {H1 H2 H3:Hp} (h:Kp ok1 H1 ok2 H2) (g:Kp ok2 H2 ok3 H3):Kp ok1 H1 ok3 H3:=fun a o q=>g a o (h a o q)
theorem Vm {H H':Hp} (S:Same H H') {a:Addr} (h:H' a=none):H a=none:=by
 cases e:H a with
 | none=>rfl
 | some o=>rw [S _ _ e] at h;cases h
theorem Kp.fresh {H1 H2 H:Hp} (S:Same H1 H2):Kp (fresh H2) H (Pn.fresh H1) H:=Kp.weak fun a h=>Vm S h
theorem Kp.off {ok:Addr->Prop} {H:Hp} {p:Addr} {o:HO} (h:¬ ok p):Kp ok H ok (upd H p o):=fun a u q=>⟨q.1,by
 have n:a≠p:=fun e=>h (by rw [<- e];exact q.1)
 rw [Af n];exact q.2⟩
abbrev kR (x:(Str×List Str)×Addr):Key×V:=(.inr x.1.1,.ref x.2)
abbrev tupO (r:List Str):HO:=.tup (r.map V.str)
abbrev lstO (r:List Str):HO:=.lst (r.map V.str)
def SwAt (ok:Addr->Prop) (H:Hp) (d:Addr) (sw:Sw):Prop:=∃ ds:List ((Str×List Str)×Addr),ds.map (·.1)=sw/\Own ok H d (.dK (ds.map kR)) /\ ∀ x∈ds,Own ok H x.2 (tupO x.1.2)
def RuleAt (ok:Addr->Prop) (H:Hp) (d:Addr) (sw:Sw):Prop:=∃ ds:List ((Str×List Str)×Addr),ds.map (·.1)=sw/\Own ok H d (.dK (ds.map kR)) /\ ∀ x∈ds,Own ok H x.2 (lstO x.1.2)
def TupsAt (ok:Addr->Prop) (H:Hp) (l:Addr) (rows:List (List Str)):Prop:=∃ ds:List (List Str×Addr),ds.map (·.1)=rows/\Own ok H l (.lst (ds.map fun x=>.ref x.2)) /\ ∀ x∈ds,Own ok H x.2 (tupO x.1)
def Pz (ok:Addr->Prop) (H:Hp) (l:Addr) (rows:List (List Str)):Prop:=∃ ds:List (List Str×Addr),ds.map (·.1)=rows/\Own ok H l (.lst (ds.map fun x=>.ref x.2)) /\ ∀ x∈ds,Own ok H x.2 (lstO x.1)
def SwIn (ok:Addr->Prop) (H:Hp) (l:Addr) (sw:Sw):Prop:=∃ ds:List (((Str×List Str)×Addr)×Addr),ds.map (·.1.1)=sw/\Own ok H l (.lst (ds.map fun x=>.ref x.2)) /\ ∀ x∈ds,Own ok H x.2 (.tup [.str x.1.1.1,.ref x.1.2])/\Own ok H x.1.2 (lstO x.1.1.2)
def numK (k:Nat):List (List Str)->List (List Key×V)
 | []=>[]
 | r::rs=>(r.map .inr,.int (k:Int))::numK (k+1) rs
def NumAt (ok:Addr->Prop) (H:Hp) (n:Addr) (rows:List (List Str)):Prop:=Own ok H n (.dT (numK 0 rows))
def setO (rows:List (List Str)) (i:Nat) (l:List Str):HO:=.dK (l.map fun z=>(.inr z,.int (Dj rows i z)))
def SetsAt (ok:Addr->Prop) (H:Hp) (d:Addr) (sw:Sw):Prop:=∃ ds:List ((Str×List Str)×Addr),ds.map (·.1)=sw/\Own ok H d (.dK (ds.map kR)) /\ ∀ i x,ds[i]? = some x->Own ok H x.2 (setO (Ai sw) i x.1.2)
def RulesAt (ok:Addr->Prop) (H:Hp) (k:Addr) (rules:List Sw):Prop:=∃ ds:List (Sw×Addr),ds.map (·.1)=rules/\Own ok H k (.lst (ds.map fun x=>.ref x.2)) /\ ∀ x∈ds,RuleAt ok H x.2 x.1
section
variable {ok ok':Addr->Prop} {H H':Hp} {d:Addr} {sw:Sw} {rows:List (List Str)} {rules:List Sw}
theorem SwAt.mono (h:SwAt ok H d sw) (k:Kp ok H ok' H'):SwAt ok' H' d sw:=by
 obtain⟨ds,e,o,q⟩:=h;exact⟨ds,e,k _ _ o,fun x hx=>k _ _ (q x hx)⟩
theorem RuleAt.mono (h:RuleAt ok H d sw) (k:Kp ok H ok' H'):RuleAt ok' H' d sw:=by
 obtain⟨ds,e,o,q⟩:=h;exact⟨ds,e,k _ _ o,fun x hx=>k _ _ (q x hx)⟩
theorem TupsAt.mono (h:TupsAt ok H d rows) (k:Kp ok H ok' H'):TupsAt ok' H' d rows:=by
 obtain⟨ds,e,o,q⟩:=h;exact⟨ds,e,k _ _ o,fun x hx=>k _ _ (q x hx)⟩
theorem SwIn.mono (h:SwIn ok H d sw) (k:Kp ok H ok' H'):SwIn ok' H' d sw:=by
 obtain⟨ds,e,o,q⟩:=h;exact⟨ds,e,k _ _ o,fun x hx=>⟨k _ _ (q x hx).1,k _ _ (q x hx).2⟩⟩
theorem SetsAt.mono (h:SetsAt ok H d sw) (k:Kp ok H ok' H'):SetsAt ok' H' d sw:=by
 obtain⟨ds,e,o,q⟩:=h;exact⟨ds,e,k _ _ o,fun i x hx=>k _ _ (q i x hx)⟩
theorem RulesAt.mono (h:RulesAt ok H d rules) (k:Kp ok H ok' H'):RulesAt ok' H' d rules:=by
 obtain⟨ds,e,o,q⟩:=h;exact⟨ds,e,k _ _ o,fun x hx=>(q x hx).mono k⟩
theorem NumAt.mono (h:NumAt ok H d rows) (k:Kp ok H ok' H'):NumAt ok' H' d rows:=k _ _ h
end
def flds (d l n s k b:Addr) (f:Int):List (Str×V):=[("settings", .ref d),("tuples", .ref l),("numbers", .ref n),("sets", .ref s),("kept_rules", .ref k),("bars", .ref b),("free", .int f)]
structure au3 (C:Addr) (ok:Addr->Prop) (H:Hp) (p:Addr) (sw:Sw) (rules:List Sw) (dx d l n s k b:Addr):Prop where
 ins:Own ok H p (.ins C dx (flds d l n s k b (Cz sw rules)))
 sws:SwAt ok H d sw
 tps:TupsAt ok H l (Ai sw)
 nms:NumAt ok H n (Ai sw)
 sts:SetsAt ok H s sw
 rls:RulesAt ok H k rules
 brs:Own ok H b (.lst ((Hi sw rules).map V.int))
def PanelAt (C:Addr) (ok:Addr->Prop) (H:Hp) (p:Addr) (sw:Sw) (rules:List Sw):Prop:=∃ dx d l n s k b,au3 C ok H p sw rules dx d l n s k b
theorem PanelAt.mono {C p:Addr} {ok ok':Addr->Prop} {H H':Hp} {sw:Sw} {rules:List Sw} (h:PanelAt C ok H p sw rules) (k:Kp ok H ok' H'):PanelAt C ok' H' p sw rules:=by
 obtain⟨dx,d,l,n,s,kk,b,h⟩:=h
 exact⟨dx,d,l,n,s,kk,b,⟨k _ _ h.ins,h.sws.mono k,h.tps.mono k,h.nms.mono k,h.sts.mono k,h.rls.mono k,k _ _ h.brs⟩⟩
def SelfAt (C:Addr) (ok:Addr->Prop) (H:Hp) (p l s:Addr):Prop:=∃ dx fs,Own ok H p (.ins C dx fs)/\fs.lookup ("tuples" : Str)=some (.ref l)/\fs.lookup ("sets" : Str)=some (.ref s) /\ ∀ m∈(["all_choices", "box", "many", "term", "read_rule", "read_rules"]:List Str),fs.lookup m=none
theorem SelfAt.mono {C p l s:Addr} {ok ok':Addr->Prop} {H H':Hp} (h:SelfAt C ok H p l s) (k:Kp ok H ok' H'):SelfAt C ok' H' p l s:=by
 obtain⟨dx,fs,o,q⟩:=h;exact⟨dx,fs,k _ _ o,q⟩
structure ah9 (K:PySem.W.Frag) (C X:Addr):Prop where
 cl:Cls K C
 na:∀ f∈(["settings", "tuples", "numbers", "sets", "kept_rules", "bars", "free"]:List Str),NoAttr K C f
 en:ECls K X
 mn:PySem.W.mroIn K X (.ref X)=some true
theorem Nk {p:Addr} {o:Obj} (kvs:List (Key×V)):D9 (Itd p o kvs) (kvs.map fun kv=>kV kv.1) (fun H=>H p=some (.frz o (.dK kvs))):=by
 refine⟨fun i H q h=>⟨q,by simpa using h⟩,fun H q=>⟨q,by simp⟩,fun i H x H' q hi h=>?_⟩
 obtain⟨h1,k,v,h2,h3⟩:=h
 refine⟨h1,?_⟩
 rw [List.getElem?_map,h2,h3]
 rfl
theorem Zo {p:Addr} {o:Obj} (kvs:List (Key×V)):Hv (Itde p o kvs) (Dr 0 (kvs.map fun kv=>kV kv.1)) (fun H=>H p=some (.frz o (.dK kvs))):=by
 have e:(Dr 0 (kvs.map fun kv=>kV kv.1)).length=kvs.length:=by rw [Ba];simp
 refine⟨fun i H q h=>⟨q,by omega⟩,fun H q=>⟨q,by omega⟩,fun i H x H' q hi h=>?_⟩
 obtain⟨T,k,v,hT,h1,h2,h3⟩:=h
 refine⟨T,.int i,kV k,hT,h1,?_,h3⟩
 have:=Cn (k:=0) (xs:=kvs.map fun kv=>kV kv.1) (i:=i) (x:=kV k) (by rw [List.getElem?_map,h2];rfl)
 rw [Nat.zero_add] at this
 exact this
theorem Same.thaw {H H':Hp} {p:Addr} {o:Obj} {kvs:List (Key×V)} (h:H p=some (.dK kvs)) (S:Same (upd H p (.frz o (.dK kvs))) H'):Same H (upd H' p (.dK kvs)):=by
 intro b u e
 by_cases hb:b=p
 ·subst hb;rw [Ab,<- h,e]
 ·rw [Af hb];exact S _ _ (by rw [Af hb];exact e)
theorem Ff {H:Hp} {d:Addr} {u:HO} (h:H d=some u):¬ Pn.fresh H d:=fun e=>by
 have e:H d=none:=e
 rw [h] at e
 cases e
theorem Dh {b:Bool} {A B:Prop} (e:b=false) (h:B):if b=true then A else B:=by subst e;exact iteF h
theorem Di {b:Bool} {A B:Prop} (e:b=true) (h:A):if b=true then A else B:=by subst e;exact iteT h
theorem Am {α β:Type} {l:List α} {f:α->β} {i:Nat} {x:β} (h:(l.map f)[i]? = some x):∃ m,l[i]? = some m/\x=f m:=by
 rw [List.getElem?_map] at h
 cases e:l[i]? with
 | none=>rw [e] at h;cases h
 | some m=>rw [e] at h;exact⟨m,rfl,by simpa using h.symm⟩
theorem Aj {α:Type} {l:List α} {i:Nat} {x:α} (h:l[i]? = some x):i<l.length:=(List.getElem?_eq_some_iff.mp h).1
theorem Hc {n i:Nat} {x:V} (h:(rngV 0 n)[i]? = some x):i<n/\x=.int (i:Int):=by
 have hi:=Aj h
 rw [Ci] at hi
 rw [Pg hi] at h
 refine⟨hi,?_⟩
 have:V.int (0+(i:Int))=x:=by simpa using h
 rw [<- this,Int.zero_add]
theorem Xs (a c:Nat):decide ([c]<[a])=decide (c<a):=by
 rw [Bool.eq_iff_iff,decide_eq_true_iff,decide_eq_true_iff,List.cons_lt_cons_iff]
 simp
theorem leL {s:Str} {a c:Nat} (h:s.cps.toList=[a]):(!decide ((⟨#[c]⟩:Str).cps.toList<s.cps.toList))=decide (a<=c):=by
 rw [h]
 show (!decide ([c]<[a]))=_
 rw [Xs,<- decide_not]
 exact decide_eq_decide.mpr Nat.not_lt
theorem leR {s:Str} {a c:Nat} (h:s.cps.toList=[a]):(!decide (s.cps.toList<(⟨#[c]⟩:Str).cps.toList))=decide (c<=a):=by
 rw [h]
 show (!decide ([a]<[c]))=_
 rw [Xs,<- decide_not]
 exact decide_eq_decide.mpr Nat.not_lt
theorem Ud {s1 s2:Str} {a b c:Nat} {Q:VK} {H:Hp} (h1:s1.cps.toList=[a]) (h2:s2.cps.toList=[b]) (k:Q (.bl (decide (a<=c)&&decide (c<=b))) H) :
  if (!decide ((⟨#[c]⟩:Str).cps.toList<s1.cps.toList))=true then Q (.bl (!decide (s2.cps.toList<(⟨#[c]⟩:Str).cps.toList))) H else Q (.bl false) H:=by
 rw [leL h1,leR h2]
 cases e:decide (a<=c) with
 | true=>rw [e,Bool.true_and] at k;exact iteT k
 | false=>rw [e,Bool.false_and] at k;exact iteF k
theorem K3 {a b c:Int} {Q:VK} {H:Hp} (k:Q (.bl (decide (a<=c)&&decide (c<=b))) H):if decide (a<=c)=true then Q (.bl (decide (c<=b))) H else Q (.bl false) H:=by
 cases e:decide (a<=c) with
 | true=>rw [e,Bool.true_and] at k;exact iteT k
 | false=>rw [e,Bool.false_and] at k;exact iteF k
theorem Zy {s1 s2:Str} {a b c i:Nat} {Q:VK} {E:EK} {H:Hp} {σ:St} (h1:s1.cps.toList=[a]) (h2:s2.cps.toList=[b]) (hv:σ[i]? = some (some (.str ⟨#[c]⟩))) (k:Q (.bl (decide (a<=c)&&decide (c<=b))) H) :
  Eb rLeD rLeD (dC (.str s1)) (dVar i) (dC (.str s2)) σ H Q E:=by
 unfold Eb dC dVar
 rw [hv]
 exact Ud h1 h2 k
theorem Ty {K:PySem.W.Frag} {z:Str} {te:DE} {p:Nat->Bool} {H:Hp} {Q:VK} {E:EK} (hz:z.length<=1000) (he:∀ (c:Nat) (σ:St) (H1:Hp) (Q1:VK),σ.length=1->Q1 (.bl (p c)) H1->te (σ.set 0 (some (.str ⟨#[c]⟩))) H1 Q1 E) (k:∀ H',Same H H'->Q (.bl (z.cps.toList.all p)) H') :
  ∀ D,H D=none->CmpW (Its z) (gdN 0) dYes te D (fun H'=>rAll K [.ref D] H' Q) (capt [none] [some (.str z)]) (upd H D (.lst [])) E:=by
 intro D hD
 refine Mo (Zp z) (fun σ=>σ.length=1) (fun _=>true) (fun v=>match v with | .str y=>.bl (p (y.cps.getD 0 0))|_=>.non) hD (fun _ _=>True.intro) ?_ rfl ?_ ?_
 ·unfold Dq
  rw [List.length_map]
  exact Nat.lt_of_le_of_lt (show z.cps.toList.length<=1000 from by have:z.cps.size<=1000:=hz;simpa using this) (by decide)
 ·intro x σ H1 hx hσ S Fin Skip hF hS
  obtain⟨c,hc,rfl⟩:=List.mem_map.mp hx
  refine he c σ H1 _ hσ ?_
  exact hF _ _ _ (by rw [List.length_set];exact hσ) (Same.refl _) rfl rfl
 ·intro H' S hD'
  have e:((Dq z).filter fun _=>true).map (fun v=>match v with | .str y=>V.bl (p (y.cps.getD 0 0))|_=>.non)=(z.cps.toList.map p).map V.bl:=by
   unfold Dq
   rw [List.filter_eq_self.mpr (fun _ _=>rfl),List.map_map,List.map_map]
   rfl
  refine⟨z.cps.toList.map p,SqL.of (hD'.trans (by rw [e])),?_⟩
  have e2:(z.cps.toList.map p).all (fun b=>b)=z.cps.toList.all p:=by rw [List.all_map];rfl
  rw [e2]
  exact k H' S
theorem Oo:∀ (xs acc:List Str),(acc++xs).Nodup->xs.foldl (fun σ k=>if σ.any (fun j=>decide (j=k)) then σ else σ++[k]) acc=acc++xs
 | [],acc,_=>by rw [List.foldl_nil,List.append_nil]
 | x::xs,acc,h=>by
  have hx:(acc.any fun j=>decide (j=x))=false:=by
   rw [List.any_eq_false]
   intro j hj e
   have e:j=x:=by simpa using e
   subst e
   exact (List.nodup_append.mp h).2.2 j hj j List.mem_cons_self rfl
  rw [List.foldl_cons,hx]
  have h2:(acc++[x]++xs).Nodup:=by simpa using h
  show List.foldl _ (acc++[x]) xs=_
  rw [Oo xs (acc++[x]) h2]
  simp
theorem aa2 {xs:List Str} (h:xs.Nodup):metK xs=xs:=Oo xs [] (by simpa using h)
theorem Cj {κ:Type} [DecidableEq κ]:∀ {kvs:List (κ×V)} {i:Nat} {k:κ} {v:V},(kvs.map (·.1)).Nodup->kvs[i]? = some (k,v)->valV kvs k=some v
 | [],_,_,_,_,e=>by simp at e
 | p::r,0,k,v,_,e=>by
  rw [List.getElem?_cons_zero] at e
  cases e
  exact D6 rfl
 | p::r,i+1,k,v,h,e=>by
  rw [List.getElem?_cons_succ] at e
  rw [List.map_cons,List.nodup_cons] at h
  have ne:¬ p.1=k:=fun z=>h.1 (List.mem_map.mpr ⟨(k,v),List.mem_of_getElem? e,z.symm⟩)
  rw [Df ne]
  exact Cj h.2 e
theorem B0 {κ:Type} [DecidableEq κ]:∀ {kvs:List (κ×V)} {k:κ},¬ k∈kvs.map (·.1)->valV kvs k=none
 | [],_,_=>rfl
 | p::r,k,h=>by
  rw [List.map_cons,List.mem_cons,not_or] at h
  rw [Df (fun e=>h.1 e.symm)]
  exact B0 h.2
theorem Lw {l:List Str} (h:l.Nodup):(l.map (Sum.inr:Str->Key)).Nodup:=List.Pairwise.map _ (fun a b ne e=>ne (by injection e)) h
theorem Ed (ds:List ((Str×List Str)×Addr)):(ds.map kR).map (·.1)=((ds.map (·.1)).map (·.1)).map (Sum.inr:Str->Key):=by simp [List.map_map]
theorem Ef {ds:List ((Str×List Str)×Addr)} {sw:Sw} (e:ds.map (·.1)=sw) (h:(sw.map (·.1)).Nodup):((ds.map kR).map (·.1)).Nodup:=by
 rw [Ed,e]
 exact Lw h
theorem Fa (x y:Nat):Builtin.bitOr (x:Int) (y:Int)=((x ||| y:Nat):Int):=by
 unfold Builtin.bitOr
 have hx:¬ (0:Int)<=Builtin.bitNot (x:Int):=by unfold Builtin.bitNot;omega
 have hy:¬ (0:Int)<=Builtin.bitNot (y:Int):=by unfold Builtin.bitNot;omega
 rw [PyProof.Rows.bitAnd_nn hx hy]
 have e:∀ z:Nat,(Builtin.bitNot (Builtin.bitNot (z:Int)))=(z:Int):=fun z=>by unfold Builtin.bitNot;omega
 rw [e,e,e,Int.toNat_natCast,Int.toNat_natCast]
theorem Ir (x y:Nat):Builtin.bitAnd (x:Int) (y:Int)=((x &&& y:Nat):Int):=by
 rw [PyProof.Rows.bitAnd_pp (by omega) (by omega),Int.toNat_natCast,Int.toNat_natCast]
theorem Ke (n:Nat):(2:Int) ^ n=((2 ^ n:Nat):Int):=by simp
def setN (ns:List Nat):Nat:=ns.foldl (fun c n=>c ||| 2 ^ n) 0
theorem Pj:∀ (ns:List Nat) (c:Nat),ns.foldl (fun (c:Int) n=>Builtin.bitOr c (2 ^ n)) (c:Int)=((ns.foldl (fun c n=>c ||| 2 ^ n) c:Nat):Int)
 | [],c=>rfl
 | n::ns,c=>by rw [List.foldl_cons,List.foldl_cons,Ke,Fa,Pj ns]
theorem Yq (ns:List Nat):setM ns=(setN ns:Nat):=Pj ns 0
theorem Pk:∀ (ns:List Nat) (c k:Nat),(ns.foldl (fun c n=>c ||| 2 ^ n) c).testBit k=(c.testBit k||decide (k∈ns))
 | [],c,k=>by simp
 | n::ns,c,k=>by
  rw [List.foldl_cons,Pk ns,Nat.testBit_or,Nat.testBit_two_pow,Bool.or_assoc]
  congr 1
  rw [Bool.eq_iff_iff,Bool.or_eq_true,decide_eq_true_iff,decide_eq_true_iff,decide_eq_true_iff,List.mem_cons]
  exact or_congr ⟨Eq.symm,Eq.symm⟩ Iff.rfl
theorem Yr (ns:List Nat) (k:Nat):(setN ns).testBit k=decide (k∈ns):=by
 unfold setN
 rw [Pk,Nat.zero_testBit,Bool.false_or]
def E8 (ms:List Nat):Nat:=ms.foldl (fun c m=>c ||| m) 0
theorem Kf:∀ (ms:List Nat) (c:Nat),(ms.map fun m:Nat=>(m:Int)).foldl (fun c m=>Builtin.bitOr c m) (c:Int)=((ms.foldl (fun c m=>c ||| m) c:Nat):Int)
 | [],c=>rfl
 | n::ns,c=>by rw [List.map_cons,List.foldl_cons,List.foldl_cons,Fa,Kf ns]
theorem Kg (ms:List Nat):Ft (ms.map fun m:Nat=>(m:Int))=(E8 ms:Nat):=Kf ms 0
theorem Kh:∀ (ms:List Nat) (c k:Nat),(ms.foldl (fun c m=>c ||| m) c).testBit k=(c.testBit k||ms.any fun m=>m.testBit k)
 | [],c,k=>by simp
 | n::ns,c,k=>by rw [List.foldl_cons,Kh ns,Nat.testBit_or,List.any_cons,Bool.or_assoc]
theorem Ki (ms:List Nat) (k:Nat):(E8 ms).testBit k=ms.any fun m=>m.testBit k:=by
 unfold E8
 rw [Kh,Nat.zero_testBit,Bool.false_or]
def hasB (rows:List (List Str)) (p:Nat) (z:Str) (k:Nat):Bool:=decide ((rows[k]?.bind fun r=>r[p]?)=some z)
theorem R7 (p:Nat) (z:Str):∀ (rows:List (List Str)) (j n:Nat),n∈havM p z j rows ↔ j<=n/\(rows[n - j]?.bind fun r=>r[p]?)=some z
 | [],j,n=>by simp [havM]
 | r::rows,j,n=>by
  have ih:=R7 p z rows (j+1) n
  have e:∀ b,(n=j/\b)\/(j+1<=n/\(rows[n - (j+1)]?.bind fun r=>r[p]?)=some z) ↔ j<=n/\((n=j/\b)\/(n≠j/\(rows[n - (j+1)]?.bind fun r=>r[p]?)=some z)):=fun b=>by
   constructor
   ·rintro (⟨h1,h2⟩|⟨h1,h2⟩)
    ·exact⟨by omega,.inl ⟨h1,h2⟩⟩
    ·exact⟨by omega,.inr ⟨by omega,h2⟩⟩
   ·rintro⟨h0,⟨h1,h2⟩|⟨h1,h2⟩⟩
    ·exact .inl ⟨h1,h2⟩
    ·exact .inr ⟨by omega,h2⟩
  have g:j<=n->(((r::rows)[n - j]?.bind fun r=>r[p]?)=some z ↔ ((n=j/\r[p]? = some z)\/(n≠j/\(rows[n - (j+1)]?.bind fun r=>r[p]?)=some z))):=fun h=>by
   by_cases hn:n=j
   ·subst hn
    simp
   ·have e2:n - j=(n - (j+1))+1:=by omega
    rw [e2,List.getElem?_cons_succ]
    simp [hn]
  rw [havM]
  by_cases hr:r[p]? = some z
  ·rw [if_pos hr,List.mem_cons,ih]
   have:=e (r[p]? = some z)
   constructor
   ·intro h
    have h2:=this.mp (h.imp (fun x=>⟨x,hr⟩) id)
    exact⟨h2.1,(g h2.1).mpr h2.2⟩
   ·rintro⟨h1,h2⟩
    exact (this.mpr ⟨h1,(g h1).mp h2⟩).imp (fun x=>x.1) id
  ·rw [if_neg hr,ih]
   have:=e (r[p]? = some z)
   constructor
   ·intro h
    have h2:=this.mp (.inr h)
    exact⟨h2.1,(g h2.1).mpr h2.2⟩
   ·rintro⟨h1,h2⟩
    rcases this.mpr ⟨h1,(g h1).mp h2⟩ with h|h
    ·exact absurd h.2 hr
    ·exact h
def Sk (rows:List (List Str)) (p:Nat) (z:Str):Nat:=setN (havM p z 0 rows)
theorem Uz (rows:List (List Str)) (p:Nat) (z:Str):Dj rows p z=(Sk rows p z:Nat):=Yq _
theorem U0 (rows:List (List Str)) (p:Nat) (z:Str) (k:Nat):(Sk rows p z).testBit k=hasB rows p z k:=by
 unfold Sk hasB
 rw [Yr]
 refine decide_eq_decide.mpr ?_
 rw [R7]
 simp
def Kc (sw:Sw) (e:Str×List Str):Nat:=E8 (e.2.map (Sk (Ai sw) (Cu sw e.1)))
theorem Vq (sw:Sw) (e:Str×List Str):Dm sw e=(Kc sw e:Nat):=by
 unfold Dm Kc
 rw [<- Kg,List.map_map]
 congr 1
 exact List.map_congr_left fun z _=>Uz _ _ _
theorem Vr (sw:Sw) (e:Str×List Str) (k:Nat):(Kc sw e).testBit k=e.2.any fun z=>hasB (Ai sw) (Cu sw e.1) z k:=by
 unfold Kc
 rw [Ki,List.any_map]
 congr 1
 funext z
 exact U0 _ _ _ _
def allN (sw:Sw):Nat:=2 ^ (Ai sw).length - 1
theorem Nx (sw:Sw):allM sw=(allN sw:Nat):=by
 unfold allM allN
 rw [Ke]
 have:0<2 ^ (Ai sw).length:=Nat.two_pow_pos _
 omega
theorem Ny (sw:Sw) (k:Nat):(allN sw).testBit k=decide (k<(Ai sw).length):=by
 unfold allN
 rw [Nat.testBit_two_pow_sub_one]
def boxN (sw:Sw) (rule:Sw):Nat:=rule.foldl (fun c e=>c &&& Kc sw e) (allN sw)
theorem N2 (sw:Sw):∀ (rule:Sw) (c:Nat),rule.foldl (fun c e=>Builtin.bitAnd c (Dm sw e)) (c:Int)=((rule.foldl (fun c e=>c &&& Kc sw e) c:Nat):Int)
 | [],c=>rfl
 | e::rule,c=>by rw [List.foldl_cons,List.foldl_cons,Vq,Ir,N2 sw rule]
theorem Wf (sw rule:Sw):boxM sw rule=(boxN sw rule:Nat):=by
 unfold boxM boxN
 rw [Nx,N2]
theorem N3 (sw:Sw):∀ (rule:Sw) (c k:Nat),(rule.foldl (fun c e=>c &&& Kc sw e) c).testBit k=(c.testBit k&&rule.all fun e=>e.2.any fun z=>hasB (Ai sw) (Cu sw e.1) z k)
 | [],c,k=>by simp
 | e::rule,c,k=>by rw [List.foldl_cons,N3 sw rule,Nat.testBit_and,Vr,List.all_cons,Bool.and_assoc]
theorem Iu (sw rule:Sw) (k:Nat):(boxN sw rule).testBit k=(decide (k<(Ai sw).length)&&rule.all fun e=>e.2.any fun z=>hasB (Ai sw) (Cu sw e.1) z k):=by
 unfold boxN
 rw [N3,Ny]
def Ja (sw:Sw) (rules:List Sw):Nat:=allN sw - (allN sw &&& E8 (rules.map (boxN sw)))
theorem Gz (sw:Sw) (rules:List Sw):Cz sw rules=(Ja sw rules:Nat):=by
 unfold Cz Ja Hi
 have e:rules.map (boxM sw)=(rules.map (boxN sw)).map fun m:Nat=>(m:Int):=by
  rw [List.map_map]
  exact List.map_congr_left fun r _=>Wf sw r
 rw [e,Kg,Nx,PyProof.Rows.bitAnd_pn (by omega) (by unfold Builtin.bitNot;omega),show Builtin.bitNot (Builtin.bitNot ((E8 (rules.map (boxN sw)):Nat):Int))=((E8 (rules.map (boxN sw)):Nat):Int) by unfold Builtin.bitNot;omega,Int.toNat_natCast,Int.toNat_natCast]
 have:=Nat.and_le_left (n:=allN sw) (m:=E8 (rules.map (boxN sw)))
 omega
theorem ae4 (a b:Nat):a - (a &&& b)=a ^^^ (a &&& b):=by
 have h:(a ^^^ (a &&& b)) &&& (a &&& b)=0:=by
  refine Nat.eq_of_testBit_eq fun k=>?_
  rw [Nat.testBit_and,Nat.testBit_xor,Nat.testBit_and,Nat.zero_testBit]
  cases a.testBit k <;> cases b.testBit k <;> rfl
 have h2:(a ^^^ (a &&& b)) ||| (a &&& b)=a:=by
  refine Nat.eq_of_testBit_eq fun k=>?_
  rw [Nat.testBit_or,Nat.testBit_xor,Nat.testBit_and]
  cases a.testBit k <;> cases b.testBit k <;> rfl
 have h3:(a ^^^ (a &&& b))+(a &&& b)=(a ^^^ (a &&& b)) ||| (a &&& b):=by
  have e:=PyProof.Rows.bitOr_and ((a ^^^ (a &&& b):Nat):Int) ((a &&& b:Nat):Int)
  rw [Fa,Ir,h] at e
  omega
 omega
theorem G0 (sw:Sw) (rules:List Sw) (k:Nat):(Ja sw rules).testBit k=(decide (k<(Ai sw).length) && !rules.any fun r=>(boxN sw r).testBit k):=by
 unfold Ja
 rw [ae4,Nat.testBit_xor,Nat.testBit_and,Ny,Ki,List.any_map]
 show (_ ^^ (_&&rules.any fun r=>(boxN sw r).testBit k))=_
 cases decide (k<(Ai sw).length) <;> cases rules.any (fun r=>(boxN sw r).testBit k) <;> rfl
def Cg (c:Nat):List (List Nat)->List Nat
 | []=>[]
 | [a]=>a
 | a::r=>a++c::Cg c r
theorem E0 (c:Nat):∀ ps:List Str,(Str.join ⟨#[c]⟩ ps).cps.toList=Cg c (ps.map fun p=>p.cps.toList)
 | []=>rfl
 | [a]=>rfl
 | a::b::r=>by
  show (a++(⟨#[c]⟩:Str)++Str.join ⟨#[c]⟩ (b::r)).cps.toList=_
  have ih:=E0 c (b::r)
  rw [Str.cps_append,Str.cps_append,Array.toList_append,Array.toList_append,ih]
  show a.cps.toList++[c]++Cg c ((b::r).map fun p=>p.cps.toList)=a.cps.toList++c::Cg c ((b::r).map fun p=>p.cps.toList)
  rw [List.append_assoc]
  rfl
theorem Ru {c:Nat}:∀ {a b X Y:List Nat},c∉a->c∉b->a++c::X=b++c::Y->a=b/\X=Y
 | [],[],_,_,_,_,h=>by simpa using h
 | [],y::b,_,_,_,hb,h=>by
  have:c=y:=by simpa using (List.cons.inj h).1
  exact absurd (this▸List.mem_cons_self) hb
 | x::a,[],_,_,ha,_,h=>by
  have:x=c:=by simpa using (List.cons.inj h).1
  exact absurd (this▸List.mem_cons_self) ha
 | x::a,y::b,X,Y,ha,hb,h=>by
  have h1:x=y:=(List.cons.inj h).1
  have h2:a++c::X=b++c::Y:=(List.cons.inj h).2
  obtain⟨e1,e2⟩:=Ru (fun z=>ha (List.mem_cons_of_mem _ z)) (fun z=>hb (List.mem_cons_of_mem _ z)) h2
  exact⟨by rw [h1,e1],e2⟩
theorem Li {c:Nat}:∀ {as bs:List (List Nat)},as≠[]->bs≠[]->(∀ a∈as,c∉a)->(∀ b∈bs,c∉b)->Cg c as=Cg c bs->as=bs
 | [],_,h,_,_,_,_=>absurd rfl h
 | _,[],_,h,_,_,_=>absurd rfl h
 | [a],[b],_,_,_,_,h=>by rw [show a=b from h]
 | [a],b::b'::r,_,_,ha,_,h=>by
  have h:a=b++c::Cg c (b'::r):=h
  exact absurd (by rw [h];simp) (ha a List.mem_cons_self)
 | a::a'::r,[b],_,_,_,hb,h=>by
  have h:a++c::Cg c (a'::r)=b:=h
  exact absurd (by rw [<- h];simp) (hb b List.mem_cons_self)
 | a::a'::r,b::b'::q,_,_,ha,hb,h=>by
  have h:a++c::Cg c (a'::r)=b++c::Cg c (b'::q):=h
  obtain⟨e1,e2⟩:=Ru (ha a List.mem_cons_self) (hb b List.mem_cons_self) h
  rw [e1,Li (by simp) (by simp) (fun x hx=>ha x (List.mem_cons_of_mem _ hx)) (fun x hx=>hb x (List.mem_cons_of_mem _ hx)) e2]
theorem ae3 {a b:Str} (h:a.cps.toList=b.cps.toList):a=b:=by
 cases a;cases b
 congr 1
 exact Array.toList_inj.mp h
theorem Go (sep:Str) (ps:List Str):Txt.join sep ps=Str.join sep ps:=by
 show Builtin.Str.glued sep ps=_
 rw [StrLaws.glued_eq_join]
theorem as4 {c:Nat} {ps:List Str} (hn:ps≠[]) (h:∀ p∈ps,c∉p.cps.toList):Txt.split (Txt.join ⟨#[c]⟩ ps) ⟨#[c]⟩=ps:=by
 have e:=StrLaws.join_split (Txt.join ⟨#[c]⟩ ps) ⟨#[c]⟩
 rw [Go] at e ⊢
 have e2:=congrArg (fun z:Str=>z.cps.toList) e
 rw [E0,E0] at e2
 have f:=StrLaws.split_free (Str.join ⟨#[c]⟩ ps) c
 have l1:=PyProof.Rows.split_pos (Str.join ⟨#[c]⟩ ps) ⟨#[c]⟩
 generalize Txt.split (Str.join ⟨#[c]⟩ ps) ⟨#[c]⟩=qs at e2 f l1 ⊢
 have e3:=Li (as:=qs.map fun p=>p.cps.toList) (bs:=ps.map fun p=>p.cps.toList) (by intro z;rw [List.map_eq_nil_iff] at z;rw [z] at l1;simp at l1) (by simpa using hn) (fun a ha=>by obtain⟨p,hp,rfl⟩:=List.mem_map.mp ha;exact f p hp) (fun a ha=>by obtain⟨p,hp,rfl⟩:=List.mem_map.mp ha;exact h p hp) e2
 exact (List.map_inj_right (fun a b=>ae3)).mp e3
theorem Ls {c x:Nat}:∀ {as:List (List Nat)},x∈Cg c as->x=c \/ ∃ a∈as,x∈a
 | [],h=>by cases h
 | [a],h=>.inr ⟨a,List.mem_cons_self,h⟩
 | a::b::r,h=>by
  have h:x∈a++c::Cg c (b::r):=h
  rcases List.mem_append.mp h with h|h
  ·exact .inr ⟨a,List.mem_cons_self,h⟩
  ·rcases List.mem_cons.mp h with h|h
   ·exact .inl h
   ·rcases Ls h with h|⟨y,hy,h⟩
    ·exact .inl h
    ·exact .inr ⟨y,List.mem_cons_of_mem _ hy,h⟩
theorem av5 {c x:Nat} {ps:List Str} (h:x∈(Txt.join ⟨#[c]⟩ ps).cps.toList):x=c \/ ∃ p∈ps,x∈p.cps.toList:=by
 rw [Go,E0] at h
 rcases Ls h with h|⟨a,ha,h⟩
 ·exact .inl h
 ·obtain⟨p,hp,rfl⟩:=List.mem_map.mp ha
  exact .inr ⟨p,hp,h⟩
theorem Lg {c x:Nat}:∀ {as:List (List Nat)} {a:List Nat},a∈as->x∈a->x∈Cg c as
 | [],_,h,_=>by cases h
 | [b],a,h,hx=>by
  have:a=b:=by simpa using h
  subst this
  exact hx
 | b::b'::r,a,h,hx=>by
  show x∈b++c::Cg c (b'::r)
  rcases List.mem_cons.mp h with rfl|h
  ·exact List.mem_append_left _ hx
  ·exact List.mem_append_right _ (List.mem_cons_of_mem _ (Lg h hx))
theorem av4 {c x:Nat} {ps:List Str} {p:Str} (hp:p∈ps) (h:x∈p.cps.toList):x∈(Txt.join ⟨#[c]⟩ ps).cps.toList:=by
 rw [Go,E0]
 exact Lg (List.mem_map_of_mem hp) h
theorem ba2 {sep:Str} {ps:List Str} {n m:Nat} (h:∀ p∈ps,p.length<=n) (hm:ps.length<=m):(Txt.join sep ps).length<=m * (n+sep.length):=by
  rw [Go]
  refine Nat.le_trans (StrLaws.join_length_le sep ps) ?_
  have h1:(ps.map (·.length)).sum<=ps.length * n:=by
    clear hm
    induction ps with
    | nil=>simp
    | cons p ps ih=>
      rw [List.map_cons,List.sum_cons,List.length_cons,Nat.add_mul,Nat.one_mul,Nat.add_comm]
      exact Nat.add_le_add (ih fun q hq=>h q (List.mem_cons_of_mem _ hq)) (h p List.mem_cons_self)
  calc _<=ps.length * n+ps.length * sep.length:=Nat.add_le_add_right h1 _
    _=ps.length * (n+sep.length):=by rw [Nat.mul_add]
    _<=_:=Nat.mul_le_mul_right _ hm
end Pn
namespace L2
open PySem PySem.Spec PyProof.Rows
section
variable {P:Program} {w:World} {K:PySem.W.Frag} {mg:Str->Option Value} {base:Heap} {x q:Str} {st:Stmt} {f:Addr} {d:FuncData} {ps:List Str}
def DfIn (K:PySem.W.Frag) (x q:Str) (st:Stmt) (f:Addr):Prop:=∃ d,Fun K x q st f d
structure TopD (K:PySem.W.Frag) (q:Str) (st:Stmt) (f:Addr):Prop where
 at_:PySem.W.nsIn K mainGlobals q=some (some (.ref f))
 d:DfIn K q q st f
structure MetD (K:PySem.W.Frag) (x q:Str) (st:Stmt) (f:Addr):Prop where
 fn:PySem.W.isFn K (.ref f)=true
 d:DfIn K x q st f
theorem top_mk {oc:Value} {od an:Option Addr} {osl:Array (Option Value)} {kV doc pm cdv ct:Value} (a:PySem.W.nsIn K mainGlobals q=some (some (.ref f))) (l:K.lookup f=some ⟨oc,od,.func (PySem.W.fnOf q q (Bo st) (Ah st) (Ac st) .none kV doc pm an cdv ct),osl⟩)
  (c:PySem.W.codeIn K cdv q=true) (k:PySem.W.keepIn K (.ref f)=true):TopD K q st f:=⟨a,_,Qj l c k⟩
theorem met_mk {oc:Value} {od an:Option Addr} {osl:Array (Option Value)} {kV doc pm cdv ct:Value} (l:K.lookup f=some ⟨oc,od,.func (PySem.W.fnOf x q (Bo st) (Ah st) (Ac st) .none kV doc pm an cdv ct),osl⟩)
  (c:PySem.W.codeIn K cdv q=true) (k:PySem.W.keepIn K (.ref f)=true) (i:PySem.W.isFn K (.ref f)=true):MetD K x q st f:=⟨i,_,Qj l c k⟩
structure DOk (K:PySem.W.Frag) (mg:Str->Option Value) (q:Str) (st:Stmt) (f:Addr) (d:FuncData) (ps:List Str):Prop where
 F:FunD K q q st f d .none
 b:Binds K d ps []
 m:mg q=some (.ref f)
structure MOk (K:PySem.W.Frag) (x q:Str) (st:Stmt) (f:Addr) (d:FuncData) (ps:List Str):Prop where
 F:FunD K x q st f d .none
 b:Binds K d ps []
 i:PySem.W.isFn K (.ref f)=true
theorem TopD.ok {h:Heap} (D:TopD K q st f) (X:K.In h) (G:h.Ns mainGlobals mg) (hb:∀ (kV doc pm:Value) (an:Option Addr) (cdv ct:Value) (us:List Value),us.length=ps.length->bindArgs (PySem.W.fnOf q q (Bo st) (Ah st) (Ac st) .none kV doc pm an cdv ct) ⟨us,[]⟩=pure (ps.zip us)):∃ d,DOk K mg q st f d ps:=by
 obtain⟨a,d,F⟩:=D
 exact⟨d,F.toD,F.binds hb,PySem.W.mg_of X G a⟩
theorem MetD.ok (D:MetD K x q st f) (hb:∀ (kV doc pm:Value) (an:Option Addr) (cdv ct:Value) (us:List Value),us.length=ps.length->bindArgs (PySem.W.fnOf x q (Bo st) (Ah st) (Ac st) .none kV doc pm an cdv ct) ⟨us,[]⟩=pure (ps.zip us)):∃ d,MOk K x q st f d ps:=by
 obtain⟨a,d,F⟩:=D
 exact⟨d,F.toD,F.binds hb,a⟩
theorem nodf {i:FI} (h2:i.ds=[]) (b:Binds K i.fd i.ps []):∀ j,j<=i.dfs.length->Binds K i.fd i.ps (i.ds.drop j):=fun j _=>by
 rw [h2,List.drop_nil];exact b
theorem Tab.con {k:Nat} {gb:List (Str×GB)} {bl:List Str} (T:Tab P w K mg base k gb bl) (i:FI) (g:DOk K mg q st i.f i.fd i.ps) (ok:FnOk P w K mg base CX0 i.k i.f i.fd i.ps i.sp) (hk:i.k<=k:=by exact Nat.le_refl _) (h1:i.dfs=[]:=by rfl) (h2:i.ds=[]:=by rfl):Tab P w K mg base k ((q,.fn i)::gb) bl:=
 T.cons ⟨g.m,g.F.kp,⟨CX0,fun X' _ _=>Oy X',ok⟩,hk,nodf h2 g.b,by rw [h1,h2];exact .nil⟩
theorem Tab.conE {k:Nat} {gb:List (Str×GB)} {bl:List Str} (T:Tab P w K mg base k gb bl) (i:FI) (g:DOk K mg q st i.f i.fd i.ps) (ok:FnOk P w K mg base (CXE P w) i.k i.f i.fd i.ps i.sp) (hk:i.k<=k:=by exact Nat.le_refl _) (h1:i.dfs=[]:=by rfl) (h2:i.ds=[]:=by rfl):Tab P w K mg base k ((q,.fn i)::gb) bl:=
 T.cons ⟨g.m,g.F.kp,⟨CXE P w,fun X' e1 e2=>e1▸e2▸Js X',ok⟩,hk,nodf h2 g.b,by rw [h1,h2];exact .nil⟩
theorem MOk.fi {k:Nat} (i:FI) (g:MOk K x q st i.f i.fd i.ps) (ok:FnOk P w K mg base CX0 i.k i.f i.fd i.ps i.sp) (hk:i.k<=k:=by exact Nat.le_of_ble_eq_true rfl) (h1:i.dfs=[]:=by rfl) (h2:i.ds=[]:=by rfl):FiIn P w K mg base k i:=
 ⟨g.F.kp,⟨CX0,fun X' _ _=>Oy X',ok⟩,hk,nodf h2 g.b,by rw [h1,h2];exact .nil⟩
theorem MOk.fiE {k:Nat} (i:FI) (g:MOk K x q st i.f i.fd i.ps) (ok:FnOk P w K mg base (CXE P w) i.k i.f i.fd i.ps i.sp) (hk:i.k<=k:=by exact Nat.le_of_ble_eq_true rfl) (h1:i.dfs=[]:=by rfl) (h2:i.ds=[]:=by rfl):FiIn P w K mg base k i:=
 ⟨g.F.kp,⟨CXE P w,fun X' e1 e2=>e1▸e2▸Js X',ok⟩,hk,nodf h2 g.b,by rw [h1,h2];exact .nil⟩
theorem one {C:Addr} {i:FI} {m:Str} {k:Nat} (h:MetIn P w K mg base k m ⟨C,i⟩):∀ mi∈[(⟨C,i⟩:MI)],MetIn P w K mg base k m mi:=fun mi hm=>by
 rw [List.mem_singleton] at hm
 exact hm▸h
end
end L2
section
open PySem PySem.W PyProof.Rows
set_option maxHeartbeats 0
def PySem.W.Fast.tw11142679399440893082:Unit:=()
def PySem.W.Fast.tw11497664486644524354:Unit:=()
def PySem.W.Fast.tw11686835150801738756:Unit:=()
def PySem.W.Fast.tw13014707755039422159:Unit:=()
def PySem.W.Fast.tw13478057576596889672:Unit:=()
def PySem.W.Fast.tw14143737869520939826:Unit:=()
def PySem.W.Fast.tw16598475774297496329:Unit:=()
def PySem.W.Fast.tw16773391333190962917:Unit:=()
def PySem.W.Fast.tw17000645828387129381:Unit:=()
def PySem.W.Fast.tw17750561252179434061:Unit:=()
def PySem.W.Fast.tw17828983175394327865:Unit:=()
def PySem.W.Fast.tw17832207856316223171:Unit:=()
def PySem.W.Fast.tw18435741893667327878:Unit:=()
def PySem.W.Fast.tw4022886656555344973:Unit:=()
def PySem.W.Fast.tw4751128724557720581:Unit:=()
def PySem.W.Fast.tw5323417799747998780:Unit:=()
def PySem.W.Fast.tw534938151982451774:Unit:=()
def PySem.W.Fast.tw7459913448432911067:Unit:=()
def PySem.W.Fast.tw8014202156243765396:Unit:=()
def PySem.W.Fast.tw9170948046405364321:Unit:=()
def PySem.W.Fast.tw9197198918766882753:Unit:=()
open_top head_k04 for PySem.Challenge.rw_manyleaf_k04_no_panels
end
namespace K04
open PySem L2
set_option genInjectivity false in
set_option genSizeOfSpec false in
structure Adr where
 f_zj:Addr
 d_zj:FuncData
 f_zo:Addr
 d_zo:FuncData
 f_zag:Addr
 d_zag:FuncData
 f_zaa:Addr
 d_zaa:FuncData
 f_zl:Addr
 d_zl:FuncData
 f_zad:Addr
 d_zad:FuncData
 f_zab:Addr
 d_zab:FuncData
 f_zz:Addr
 d_zz:FuncData
 f_zy:Addr
 d_zy:FuncData
 f_zt:Addr
 d_zt:FuncData
 f_za:Addr
 d_za:FuncData
 f_zg:Addr
 d_zg:FuncData
 f_zu:Addr
 d_zu:FuncData
 f_zae:Addr
 d_zae:FuncData
 f_zq:Addr
 d_zq:FuncData
 f_zd:Addr
 d_zd:FuncData
 f_zs:Addr
 d_zs:FuncData
 f_zw:Addr
 d_zw:FuncData
 f_zaf:Addr
 d_zaf:FuncData
 f_zf:Addr
 d_zf:FuncData
 f_zr:Addr
 d_zr:FuncData
 f_zv:Addr
 d_zv:FuncData
 f_zm:Addr
 d_zm:FuncData
 f_zi:Addr
 d_zi:FuncData
 f_ze:Addr
 d_ze:FuncData
 f_zx:Addr
 d_zx:FuncData
 f_zk:Addr
 d_zk:FuncData
 f_zc:Addr
 d_zc:FuncData
 f_zb:Addr
 d_zb:FuncData
 f_zah:Addr
 d_zah:FuncData
 f_zh:Addr
 d_zh:FuncData
 f_zp:Addr
 d_zp:FuncData
 f_zac:Addr
 d_zac:FuncData
 f_zn:Addr
 d_zn:FuncData
 f_zai:Addr
 d_zai:FuncData
 dv_zp:Value
 du_zp:List Value
 c_zao:Addr
 c_zap:Addr
 c_zaq:Addr
 c_zar:Addr
 c_zas:Addr
 u_zal:Value
 u_zaj:Value
 u_zak:Value
 u_zam:Value
 u_zan:Value
end K04
namespace K04
open PySem L2 Pn
structure Au (K:PySem.W.Frag) (t:Adr):Prop where
 pf:ah9 K t.c_zas t.c_zaq
 ec:ECls K t.c_zar
 mc:PySem.W.mroIn K t.c_zar (.ref t.c_zar)=some true
 ep:ECls K t.c_zap
 mpp:PySem.W.mroIn K t.c_zap (.ref t.c_zap)=some true
 mnp:PySem.W.mroIn K t.c_zaq (.ref t.c_zap)=some false
 kpn:PySem.W.kitOne K (.ref t.c_zap) (.ref t.c_zaq)=some false
 kpl:PySem.W.kitOne K (.ref t.c_zap) (.ref t.c_zao)=some true
 knl:PySem.W.kitOne K (.ref t.c_zaq) (.ref t.c_zao)=some true
 knv:PySem.W.kitOne K (.ref t.c_zaq) (.type "ValueError")=some true
def As (z:Str):Bool:=decide (1<=z.length)&&decide (z.length<=8)&&z.cps.toList.all B5
def N4 (ns:List Int) (k:Nat):Int:=ns.getD k 0
def mixF (c k:Int):Int:=
 if c % 2=0/\c / 2 ^ (27 * k+1).toNat≠0/\c / 2 ^ (27 * k+1).toNat ≠ -1 then Builtin.bitAnd (c / 2 ^ (27 * k+1).toNat) 134217727
 else
  let n:=(c % 1000000007+7919 * k) * 48271 % 2147483647
  let m:=n * n % 2147483629
  m * (m+3) % 2147483587
def E4 (n:Int) (ss:List Str):List Str:=(List.range ss.length).filterMap fun k=>if Builtin.bitAnd (n / 3 / 2 ^ k) 1=1 then ss[k]? else none
def entF (c:Int) (j:Nat) (x:Str×List Str):Option (Str×List Str):=if mixF c (10+(j:Int)) % 3=0/\E4 (mixF c (10+(j:Int))) x.2≠[] then some (x.1,E4 (mixF c (10+(j:Int))) x.2) else none
def Em (c:Int) (sw:Sw) (j:Nat):Sw:=(List.range j).filterMap fun i=>(sw[i]?).bind (entF c i)
def Nj (c:Int) (sw:Sw):Sw:=Em c sw sw.length
def hitB (sw:Sw) (n:Nat) (e:Str×List Str):Bool:=e.2.any fun z=>hasB (Ai sw) (Cu sw e.1) z n
def inB (sw:Sw) (rule:Sw) (n:Nat):Bool:=rule.all (hitB sw n)
def So (sw rule:Sw):Prop:=rule.length<=5/\(rule.map (·.1)).Nodup /\ ∀ e∈rule,B1 sw e
def fewS (ss:List Str):Prop:=ss.length<=29 /\ ∀ z∈ss,z.length<=1000
def E9:Dt->Bool
 | .at_ (.str z)=>As z
 | _=>false
def Cp:Dt->Prop
 | .at_ (.str z)=>z.length<=1000
 | _=>True
def Az:List Dt->Option (List Str)
 | []=>some []
 | .at_ (.str z)::r=>(Az r).map (z :: ·)
 | _::_=>none
def Fu:Dt->Bool
 | .lst ds=>match Az ds with
  | some l=>l.all As&&decide l.Nodup
  | none=>false
 | _=>false
def fewD:Dt->Prop
 | .lst ds=>ds.length<=29 /\ ∀ d∈ds,Cp d
 | _=>True
def swD:Dt->Option (Str×List Str)
 | .tup [.at_ (.str w),.lst ds]=>match Az ds with
  | some l=>if (As w&&(l.all As&&decide l.Nodup)&&(decide (2<=l.length)&&decide (l.length<=4)))=true then some (w,l) else none
  | none=>none
 | _=>none
def fitD:Dt->Prop
 | .tup ds=>∀ d∈ds,Cp d/\fewD d
 | _=>True
def E6 (acc:Option Sw) (d:Dt):Option Sw:=acc.bind fun a=>(swD d).bind fun e=>if e.1∈a.map (·.1) then none else some (a++[e])
def C9 (ds:List Dt):Option Sw:=ds.foldl E6 (some [])
def swOf (ds:List Dt):Option Sw:=if 1<=ds.length/\ds.length<=5 then (match C9 ds with
 | some sw=>if A8 sw<=256 then some sw else none
 | none=>none) else none
def EntV (K:PySem.W.Frag) (H:Hp) (k:Key) (v:V):Option (Str×List Str)->Prop
 | some e=>k=.inr e.1/\fewS e.2 /\ ∃ a,v=.ref a/\SqL K H a (e.2.map V.str)
 | none=>(∃ i:Nat,k=.inl (i:Int)) \/ ∃ w,k=.inr w /\ ∃ d,At K H d v/\Fu d=false/\fewD d
structure BoxV (K:PySem.W.Frag) (H:Hp) (r:Addr) (kvs:List (Key×V)) (os:List (Option (Str×List Str))):Prop where
 at_:H r=some (.dK kvs)
 len:kvs.length=os.length
 few:kvs.length<=1000
 nd:(kvs.map (·.1)).Nodup
 ent:∀ (i:Nat) k v o,kvs[i]? = some (k,v)->os[i]? = some o->EntV K H k v o
abbrev BadC (t:Adr) (H:Hp) (E:XK):Prop:=∀ H' e,Same H H'->H' e=some (flO e t.c_zar none)->E (.ref e) none H'
def OffB (bad:Addr->Prop) (H H':Hp):Prop:=(∀ b o,¬ bad b->H b=some o->H' b=some o) /\ ∀ b o,H b=some o->H' b=some o \/ ∃ kvs q,o=.dK kvs/\H' b=some (.frz q (.dK kvs))
def OffP (p:Addr) (bad:Addr->Prop) (H H':Hp):Prop:=(∀ b o,b≠p -> ¬ bad b->H b=some o->H' b=some o) /\ ∀ b o,b≠p->H b=some o->H' b=some o \/ ∃ kvs q,o=.dK kvs/\H' b=some (.frz q (.dK kvs))
abbrev BadX (c:Addr) (H:Hp) (E:XK):Prop:=∀ H' e,Same H H'->FlO H' e c none->E (.ref e) none H'
abbrev BadB (c:Addr) (bad:Addr->Prop) (H:Hp) (E:XK):Prop:=∀ H' e,OffB bad H H'->FlO H' e c none->E (.ref e) none H'
def NoSw (K:PySem.W.Frag) (H:Hp) (v:V):Prop:=(∃ d,At K H d v /\ ∀ l,d≠.lst l)\/(∃ r kvs,v=.ref r/\H r=some (.dK kvs)) \/ ∃ a xs ds,v=.ref a/\SqL K H a xs/\AtL K H ds xs/\(∀ d∈ds,fitD d)/\swOf ds=none
def Zr (ok:Addr->Prop) (H:Hp) (v:V) (rules:List Sw):Prop:=(v=.non/\rules=[]) \/ ∃ k,v=.ref k/\RulesAt ok H k rules
def GoodE (ok:Addr->Prop) (H:Hp) (sw:Sw) (x:V) (rule:Sw):Prop:=∃ r,x=.ref r/\RuleAt ok H r rule/\Dc sw rule
def BadE (ok:Addr->Prop) (K:PySem.W.Frag) (H:Hp) (sw:Sw) (x:V):Prop:=(∃ d,At K H d x) \/ ∃ r kvs os,x=.ref r/\ok r/\BoxV K H r kvs os/\(kvs=[] \/ ∃ o∈os,∀ e,o=some e -> ¬ B1 sw e)
inductive RCase (ok:Addr->Prop) (K:PySem.W.Frag) (H:Hp) (sw:Sw) (bad:Addr->Prop) (v:V):Option (List Sw)->Prop
 | good {rules:List Sw} (h:Zr ok H v rules) (o:∀ r∈rules,Dc sw r) (l:rules.length<=8):RCase ok K H sw bad v (some rules)
 | tree {d:Dt} (h:At K H d v) (n:v≠.non) (l:∀ l,d≠.lst l):RCase ok K H sw bad v none
 | dict {r:Addr} {kvs:List (Key×V)} (e:v=.ref r) (h:H r=some (.dK kvs)):RCase ok K H sw bad v none
 | many {a:Addr} {xs:List V} (e:v=.ref a) (h:SqL K H a xs) (l:8<xs.length):RCase ok K H sw bad v none
 | elt {a:Addr} {xs:List V} {pre:List Sw} {x:V} (e:v=.ref a) (h:SqL K H a xs) (l:xs.length<=8) (hx:xs[pre.length]? = some x) (hp:∀ (i:Nat) y r,xs[i]? = some y->pre[i]? = some r->GoodE ok H sw y r) (hb:BadE ok K H sw x) (hr:∀ r,x=.ref r->bad r):RCase ok K H sw bad v none
def RuleNd (ok:Addr->Prop) (H:Hp) (d:Addr) (rule:Sw):Prop:=∃ ds:List ((Str×List Str)×Addr),ds.map (·.1)=rule/\Own ok H d (.dK (ds.map kR))/\(∀ x∈ds,Own ok H x.2 (lstO x.1.2))/\(ds.map (·.2)).Nodup
structure SwL (H H':Hp) (ls:Addr) (ds:List (((Str×List Str)×Addr)×Addr)):Prop where
 at_:H' ls=some (.lst (ds.map fun x=>.ref x.2))
 tup:∀ x∈ds,H' x.2=some (.tup [.str x.1.1.1,.ref x.1.2])
 lst:∀ x∈ds,H' x.1.2=some (lstO x.1.1.2)
 ne:∀ x∈ds,x.1.2≠ls/\H x.1.2=none
abbrev Th:=Sum (List (Key×Dt)) Dt
def HandD (K:PySem.W.Frag) (H:Hp) (v:V):Th->Prop
 | .inl kds=>deps (kds.map (·.2))<=30 /\ ∃ r kvs,v=.ref r/\Rd H r (.dK kvs)/\kvs.map (·.1)=kds.map (·.1)/\AtL K H (kds.map (·.2)) (kvs.map (·.2))
 | .inr d=>dep d<=30/\At K H d v
def BarD (K:PySem.W.Frag) (H:Hp) (v:V):Sum Th (List Th)->Prop
 | .inl h=>HandD K H v h
 | .inr hs=>∃ a xs,v=.ref a/\SqL K H a xs/\xs.length=hs.length /\ ∀ (i:Nat) x h,xs[i]? = some x->hs[i]? = some h->HandD K H x h
def swT (x:Str×List Str):Dt:=.tup [strD x.1,.lst (x.2.map strD)]
def ruT (r:Sw):Th:=.inl (r.map fun e=>(.inr e.1,.lst (e.2.map strD)))
def Bj {α:Type} (l:List α) (i:Int) (z:α):α:=l.getD i.toNat z
def Cv (sw:Sw) (c:Int) (m:Nat):Th:=
 let k:=(c % (sw.length:Int)).toNat
 let w:=(sw.getD k (Str.empty,[])).1
 let ss:=(sw.getD k (Str.empty,[])).2
 let L:=Dt.lst (ss.map strD)
 let no:=Dt.at_ .non
 match m with
 | 0=>Bj [.inr no,.inr (.at_ (.int 5)),.inr (strD "ab"),.inr (.tup [.tup [strD "a", .lst [strD "b", strD "c"]]]),.inl [(.inr "a", .lst [strD "b", strD "c"])],.inr (.lst [])] (c / 5 % 6) (.inr no)
 | 1=>.inr (.lst ((sw.map swT).set k (Bj [.lst [strD w,L],.tup [strD w],.tup [strD w,L,L],strD w,no] (c / 5 % 5) no)))
 | 2=>.inr (.lst ((sw.map swT).set k (.tup [Bj [strD "", strD ("A" ++ Txt.slice w (some 1) none),strD (Txt.slice w none (some 1) ++ "1"),strD "abcdefghi", no,.at_ (.int 3),.tup [strD w]] (c / 5 % 7) no,L])))
 | 3=>.inr (.lst ((sw.map swT).set k (.tup [strD w,Bj [.tup (ss.map strD),strD "ab", no,.lst [],.lst ((ss.take 1).map strD),.lst ((ss++ss.take 1).map strD)] (c / 5 % 6) no])))
 | 4=>
  let j:=(c / 5 % (ss.length:Int)).toNat
  .inr (.lst ((sw.map swT).set k (.tup [strD w,.lst ((ss.map strD).set j (Bj [strD "", strD "A", strD "abcdefghi", .at_ (.int 1),no,.lst [strD "a"],strD (ss.getD (if j=0 then ss.length - 1 else j - 1) Str.empty)] (c / 25 % 7) no))])))
 | 5=>.inr (.lst ((sw.map swT).take (c / 5 % (sw.length+1:Int)).toNat++.tup [strD w,.lst [strD "x", strD "y"]]::(sw.map swT).drop (c / 5 % (sw.length+1:Int)).toNat))
 | 6=>.inr (.lst ([97,98,99,100,101,102].map fun z:Nat=>.tup [strD ⟨#[z]⟩,.lst [strD "x", strD "y"]]))
 | 7=>.inr (.lst ([97,98,99,100,101].map fun z:Nat=>.tup [strD ⟨#[z]⟩,.lst [strD "w", strD "x", strD "y", strD "z"]]))
 | _=>.inr (.lst ((sw.map swT).set k (.tup [strD w,.lst [strD "v", strD "w", strD "x", strD "y", strD "z"]])))
def E5 (sw:Sw) (rules:List Sw) (c:Int) (m:Nat):Sum Th (List Th):=
 let k:=(c % (sw.length:Int)).toNat
 let w:=(sw.getD k (Str.empty,[])).1
 let ss:=(sw.getD k (Str.empty,[])).2
 let L:=Dt.lst (ss.map strD)
 let no:=Dt.at_ .non
 match m with
 | 9=>.inr (rules.map ruT++[Bj [.inr (.tup (ss.map strD)),.inr no,.inr (.at_ (.int 5)),.inr (.lst [strD w,L]),.inl [],.inl [(.inr w,.lst [])],.inl [(.inr w,strD (ss.getD 0 Str.empty))],
   .inl [(.inr w,.tup (ss.map strD))],.inl [(.inr w,.lst ((ss++ss.take 1).map strD))],.inl [(.inr w,.lst [strD "No"])],.inl [(.inr w,.lst [no])],.inl [(.inr "no.", L)],.inl [(.inl 1,L)],.inl [(.inr w,no)]] (c / 5 % 14) (.inr no)])
 | 10=>.inr (List.replicate 9 (.inl [(.inr w,.lst ((ss.take 1).map strD))]))
 | _=>.inl (Bj [.inr (.tup []),.inr (strD "ab"),.inr (.at_ (.int 5)),.inl [(.inr w,L)],.inr (.at_ (.bl true))] (c / 5 % 5) (.inr no))
def R5 (sw:Sw) (c:Int):Th:=if c % 13<9 then Cv sw (c / 13) (c % 13).toNat else .inr (.lst (sw.map swT))
def allR (sw:Sw):Sw:=[sw.getD 0 (Str.empty,[])]
def Ro (sw:Sw) (rules:List Sw) (c:Int):Sum Th (List Th):=if c % 13<9 then .inr (rules.map ruT) else if c % 13<12 then E5 sw rules (c / 13) (c % 13).toNat else .inr ((rules++[allR sw]).map ruT)
section
def Q7 (K:PySem.W.Frag) (t:Adr):Sp:=fun vs H Q _=>∃ (a:Addr) (ns:List Nat),vs=[.ref a]/\SqL K H a (ns.map fun n:Nat=>V.int (n:Int))/\(∀ n∈ns,n<=1000)/\Q (.int (setM ns)) H
def Nf (K:PySem.W.Frag) (t:Adr):Sp:=fun vs H Q _=>∃ (a:Addr) (ms:List Int),vs=[.ref a]/\SqL K H a (ms.map V.int)/\Q (.int (Ft ms)) H
def lenD (lo hi:Int):Dt->Bool
 | .at_ (.str z)=>decide (lo<=(z.length:Int))&&decide ((z.length:Int)<=hi)
 | _=>false
def Y4 (K:PySem.W.Frag) (t:Adr):Sp:=fun vs H Q _=>∃ (v:V) (d:Dt) (lo hi:Int),vs=[v,.int lo,.int hi]/\At K H d v/\Cp d/\Q (.bl (lenD lo hi d)) H
def Y5 (K:PySem.W.Frag) (t:Adr):Sp:=fun vs H Q _=>∃ c,vs=[.str ⟨#[c]⟩]/\Q (.bl (B5 c)) H
def Ng (K:PySem.W.Frag) (t:Adr):Sp:=fun vs H Q _=>∃ (v:V) (d:Dt),vs=[v]/\At K H d v/\Cp d /\ ∀ H',Same H H'->Q (.bl (E9 d)) H'
def Tq (K:PySem.W.Frag) (t:Adr):Sp:=fun vs H Q _=>∃ (v:V) (d:Dt),vs=[v]/\At K H d v/\fewD d /\ ∀ H',Same H H'->Q (.bl (Fu d)) H'
def Y6 (K:PySem.W.Frag) (t:Adr):Sp:=fun vs H Q _=>∃ (v:V) (d:Dt),vs=[v]/\At K H d v/\fitD d /\ ∀ H',Same H H'->Q (.bl (swD d).isSome) H'
def Yz (K:PySem.W.Frag) (t:Adr):Sp:=fun vs H Q E=>∃ v,vs=[v]/\((NoSw K H v/\BadX t.c_zap H E) \/ ∃ (a:Addr) (sw:Sw),v=.ref a/\SwIn any H a sw/\okSw sw /\ ∀ H' d,Same H H'->SwAt (fresh H) H' d sw->Q (.ref d) H')
def Yw (K:PySem.W.Frag) (t:Adr):Sp:=fun vs H Q _=>∃ (d:Addr) (sw:Sw),vs=[.ref d]/\SwAt any H d sw/\okSw sw /\ ∀ H' l,Same H H'->TupsAt (fresh H) H' l (Ai sw)->Q (.ref l) H'
def Yv (K:PySem.W.Frag) (t:Adr):Sp:=fun vs H Q _=>∃ (l:Addr) (rows:List (List Str)),vs=[.ref l]/\TupsAt any H l rows/\rows.Nodup/\rows.length<=256 /\ ∀ H' n,Same H H'->NumAt (fresh H) H' n rows->Q (.ref n) H'
def Yy (K:PySem.W.Frag) (t:Adr):Sp:=fun vs H Q _=>∃ (d l:Addr) (sw:Sw),vs=[.ref d,.ref l]/\SwAt any H d sw/\TupsAt any H l (Ai sw)/\okSw sw /\ ∀ H' s,Same H H'->SetsAt (fresh H) H' s sw->Q (.ref s) H'
def Y1 (K:PySem.W.Frag) (t:Adr):Sp:=fun vs H Q _=>∃ (r:Addr) (rule:Sw),vs=[.ref r]/\RuleAt any H r rule/\(rule.map (·.1)).Nodup/\rule.length<=100 /\ ∀ H' c,Same H H'->RuleAt (fresh H) H' c rule->Q (.ref c) H'
def ah4 (K:PySem.W.Frag) (t:Adr):Sp:=fun vs H Q _=>∃ (p l s:Addr) (sw:Sw),vs=[.ref p]/\SelfAt t.c_zas any H p l s/\TupsAt any H l (Ai sw)/\Q (.int (Ai sw).length) H
def ag9 (K:PySem.W.Frag) (t:Adr):Sp:=fun vs H Q _=>∃ (p l s:Addr) (sw:Sw),vs=[.ref p]/\SelfAt t.c_zas any H p l s/\TupsAt any H l (Ai sw)/\(Ai sw).length<=256/\Q (.int (allM sw)) H
def Y3 (K:PySem.W.Frag) (t:Adr):Sp:=fun vs H Q E=>∃ (p l s:Addr) (k:Key) (v:V) (o:Option (Str×List Str)) (sw:Sw),vs=[.ref p,kV k,v]/\SelfAt t.c_zas any H p l s/\SetsAt any H s sw/\okSw sw/\EntV K H k v o /\
 ((∃ e,o=some e/\B1 sw e /\ ∀ H',Same H H'->Q (.int (Dm sw e)) H')\/((∀ e,o=some e -> ¬ B1 sw e)/\BadC t H E))
def ah5 (K:PySem.W.Frag) (t:Adr):Sp:=fun vs H Q E=>∃ (p l s r:Addr) (kvs:List (Key×V)) (os:List (Option (Str×List Str))) (sw:Sw),vs=[.ref p,.ref r]/\okSw sw/\SelfAt t.c_zas (· ≠ r) H p l s/\TupsAt (· ≠ r) H l (Ai sw)/\SetsAt (· ≠ r) H s sw/\BoxV K H r kvs os /\
  ((∃ rule:Sw,os=rule.map some/\(∀ e∈rule,B1 sw e) /\ ∀ H',Same H H'->Q (.int (boxM sw rule)) H')\/((∃ o∈os,∀ e,o=some e -> ¬ B1 sw e) /\ ∀ H' e,(∀ b o,b≠r->H b=some o->H' b=some o)->Rd H' r (.dK kvs)->H' e=some (flO e t.c_zar none)->E (.ref e) none H'))
def ah1 (K:PySem.W.Frag) (t:Adr):Sp:=fun vs H Q E=>∃ (p l s:Addr) (ok:Addr->Prop) (x:V) (sw:Sw),vs=[.ref p,x]/\SelfAt t.c_zas ok H p l s/\TupsAt ok H l (Ai sw)/\SetsAt ok H s sw/\okSw sw /\
 ((∃ rule,GoodE (fun a=>¬ ok a) H sw x rule /\ ∀ H' c,Same H H'->RuleAt (fresh H) H' c rule->Q (.ref c) H')\/(BadE (fun a=>¬ ok a) K H sw x/\BadB t.c_zap (fun b=>x=.ref b) H E))
def ah0 (K:PySem.W.Frag) (t:Adr):Sp:=fun vs H Q E=>∃ (p l s:Addr) (ok bad:Addr->Prop) (v:V) (sw:Sw) (out:Option (List Sw)),vs=[.ref p,v]/\SelfAt t.c_zas ok H p l s/\TupsAt ok H l (Ai sw)/\SetsAt ok H s sw/\okSw sw/\RCase (fun a=>¬ ok a) K H sw bad v out /\
 (∀ rules,out=some rules -> ∀ H' k,Same H H'->RulesAt (fresh H) H' k rules->Q (.ref k) H')/\(out=none->BadB t.c_zap bad H E)
def ah3 (K:PySem.W.Frag) (t:Adr):Sp:=fun vs H Q E=>∃ (p dx:Addr) (v u:V),vs=[.ref p,v,u]/\H p=some (.ins t.c_zas dx []) /\
  ((NoSw K H v /\ ∀ H' e,OffP p (fun _=>False) H H'->FlO H' e t.c_zap none->E (.ref e) none H') \/
   ∃ (a:Addr) (sw:Sw) (bad:Addr->Prop) (out:Option (List Sw)),v=.ref a/\SwIn (· ≠ p) H a sw/\okSw sw/\RCase (· ≠ p) K H sw bad u out /\
     (∀ rules,out=some rules->Cz sw rules≠0 -> ∀ H',(∀ b o,b≠p->H b=some o->H' b=some o)->PanelAt t.c_zas (fun b=>b=p\/H b=none) H' p sw rules->Q .non H') /\
     (∀ rules,out=some rules->Cz sw rules=0 -> ∀ H' e,OffP p (fun _=>False) H H'->FlO H' e t.c_zaq none->E (.ref e) none H') /\
     (out=none -> ∀ H' e,OffP p bad H H'->FlO H' e t.c_zap none->E (.ref e) none H'))
def ah2 (K:PySem.W.Frag) (t:Adr):Sp:=fun vs H Q _=>∃ (p:Addr) (sw:Sw) (rules:List Sw),vs=[.ref p]/\PanelAt t.c_zas any H p sw rules/\Q (.int (Cz sw rules)) H
def Tr (K:PySem.W.Frag) (t:Adr):Sp:=fun vs H Q _=>∃ (a:Addr) (ns:List Int) (k:Nat),vs=[.ref a,.int k]/\SqL K H a (ns.map V.int)/\Q (.int (N4 ns k)) H
def Ek (K:PySem.W.Frag) (t:Adr):Sp:=fun vs H Q _=>∃ c k:Int,vs=[.int c,.int k]/\0<=k/\k<=1000 /\ ∀ H',Same H H'->Q (.int (mixF c k)) H'
def J8 (K:PySem.W.Frag) (t:Adr):Sp:=fun vs H Q _=>∃ (c:Int) (n:Nat),vs=[.int c,.int n]/\n<=5 /\ ∀ H' l (ws:List Str),Same H H'->H l=none->H' l=some (lstO ws)->ws.length=n->ws.Nodup->(∀ z∈ws,okW z)->Q (.ref l) H'
def Y0 (K:PySem.W.Frag) (t:Adr):Sp:=fun vs H Q _=>∃ (c m:Int),vs=[.int c,.int m]/\4<=m/\m<=256 /\ ∀ H' l sw,Same H H'->SwIn any H' l sw->okSw sw->Q (.ref l) H'
def Nd (K:PySem.W.Frag) (t:Adr):Sp:=fun vs H Q _=>∃ (l:Addr) (sw:Sw),vs=[.ref l]/\SwIn any H l sw/\okSw sw /\ ∀ H' r,Same H H'->Pz any H' r (Ai sw)->Q (.ref r) H'
def Nc (K:PySem.W.Frag) (t:Adr):Sp:=fun vs H Q _=>∃ (d l a:Addr) (n:Nat) (r:List Str) (sw rule:Sw),vs=[.ref d,.ref l,.ref a]/\RuleAt any H d rule/\SwIn any H l sw/\okSw sw/\So sw rule/\H a=some (lstO r)/\(Ai sw)[n]? = some r /\ ∀ H',Same H H'->Q (.bl (inB sw rule n)) H'
def Y8 (K:PySem.W.Frag) (t:Adr):Sp:=fun vs H Q _=>∃ (c:Int) (l:Addr) (sw:Sw),vs=[.int c,.ref l]/\SwIn any H l sw/\okSw sw /\ ∀ H' d,Same H H'->RuleNd (fresh H) H' d (Nj c sw)->Q (.ref d) H'
def Y7 (K:PySem.W.Frag) (t:Adr):Sp:=fun vs H Q _=>∃ (c:Int) (l:Addr) (sw:Sw),vs=[.int c,.ref l]/\SwIn any H l sw/\okSw sw /\ ∀ H' k rules,Same H H'->RulesAt (fresh H) H' k rules->(∀ r∈rules,Dc sw r)->rules.length<=3->Cz sw rules≠0->Q (.ref k) H'
def Pq (K:PySem.W.Frag) (t:Adr):Sp:=fun vs H Q _=>∃ (l:Addr) (sw:Sw),vs=[.ref l]/\SwIn any H l sw/\okSw sw /\ ∀ H' D (es:List (((Str×List Str)×Addr)×Addr)),Same H H'->H D=none->es.map (·.1.1)=sw->SwL H H' D es->(es.map (·.1.2)).Nodup->Q (.ref D) H'
def Yu (K:PySem.W.Frag) (t:Adr):Sp:=fun vs H Q _=>∃ (l:Addr) (c:Int) (m:Nat) (sw:Sw),vs=[.ref l,.int c,.int (m:Int)]/\m<9/\SwIn any H l sw/\okSw sw /\ ∀ H' v,Same H H'->NoSw K H' v->HandD K H' v (Cv sw c m)->Q v H'
def Yx (K:PySem.W.Frag) (t:Adr):Sp:=fun vs H Q _=>∃ (l k:Addr) (c:Int) (m:Nat) (sw:Sw) (rules:List Sw),vs=[.ref l,.ref k,.int c,.int (m:Int)]/\9<=m/\m<12/\SwIn any H l sw/\okSw sw/\RulesAt any H k rules/\(∀ r∈rules,Dc sw r)/\rules.length<=3 /\ ∀ H' v,Same H H'->RCase any K H' sw (fun b=>H b=none) v none->BarD K H' v (E5 sw rules c m)->Q v H'
def Ts (K:PySem.W.Frag) (t:Adr):Sp:=fun vs H Q _=>∃ (l k:Addr) (c:Int) (sw:Sw) (rules:List Sw),vs=[.ref l,.ref k,.int c]/\SwIn any H l sw/\okSw sw/\RulesAt any H k rules/\(∀ r∈rules,Dc sw r)/\rules.length<=3 /\
 ∀ H' q v u,Same H H'->H' q=some (.tup [v,u])->HandD K H' v (R5 sw c)->BarD K H' u (Ro sw rules c) ->
  ((c % 13≠12/\(NoSw K H' v \/ ∃ a,v=.ref a/\SwIn any H' a sw/\RCase any K H' sw (fun b=>H b=none) u none))\/(c % 13=12 /\ ∃ a rs,v=.ref a/\SwIn any H' a sw/\RCase any K H' sw (fun b=>H b=none) u (some rs)/\Cz sw rs=0))->Q (.ref q) H'
def J9 (K:PySem.W.Frag) (t:Adr):Sp:=fun vs H Q _=>∃ (v u:V) (bad:Addr->Prop),vs=[v,u] /\
  ((NoSw K H v /\ ∀ H' q,OffB bad H H'->H' q=some (.tup [.str "bad", .non])->Q (.ref q) H') \/
   ∃ (a:Addr) (sw:Sw) (out:Option (List Sw)),v=.ref a/\SwIn any H a sw/\okSw sw/\RCase any K H sw bad u out /\
     (∀ rules,out=some rules->Cz sw rules≠0 -> ∀ H' q p,Same H H'->PanelAt t.c_zas any H' p sw rules->H' q=some (.tup [.str "made", .ref p])->Q (.ref q) H') /\
     (∀ rules,out=some rules->Cz sw rules=0 -> ∀ H' q,OffB bad H H'->H' q=some (.tup [.str "none", .non])->Q (.ref q) H') /\
     (out=none -> ∀ H' q,OffB bad H H'->H' q=some (.tup [.str "bad", .non])->Q (.ref q) H'))
def Y2 (K:PySem.W.Frag) (t:Adr):Sp:=fun vs H Q _=>∃ (l k:Addr) (sw:Sw) (rules:List Sw),vs=[.ref l,.ref k]/\SwIn any H l sw/\okSw sw/\RulesAt any H k rules/\(∀ r∈rules,Dc sw r/\So sw r)/\rules.length<=8 /\ ∀ H',Same H H'->Q (.int (Cz sw rules)) H'
def Nh (K:PySem.W.Frag) (t:Adr):Sp:=fun vs H Q _=>∃ (a:Addr) (ns:List Int),vs=[.ref a]/\SqL K H a (ns.map V.int) /\ ∀ H',Q (.bl true) H'
end
end K04
namespace K04
open PySem L2
def top (i:Nat):Stmt:=PySem.Challenge.pw_manyleaf_k04_no_panels.main.body.getD i (.Pass ⟨0,0,0,0⟩)
def bl:List Str:=["ValueError", "all", "dict", "enumerate", "int", "isinstance", "len", "list", "range", "set", "str", "tuple"]
section
variable (K:PySem.W.Frag) (t:Adr)
abbrev s_zj:Stmt:=Dg (top 20) 10
abbrev N_zj:List Str:=["self"]
abbrev P_zj:List Str:=["self"]
def i_zj:FI:=⟨t.f_zj,t.d_zj,P_zj,1,ah2 K t,[],[]⟩
abbrev s_zo:Stmt:=top 29
abbrev N_zo:List Str:=["_law_script", "_law_k"]
abbrev P_zo:List Str:=["_law_script", "_law_k"]
def i_zo:FI:=⟨t.f_zo,t.d_zo,P_zo,1,Tr K t,[],[]⟩
abbrev J4:Stmt:=top 30
abbrev V6:List Str:=["_law_cell", "_law_k", "_law_left", "_law_number"]
abbrev Nt:List Str:=["_law_cell", "_law_k"]
def ag0:FI:=⟨t.f_zag,t.d_zag,Nt,1,Ek K t,[],[]⟩
abbrev Jy:Stmt:=top 31
abbrev V0:List Str:=["_law_cell", "_law_many", "_law_letters", "_law_number", "_law_base", "_law_k", "_law_long", "_law_at", "_law_words_here", "_law_signs"]
abbrev Nl:List Str:=["_law_cell", "_law_many"]
def af4:FI:=⟨t.f_zaa,t.d_zaa,Nl,2,J8 K t,[],[]⟩
abbrev s_zl:Stmt:=top 32
abbrev N_zl:List Str:=["_law_cell", "_law_most", "_law_words_here", "_law_switches_here", "_law_product", "_law_k", "_law_size"]
abbrev P_zl:List Str:=["_law_cell", "_law_most"]
def i_zl:FI:=⟨t.f_zl,t.d_zl,P_zl,3,Y0 K t,[],[]⟩
abbrev J1:Stmt:=top 33
abbrev V3:List Str:=["_law_switches_here", "_law_rows_here", "_law_word", "_law_settings", "_law_longer", "_law_row", "_law_setting"]
abbrev Np:List Str:=["_law_switches_here"]
def af7:FI:=⟨t.f_zad,t.d_zad,Np,1,Nd K t,[],[]⟩
abbrev Jz:Stmt:=top 34
abbrev V1:List Str:=["_law_terms_here", "_law_switches_here", "_law_row", "_law_j", "_law_switch"]
abbrev Nm:List Str:=["_law_terms_here", "_law_switches_here", "_law_row"]
def af5:FI:=⟨t.f_zab,t.d_zab,Nm,1,Nc K t,[],[]⟩
abbrev s_zz:Stmt:=top 35
abbrev N_zz:List Str:=["_law_cell", "_law_switches_here", "_law_terms_here", "_law_j", "_law_switch", "_law_number", "_law_some"]
abbrev P_zz:List Str:=["_law_cell", "_law_switches_here"]
def i_zz:FI:=⟨t.f_zz,t.d_zz,P_zz,2,Y8 K t,[],[]⟩
abbrev s_zy:Stmt:=top 36
abbrev N_zy:List Str:=["_law_cell", "_law_switches_here", "_law_rules_here", "_law_left", "_law_k", "_law_rule", "_law_kept"]
abbrev P_zy:List Str:=["_law_cell", "_law_switches_here"]
def i_zy:FI:=⟨t.f_zy,t.d_zy,P_zy,3,Y7 K t,[],[]⟩
abbrev s_zt:Stmt:=top 37
abbrev N_zt:List Str:=["_law_switches_here"]
abbrev P_zt:List Str:=["_law_switches_here"]
def i_zt:FI:=⟨t.f_zt,t.d_zt,P_zt,1,Pq K t,[],[]⟩
abbrev s_za:Stmt:=top 38
abbrev N_za:List Str:=["_law_switches_here", "_law_cell", "_law_way", "_law_some", "_law_at", "_law_word", "_law_settings", "_law_spot"]
abbrev P_za:List Str:=["_law_switches_here", "_law_cell", "_law_way"]
def i_za:FI:=⟨t.f_za,t.d_za,P_za,2,Yu K t,[],[]⟩
abbrev s_zg:Stmt:=top 39
abbrev N_zg:List Str:=["_law_switches_here", "_law_rules_here", "_law_cell", "_law_way", "_law_word", "_law_settings", "_law_bad"]
abbrev P_zg:List Str:=["_law_switches_here", "_law_rules_here", "_law_cell", "_law_way"]
def i_zg:FI:=⟨t.f_zg,t.d_zg,P_zg,1,Yx K t,[],[]⟩
abbrev s_zu:Stmt:=top 40
abbrev N_zu:List Str:=["_law_switches_here", "_law_rules_here", "_law_cell", "_law_way"]
abbrev P_zu:List Str:=["_law_switches_here", "_law_rules_here", "_law_cell"]
def i_zu:FI:=⟨t.f_zu,t.d_zu,P_zu,3,Ts K t,[],[]⟩
abbrev J2:Stmt:=top 8
abbrev V4:List Str:=["sets", "choices", "one"]
abbrev Nq:List Str:=["sets"]
def af8:FI:=⟨t.f_zae,t.d_zae,Nq,1,Nf K t,[],[]⟩
abbrev s_zq:Stmt:=Dg (top 20) 3
abbrev N_zq:List Str:=["self"]
abbrev P_zq:List Str:=["self"]
def i_zq:FI:=⟨t.f_zq,t.d_zq,P_zq,1,ah4 K t,[],[]⟩
abbrev s_zd:Stmt:=Dg (top 20) 9
abbrev N_zd:List Str:=["self"]
abbrev P_zd:List Str:=["self"]
def i_zd:FI:=⟨t.f_zd,t.d_zd,P_zd,2,ag9 K t,[],[]⟩
abbrev s_zs:Stmt:=top 12
abbrev N_zs:List Str:=["thing", "least", "greatest"]
abbrev P_zs:List Str:=["thing", "least", "greatest"]
def i_zs:FI:=⟨t.f_zs,t.d_zs,P_zs,1,Y4 K t,[],[]⟩
abbrev s_zw:Stmt:=top 13
abbrev N_zw:List Str:=["sign"]
abbrev P_zw:List Str:=["sign"]
def i_zw:FI:=⟨t.f_zw,t.d_zw,P_zw,1,Y5 K t,[],[]⟩
abbrev J3:Stmt:=top 11
abbrev V5:List Str:=["thing"]
abbrev Nr:List Str:=["thing"]
def af9:FI:=⟨t.f_zaf,t.d_zaf,Nr,2,Ng K t,[],[]⟩
abbrev s_zf:Stmt:=top 21
abbrev N_zf:List Str:=["things"]
abbrev P_zf:List Str:=["things"]
def i_zf:FI:=⟨t.f_zf,t.d_zf,P_zf,3,Tq K t,[],[]⟩
abbrev s_zr:Stmt:=Dg (top 20) 12
abbrev N_zr:List Str:=["self", "word", "settings"]
abbrev P_zr:List Str:=["self", "word", "settings"]
def i_zr:FI:=⟨t.f_zr,t.d_zr,P_zr,4,Y3 K t,[],[]⟩
abbrev s_zv:Stmt:=Dg (top 20) 11
abbrev N_zv:List Str:=["self", "terms", "choices", "word"]
abbrev P_zv:List Str:=["self", "terms"]
def i_zv:FI:=⟨t.f_zv,t.d_zv,P_zv,5,ah5 K t,[],[]⟩
abbrev s_zm:Stmt:=top 27
abbrev N_zm:List Str:=["rule", "copied", "word"]
abbrev P_zm:List Str:=["rule"]
def i_zm:FI:=⟨t.f_zm,t.d_zm,P_zm,1,Y1 K t,[],[]⟩
abbrev s_zi:Stmt:=Dg (top 20) 2
abbrev N_zi:List Str:=["self", "rule"]
abbrev P_zi:List Str:=["self", "rule"]
def i_zi:FI:=⟨t.f_zi,t.d_zi,P_zi,6,ah1 K t,[],[]⟩
abbrev s_ze:Stmt:=Dg (top 20) 1
abbrev N_ze:List Str:=["self", "rules"]
abbrev P_ze:List Str:=["self", "rules"]
def i_ze:FI:=⟨t.f_ze,t.d_ze,P_ze,7,ah0 K t,[],[]⟩
abbrev s_zx:Stmt:=top 23
abbrev N_zx:List Str:=["switch"]
abbrev P_zx:List Str:=["switch"]
def i_zx:FI:=⟨t.f_zx,t.d_zx,P_zx,4,Y6 K t,[],[]⟩
abbrev s_zk:Stmt:=top 22
abbrev N_zk:List Str:=["switches", "settings", "many", "switch"]
abbrev P_zk:List Str:=["switches"]
def i_zk:FI:=⟨t.f_zk,t.d_zk,P_zk,5,Yz K t,[],[]⟩
abbrev s_zc:Stmt:=top 24
abbrev N_zc:List Str:=["settings", "tuples", "word", "longer", "ahead"]
abbrev P_zc:List Str:=["settings"]
def i_zc:FI:=⟨t.f_zc,t.d_zc,P_zc,1,Yw K t,[],[]⟩
abbrev s_zb:Stmt:=top 25
abbrev N_zb:List Str:=["tuples", "numbers", "number", "told"]
abbrev P_zb:List Str:=["tuples"]
def i_zb:FI:=⟨t.f_zb,t.d_zb,P_zb,1,Yv K t,[],[]⟩
abbrev J5:Stmt:=top 7
abbrev V7:List Str:=["numbers", "choices", "number"]
abbrev Nu:List Str:=["numbers"]
def ag1:FI:=⟨t.f_zah,t.d_zah,Nu,1,Q7 K t,[],[]⟩
abbrev s_zh:Stmt:=top 26
abbrev N_zh:List Str:=["settings", "tuples", "sets", "place", "word", "setting", "having"]
abbrev P_zh:List Str:=["settings", "tuples"]
def i_zh:FI:=⟨t.f_zh,t.d_zh,P_zh,2,Yy K t,[],[]⟩
abbrev s_zp:Stmt:=Dg (top 20) 0
abbrev N_zp:List Str:=["self", "switches", "rules"]
abbrev P_zp:List Str:=["self", "switches", "rules"]
def i_zp:FI:=⟨t.f_zp,t.d_zp,P_zp,8,ah3 K t,[.non],t.du_zp⟩
abbrev J0:Stmt:=top 41
abbrev V2:List Str:=["_law_switches_here", "_law_rules_here", "_law_panel", "_law_told", "e"]
abbrev Nn:List Str:=["_law_switches_here", "_law_rules_here"]
def af6:FI:=⟨t.f_zac,t.d_zac,Nn,10,J9 K t,[],[]⟩
abbrev s_zn:Stmt:=top 42
abbrev N_zn:List Str:=["_law_switches_here", "_law_rules_here", "_law_choices", "_law_number", "_law_row"]
abbrev P_zn:List Str:=["_law_switches_here", "_law_rules_here"]
def i_zn:FI:=⟨t.f_zn,t.d_zn,P_zn,2,Y2 K t,[],[]⟩
abbrev Dy:Stmt:=top 43
abbrev V8:List Str:=["_law_script", "_law_switches_here", "_law_rules_here", "_law_told", "_law_panel", "_law_cell", "_law_handed", "_law_bars", "_law_due"]
abbrev Nv:List Str:=["_law_script"]
def Ch:List MI:=[⟨t.c_zas,i_zd K t⟩]
def Fq:List MI:=[⟨t.c_zas,i_zj K t⟩]
def Mz:List MI:=[⟨t.c_zas,i_zv K t⟩]
def M0:List MI:=[⟨t.c_zas,i_zq K t⟩]
def Eh:List MI:=[⟨t.c_zas,i_zi K t⟩]
def Dp:List MI:=[⟨t.c_zas,i_ze K t⟩]
def Ij:List MI:=[⟨t.c_zas,i_zr K t⟩]
def gb_0 (K:PySem.W.Frag) (t:Adr):List (Str×GB):=[("LeafError", .exc t.c_zao none),("BadPanel", .exc t.c_zap none),("NoChoice", .exc t.c_zaq none),("BadCond", .exc t.c_zar none),("Panel", .val (.ref t.c_zas) (.ref t.c_zas)),("MOST_SWITCHES", .val (.int 5) t.u_zal),("LEAST_SETTINGS", .val (.int 2) t.u_zaj),("MOST_SETTINGS", .val (.int 4) t.u_zak),("MOST_CHOICES", .val (.int 256) t.u_zam),("MOST_RULES", .val (.int 8) t.u_zan)]
def gb_1:List (Str×GB):=("", .met "allowed" (Fq K t))::("", .met "many" (M0 K t))::("_law_cell_at", .fn (i_zo K t))::("_law_mix", .fn (ag0 K t))::("_law_rows", .fn (af7 K t))::("_law_hits", .fn (af5 K t))::("_law_copied", .fn (i_zt K t))::("_law_rules_spoilt", .fn (i_zg K t))::("union_of", .fn (af8 K t))::("has_length", .fn (i_zs K t))::("is_letter", .fn (i_zw K t))::("copied_rule", .fn (i_zm K t))::("settings_of_choices", .fn (i_zc K t))::("numbers_by_settings", .fn (i_zb K t))::("set_of", .fn (ag1 K t))::gb_0 K t
def gb_2:List (Str×GB):=("", .met "all_choices" (Ch K t))::("_law_words", .fn (af4 K t))::("_law_terms", .fn (i_zz K t))::("_law_switches_spoilt", .fn (i_za K t))::("is_word", .fn (af9 K t))::("sets_of_settings", .fn (i_zh K t))::("_law_allowed", .fn (i_zn K t))::gb_1 K t
def gb_3:List (Str×GB):=("_law_switches", .fn (i_zl K t))::("_law_rules", .fn (i_zy K t))::("_law_spoilt", .fn (i_zu K t))::("are_unlike_words", .fn (i_zf K t))::gb_2 K t
def gb_4:List (Str×GB):=("", .met "term" (Ij K t))::("is_switch", .fn (i_zx K t))::gb_3 K t
def gb_5:List (Str×GB):=("", .met "box" (Mz K t))::("read_switches", .fn (i_zk K t))::gb_4 K t
def gb_6:List (Str×GB):=("", .met "read_rule" (Eh K t))::gb_5 K t
def gb_7:List (Str×GB):=("", .met "read_rules" (Dp K t))::gb_6 K t
def gb_8:List (Str×GB):=gb_7 K t
def gb_9:List (Str×GB):=("Panel", .cls t.c_zas (some (i_zp K t)))::gb_8 K t
def W4:List (Str×GB):=("_law_made", .fn (af6 K t))::gb_9 K t
end
def t_zj (K:PySem.W.Frag) (t:Adr):DS:=
 (dSeq (dRet (dUn (De K "free") (dVar 0)))
 Ad)
theorem a15 (K:PySem.W.Frag) (t:Adr):wSs 40 (defG K N_zj (Ac s_zj) (gb_0 K t) bl) (Ah s_zj)=t_zj K t:=by kernel_rfl
theorem a41:Ak N_zj P_zj (Ac s_zj):=⟨rfl,rfl,rfl,by decide +kernel,rfl,by decide +kernel,by decide +kernel⟩
theorem a84:Ay N_zj (Ac s_zj)=true:=by decide +kernel
def t_zo (K:PySem.W.Frag) (t:Adr):DS:=
 (dSeq (dIf (dTst (dBin rLtD (dVar 1) (dFn (fun vs H Q _=>(rLen K) vs H Q) (Aa (dVar 0) dNil)))) (dSeq (dRet (dBin (rIxD K) (dVar 0) (dVar 1)))
  Ad) Ad)
 (dSeq (dRet (dC (.int 0)))
 Ad))
theorem a20 (K:PySem.W.Frag) (t:Adr):wSs 40 (defG K N_zo (Ac s_zo) (gb_0 K t) bl) (Ah s_zo)=t_zo K t:=by kernel_rfl
theorem a46:Ak N_zo P_zo (Ac s_zo):=⟨rfl,rfl,rfl,by decide +kernel,rfl,by decide +kernel,by decide +kernel⟩
theorem a89:Ay N_zo (Ac s_zo)=true:=by decide +kernel
def a71 (K:PySem.W.Frag) (t:Adr):DS:=
 (dSeq (dSet 2 (dBin Yj (dVar 0) (dBin (Ao K) (dBin Cc (dC (.int 27)) (dVar 1)) (dC (.int 1)))))
 (dSeq (dIf (dAnd (dTst (dBin (rEqD K false) (dBin Ar (dVar 0) (dC (.int 2))) (dC (.int 0)))) (dTst (dBin (rInD K true) (dVar 2) (dTup (Aa (dC (.int 0)) (Aa (dUn Tg (dC (.int 1))) dNil)))))) (dSeq (dRet (dBin Jw (dVar 2) (dC (.int 134217727))))
  Ad) Ad)
 (dSeq (dSet 3 (dBin Ar (dBin Cc (dBin (Ao K) (dBin Ar (dVar 0) (dC (.int 1000000007))) (dBin Cc (dC (.int 7919)) (dVar 1))) (dC (.int 48271))) (dC (.int 2147483647))))
 (dSeq (dSet 3 (dBin Ar (dBin Cc (dVar 3) (dVar 3)) (dC (.int 2147483629))))
 (dSeq (dRet (dBin Ar (dBin Cc (dVar 3) (dBin (Ao K) (dVar 3) (dC (.int 3)))) (dC (.int 2147483587))))
 Ad)))))
theorem aq8 (K:PySem.W.Frag) (t:Adr):wSs 40 (defG K V6 (Ac J4) (gb_0 K t) bl) (Ah J4)=a71 K t:=by kernel_rfl
theorem as0:Ak V6 Nt (Ac J4):=⟨rfl,rfl,rfl,by decide +kernel,rfl,by decide +kernel,by decide +kernel⟩
theorem at8:Ay V6 (Ac J4)=true:=by decide +kernel
def a65 (K:PySem.W.Frag) (t:Adr):DS:=
 (dSeq (dSet 2 (dC (.str "abcdefghijklmnopqrstuvwxyz")))
 (dSeq (dSet 3 (dFn (spE (Ek K t) []) (Aa (dVar 0) (Aa (dC (.int 1)) dNil))))
 (dSeq (dIf (dTst (dBin (rEqD K false) (dBin Ar (dBin A5 (dVar 3) (dC (.int 64))) (dC (.int 3))) (dC (.int 0)))) (dSeq (dSet 4 (dMt (rMt K [⟨"str", "str.join", Tf K⟩]) (dC (.str "")) (Aa (Bt [none,some 0,some 2] (iRng (Aa (dC (.int 8)) dNil)) (gdN 0) dYes (dBin (rIxD K) (dVar 2) (dBin Ar (dFn (spE (Ek K t) []) (Aa (dVar 1) (Aa (dBin (Ao K) (dC (.int 2)) (dVar 0)) dNil))) (dC (.int 26))))) dNil)))
  (dSeq (dRet (Bt [none,some 4,some 3] (iRng (Aa (dVar 1) dNil)) (gdN 0) dYes (dSl K (dVar 1) Bh (Bv (dBin (Ao K) (dC (.int 1)) (dBin Ar (dBin (Ao K) (dBin A5 (dVar 2) (dC (.int 192))) (dBin Cc (dC (.int 3)) (dVar 0))) (dC (.int 8))))))))
  Ad)) Ad)
 (dSeq (dSet 6 (dBin (Ao K) (dC (.int 1)) (dBin Ar (dVar 3) (dC (.int 8)))))
 (dSeq (dSet 7 (dBin Ar (dBin A5 (dVar 3) (dC (.int 8))) (dVar 6)))
 (dSeq (dSet 8 (dLst dNil))
 (dSeq (dFor (iRng (Aa (dVar 1) dNil)) (gdN 5) (dSeq (dSet 9 (Bt [none,some 7,some 0,some 5,some 2] (iRng (Aa (dVar 6) dNil)) (gdN 0) dYes (dBin (rIxD K) (dVar 4) (dBin Ar (dBin (Ao K) (dFn (spE (Ek K t) []) (Aa (dVar 2) (Aa (dBin (Ao K) (dC (.int 2)) (dVar 0)) dNil))) (dBin Cc (dBin Cc (dC (.int 5)) (dVar 3)) (dFn (fun vs H Q _=>rInt vs H Q) (Aa (dBin (rEqD K false) (dVar 0) (dVar 1)) dNil)))) (dC (.int 26))))))
  (dSeq (Eu (dMt (rMt K [⟨"list", "list.append", Dl⟩]) (dVar 8) (Aa (dMt (rMt K [⟨"str", "str.join", Tf K⟩]) (dC (.str "")) (Aa (dVar 9) dNil)) dNil)))
  Ad)))
 (dSeq (dRet (dVar 8))
 Ad))))))))
theorem aq2 (K:PySem.W.Frag) (t:Adr):wSs 40 (defG K V0 (Ac Jy) (gb_1 K t) bl) (Ah Jy)=a65 K t:=by kernel_rfl
theorem ar4:Ak V0 Nl (Ac Jy):=⟨rfl,rfl,rfl,by decide +kernel,rfl,by decide +kernel,by decide +kernel⟩
theorem at0:Ay V0 (Ac Jy)=true:=by decide +kernel
def t_zl (K:PySem.W.Frag) (t:Adr):DS:=
 (dSeq (dSet 2 (dFn (spE (J8 K t) []) (Aa (dVar 0) (Aa (dC (.int 5)) dNil))))
 (dSeq (dSet 3 (dLst dNil))
 (dSeq (dSet 4 (dC (.int 1)))
 (dSeq (dFor (iRng (Aa (dBin (Ao K) (dC (.int 1)) (dBin Ar (dFn (spE (Ek K t) []) (Aa (dVar 0) (Aa (dC (.int 20)) dNil))) (dC (.int 5)))) dNil)) (gdN 5) (dSeq (dSet 6 (dBin (Ao K) (dC (.int 2)) (dBin Ar (dFn (spE (Ek K t) []) (Aa (dVar 0) (Aa (dBin (Ao K) (dC (.int 21)) (dVar 5)) dNil))) (dC (.int 3)))))
  (dSeq (dIf (dTst (dBin rGtD (dBin Cc (dVar 4) (dVar 6)) (dVar 1))) (dSeq (dSet 6 (dC (.int 2)))
   Ad) Ad)
  (dSeq (dIf (dTst (dBin rLeD (dBin Cc (dVar 4) (dVar 6)) (dVar 1))) (dSeq (dSet 4 (dBin Cc (dVar 4) (dVar 6)))
   (dSeq (Eu (dMt (rMt K [⟨"list", "list.append", Dl⟩]) (dVar 3) (Aa (dTup (Aa (dBin (rIxD K) (dVar 2) (dVar 5)) (Aa (dFn (spE (J8 K t) []) (Aa (dBin (Ao K) (dBin (Ao K) (dVar 0) (dVar 5)) (dC (.int 1))) (Aa (dVar 6) dNil))) dNil))) dNil)))
   Ad)) Ad)
  Ad))))
 (dSeq (dRet (dVar 3))
 Ad)))))
theorem a17 (K:PySem.W.Frag) (t:Adr):wSs 40 (defG K N_zl (Ac s_zl) (gb_2 K t) bl) (Ah s_zl)=t_zl K t:=by kernel_rfl
theorem a43:Ak N_zl P_zl (Ac s_zl):=⟨rfl,rfl,rfl,by decide +kernel,rfl,by decide +kernel,by decide +kernel⟩
theorem a86:Ay N_zl (Ac s_zl)=true:=by decide +kernel
def a68 (K:PySem.W.Frag) (t:Adr):DS:=
 (dSeq (dSet 1 (dLst (Aa (dLst dNil) dNil)))
 (dSeq (dFor (iVal K (dVar 0)) (gdT K 2 [(gdN 2),(gdN 3)]) (dSeq (dSet 4 (dLst dNil))
  (dSeq (dFor (iVal K (dVar 1)) (gdN 5) (dSeq (dFor (iVal K (dVar 3)) (gdN 6) (dSeq (Eu (dMt (rMt K [⟨"list", "list.append", Dl⟩]) (dVar 4) (Aa (dBin (Ao K) (dVar 5) (dLst (Aa (dVar 6) dNil))) dNil)))
    Ad))
   Ad))
  (dSeq (dSet 1 (dVar 4))
  Ad))))
 (dSeq (dRet (dVar 1))
 Ad)))
theorem aq5 (K:PySem.W.Frag) (t:Adr):wSs 40 (defG K V3 (Ac J1) (gb_0 K t) bl) (Ah J1)=a68 K t:=by kernel_rfl
theorem ar7:Ak V3 Np (Ac J1):=⟨rfl,rfl,rfl,by decide +kernel,rfl,by decide +kernel,by decide +kernel⟩
theorem at5:Ay V3 (Ac J1)=true:=by decide +kernel
def a66 (K:PySem.W.Frag) (t:Adr):DS:=
 (dSeq (dFor (iEn K (Aa (dVar 1) dNil)) (gdT K 2 [(gdN 3),(gdN 4)]) (dSeq (dIf (dAnd (dTst (dBin (rInD K false) (dBin (rIxD K) (dVar 4) (dC (.int 0))) (dVar 0))) (dTst (dBin (rInD K true) (dBin (rIxD K) (dVar 2) (dVar 3)) (dBin (rIxD K) (dVar 0) (dBin (rIxD K) (dVar 4) (dC (.int 0))))))) (dSeq (dRet (dC (.bl false)))
   Ad) Ad)
  Ad))
 (dSeq (dRet (dC (.bl true)))
 Ad))
theorem aq3 (K:PySem.W.Frag) (t:Adr):wSs 40 (defG K V1 (Ac Jz) (gb_0 K t) bl) (Ah Jz)=a66 K t:=by kernel_rfl
theorem ar5:Ak V1 Nm (Ac Jz):=⟨rfl,rfl,rfl,by decide +kernel,rfl,by decide +kernel,by decide +kernel⟩
theorem at3:Ay V1 (Ac Jz)=true:=by decide +kernel
def t_zz (K:PySem.W.Frag) (t:Adr):DS:=
 (dSeq (dSet 2 Et)
 (dSeq (dFor (iEn K (Aa (dVar 1) dNil)) (gdT K 2 [(gdN 3),(gdN 4)]) (dSeq (dSet 5 (dFn (spE (Ek K t) []) (Aa (dVar 0) (Aa (dBin (Ao K) (dC (.int 10)) (dVar 3)) dNil))))
  (dSeq (dSet 6 (Bt [none,none,some 5] (iEn K (Aa (dBin (rIxD K) (dVar 4) (dC (.int 1))) dNil)) (gdT K 2 [(gdN 0),(gdN 1)]) (dTst (dBin (rEqD K false) (dBin Jw (dBin Yj (dBin A5 (dVar 2) (dC (.int 3))) (dVar 0)) (dC (.int 1))) (dC (.int 1)))) (dVar 1)))
  (dSeq (dIf (dAnd (dTst (dBin (rEqD K false) (dBin Ar (dVar 5) (dC (.int 3))) (dC (.int 0)))) (dTst (dBin (rEqD K true) (dVar 6) (dLst dNil)))) (dSeq (dAsg (dVar 6) (By K (dVar 2) (dBin (rIxD K) (dVar 4) (dC (.int 0)))))
   Ad) Ad)
  Ad))))
 (dSeq (dRet (dVar 2))
 Ad)))
theorem a31 (K:PySem.W.Frag) (t:Adr):wSs 40 (defG K N_zz (Ac s_zz) (gb_1 K t) bl) (Ah s_zz)=t_zz K t:=by kernel_rfl
theorem a57:Ak N_zz P_zz (Ac s_zz):=⟨rfl,rfl,rfl,by decide +kernel,rfl,by decide +kernel,by decide +kernel⟩
theorem ba0:Ay N_zz (Ac s_zz)=true:=by decide +kernel
def t_zy (K:PySem.W.Frag) (t:Adr):DS:=
 (dSeq (dSet 2 (dLst dNil))
 (dSeq (dSet 3 (dFn (spE (Nd K t) []) (Aa (dVar 1) dNil)))
 (dSeq (dFor (iRng (Aa (dBin Ar (dFn (spE (Ek K t) []) (Aa (dVar 0) (Aa (dC (.int 1)) dNil))) (dC (.int 4))) dNil)) (gdN 4) (dSeq (dSet 5 (dFn (spE (Y8 K t) []) (Aa (dBin (Ao K) (dVar 0) (dBin Cc (dC (.int 101)) (dVar 4))) (Aa (dVar 1) dNil))))
  (dSeq (dSet 6 (Bt [none,some 5,some 1] (iVal K (dVar 3)) (gdN 0) (dNot (dTru K (dFn (spE (Nc K t) []) (Aa (dVar 1) (Aa (dVar 2) (Aa (dVar 0) dNil)))))) (dVar 0)))
  (dSeq (dIf (dAnd (dTst (dBin (rEqD K true) (dVar 5) Et)) (dTst (dBin (rEqD K true) (dVar 6) (dLst dNil)))) (dSeq (Eu (dMt (rMt K [⟨"list", "list.append", Dl⟩]) (dVar 2) (Aa (dVar 5) dNil)))
   (dSeq (dSet 3 (dVar 6))
   Ad)) Ad)
  Ad))))
 (dSeq (dRet (dVar 2))
 Ad))))
theorem a30 (K:PySem.W.Frag) (t:Adr):wSs 40 (defG K N_zy (Ac s_zy) (gb_2 K t) bl) (Ah s_zy)=t_zy K t:=by kernel_rfl
theorem a56:Ak N_zy P_zy (Ac s_zy):=⟨rfl,rfl,rfl,by decide +kernel,rfl,by decide +kernel,by decide +kernel⟩
theorem a99:Ay N_zy (Ac s_zy)=true:=by decide +kernel
def t_zt (K:PySem.W.Frag) (t:Adr):DS:=
 (dSeq (dRet (Bt [none,none] (iVal K (dVar 0)) (gdT K 2 [(gdN 0),(gdN 1)]) dYes (dTup (Aa (dVar 0) (Aa (dFn (fun vs H Q _=>(Fg K) vs H Q) (Aa (dVar 1) dNil)) dNil)))))
 Ad)
theorem a25 (K:PySem.W.Frag) (t:Adr):wSs 40 (defG K N_zt (Ac s_zt) (gb_0 K t) bl) (Ah s_zt)=t_zt K t:=by kernel_rfl
theorem a51:Ak N_zt P_zt (Ac s_zt):=⟨rfl,rfl,rfl,by decide +kernel,rfl,by decide +kernel,by decide +kernel⟩
theorem a94:Ay N_zt (Ac s_zt)=true:=by decide +kernel
def t_za (K:PySem.W.Frag) (t:Adr):DS:=
 (dSeq (dSet 3 (dFn (spE (Pq K t) []) (Aa (dVar 0) dNil)))
 (dSeq (dSet 4 (dBin Ar (dVar 1) (dFn (fun vs H Q _=>(rLen K) vs H Q) (Aa (dVar 3) dNil))))
 (dSeq (dAsg (dBin (rIxD K) (dVar 3) (dVar 4)) (gdT K 2 [(gdN 5),(gdN 6)]))
 (dSeq (dIf (dTst (dBin (rEqD K false) (dVar 2) (dC (.int 0)))) (dSeq (dRet (dBin (rIxD K) (dLst (Aa (dC .non) (Aa (dC (.int 5)) (Aa (dC (.str "ab")) (Aa (dTup (Aa (dTup (Aa (dC (.str "a")) (Aa (dLst (Aa (dC (.str "b")) (Aa (dC (.str "c")) dNil))) dNil))) dNil)) (Aa (Cf [((dC (.str "a")),(dLst (Aa (dC (.str "b")) (Aa (dC (.str "c")) dNil))))]) (Aa (dLst dNil) dNil))))))) (dBin Ar (dBin A5 (dVar 1) (dC (.int 5))) (dC (.int 6)))))
  Ad) Ad)
 (dSeq (dIf (dTst (dBin (rEqD K false) (dVar 2) (dC (.int 1)))) (dSeq (dAsg (dBin (rIxD K) (dLst (Aa (dLst (Aa (dVar 5) (Aa (dVar 6) dNil))) (Aa (dTup (Aa (dVar 5) dNil)) (Aa (dTup (Aa (dVar 5) (Aa (dVar 6) (Aa (dVar 6) dNil)))) (Aa (dVar 5) (Aa (dC .non) dNil)))))) (dBin Ar (dBin A5 (dVar 1) (dC (.int 5))) (dC (.int 5)))) (By K (dVar 3) (dVar 4)))
  Ad) Ad)
 (dSeq (dIf (dTst (dBin (rEqD K false) (dVar 2) (dC (.int 2)))) (dSeq (dAsg (dTup (Aa (dBin (rIxD K) (dLst (Aa (dC (.str "")) (Aa (dBin (Ao K) (dC (.str "A")) (dSl K (dVar 5) (Bv (dC (.int 1))) Bh)) (Aa (dBin (Ao K) (dSl K (dVar 5) Bh (Bv (dC (.int 1)))) (dC (.str "1"))) (Aa (dC (.str "abcdefghi")) (Aa (dC .non) (Aa (dC (.int 3)) (Aa (dTup (Aa (dVar 5) dNil)) dNil)))))))) (dBin Ar (dBin A5 (dVar 1) (dC (.int 5))) (dC (.int 7)))) (Aa (dVar 6) dNil))) (By K (dVar 3) (dVar 4)))
  Ad) Ad)
 (dSeq (dIf (dTst (dBin (rEqD K false) (dVar 2) (dC (.int 3)))) (dSeq (dAsg (dTup (Aa (dVar 5) (Aa (dBin (rIxD K) (dLst (Aa (dFn (fun vs H Q _=>(Ej K) vs H Q) (Aa (dVar 6) dNil)) (Aa (dC (.str "ab")) (Aa (dC .non) (Aa (dLst dNil) (Aa (dSl K (dVar 6) Bh (Bv (dC (.int 1)))) (Aa (dBin (Ao K) (dVar 6) (dSl K (dVar 6) Bh (Bv (dC (.int 1))))) dNil))))))) (dBin Ar (dBin A5 (dVar 1) (dC (.int 5))) (dC (.int 6)))) dNil))) (By K (dVar 3) (dVar 4)))
  Ad) Ad)
 (dSeq (dIf (dTst (dBin (rEqD K false) (dVar 2) (dC (.int 4)))) (dSeq (dSet 7 (dBin Ar (dBin A5 (dVar 1) (dC (.int 5))) (dFn (fun vs H Q _=>(rLen K) vs H Q) (Aa (dVar 6) dNil))))
  (dSeq (dAsg (dBin (rIxD K) (dLst (Aa (dC (.str "")) (Aa (dC (.str "A")) (Aa (dC (.str "abcdefghi")) (Aa (dC (.int 1)) (Aa (dC .non) (Aa (dLst (Aa (dC (.str "a")) dNil)) (Aa (dBin (rIxD K) (dVar 6) (dBin Pd (dVar 7) (dC (.int 1)))) dNil)))))))) (dBin Ar (dBin A5 (dVar 1) (dC (.int 25))) (dC (.int 7)))) (By K (dVar 6) (dVar 7)))
  Ad)) Ad)
 (dSeq (dIf (dTst (dBin (rEqD K false) (dVar 2) (dC (.int 5)))) (dSeq (Eu (dMt (rMt K [⟨"list", "list.insert", Gg⟩]) (dVar 3) (Aa (dBin Ar (dBin A5 (dVar 1) (dC (.int 5))) (dBin (Ao K) (dFn (fun vs H Q _=>(rLen K) vs H Q) (Aa (dVar 3) dNil)) (dC (.int 1)))) (Aa (dTup (Aa (dVar 5) (Aa (dLst (Aa (dC (.str "x")) (Aa (dC (.str "y")) dNil))) dNil))) dNil))))
  Ad) Ad)
 (dSeq (dIf (dTst (dBin (rEqD K false) (dVar 2) (dC (.int 6)))) (dSeq (dRet (Bt [none] (iVal K (dC (.str "abcdef"))) (gdN 0) dYes (dTup (Aa (dVar 0) (Aa (dLst (Aa (dC (.str "x")) (Aa (dC (.str "y")) dNil))) dNil)))))
  Ad) Ad)
 (dSeq (dIf (dTst (dBin (rEqD K false) (dVar 2) (dC (.int 7)))) (dSeq (dRet (Bt [none] (iVal K (dSl K (dC (.str "abcde")) Bh (Bv (dC (.int 5))))) (gdN 0) dYes (dTup (Aa (dVar 0) (Aa (dLst (Aa (dC (.str "w")) (Aa (dC (.str "x")) (Aa (dC (.str "y")) (Aa (dC (.str "z")) dNil))))) dNil)))))
  Ad) Ad)
 (dSeq (dIf (dTst (dBin (rEqD K false) (dVar 2) (dC (.int 8)))) (dSeq (dAsg (dTup (Aa (dVar 5) (Aa (dLst (Aa (dC (.str "v")) (Aa (dC (.str "w")) (Aa (dC (.str "x")) (Aa (dC (.str "y")) (Aa (dC (.str "z")) dNil)))))) dNil))) (By K (dVar 3) (dVar 4)))
  Ad) Ad)
 (dSeq (dRet (dVar 3))
 Ad)))))))))))))
theorem a06 (K:PySem.W.Frag) (t:Adr):wSs 40 (defG K N_za (Ac s_za) (gb_1 K t) bl) (Ah s_za)=t_za K t:=by kernel_rfl
theorem a32:Ak N_za P_za (Ac s_za):=⟨rfl,rfl,rfl,by decide +kernel,rfl,by decide +kernel,by decide +kernel⟩
theorem a75:Ay N_za (Ac s_za)=true:=by decide +kernel
def t_zg (K:PySem.W.Frag) (t:Adr):DS:=
 (dSeq (dAsg (dBin (rIxD K) (dVar 0) (dBin Ar (dVar 2) (dFn (fun vs H Q _=>(rLen K) vs H Q) (Aa (dVar 0) dNil)))) (gdT K 2 [(gdN 4),(gdN 5)]))
 (dSeq (dSet 6 (dLst (Aa (dLst (Aa (dFn (fun vs H Q _=>(Ej K) vs H Q) (Aa (dVar 5) dNil)) dNil)) (Aa (dLst (Aa (dC .non) dNil)) (Aa (dLst (Aa (dC (.int 5)) dNil)) (Aa (dLst (Aa (dLst (Aa (dVar 4) (Aa (dVar 5) dNil))) dNil)) (Aa (dLst (Aa Et dNil)) (Aa (dLst (Aa (Cf [((dVar 4),(dLst dNil))]) dNil)) (Aa (dLst (Aa (Cf [((dVar 4),(dBin (rIxD K) (dVar 5) (dC (.int 0))))]) dNil)) dNil)))))))))
 (dSeq (dSet 6 (dBin (Ao K) (dVar 6) (dLst (Aa (dLst (Aa (Cf [((dVar 4),(dFn (fun vs H Q _=>(Ej K) vs H Q) (Aa (dVar 5) dNil)))]) dNil)) (Aa (dLst (Aa (Cf [((dVar 4),(dBin (Ao K) (dVar 5) (dSl K (dVar 5) Bh (Bv (dC (.int 1))))))]) dNil)) (Aa (dLst (Aa (Cf [((dVar 4),(dLst (Aa (dC (.str "No")) dNil)))]) dNil)) (Aa (dLst (Aa (Cf [((dVar 4),(dLst (Aa (dC .non) dNil)))]) dNil)) dNil)))))))
 (dSeq (dSet 6 (dBin (Ao K) (dVar 6) (dLst (Aa (dLst (Aa (Cf [((dC (.str "no.")),(dVar 5))]) dNil)) (Aa (dLst (Aa (Cf [((dC (.int 1)),(dVar 5))]) dNil)) (Aa (dLst (Aa (Cf [((dVar 4),(dC .non))]) dNil)) dNil))))))
 (dSeq (dIf (dTst (dBin (rEqD K false) (dVar 3) (dC (.int 9)))) (dSeq (dRet (dBin (Ao K) (dVar 1) (dBin (rIxD K) (dVar 6) (dBin Ar (dBin A5 (dVar 2) (dC (.int 5))) (dC (.int 14))))))
  Ad) Ad)
 (dSeq (dIf (dTst (dBin (rEqD K false) (dVar 3) (dC (.int 10)))) (dSeq (dRet (Bt [none,some 5,some 4] (iRng (Aa (dC (.int 9)) dNil)) (gdN 0) dYes (Cf [((dVar 2),(dSl K (dVar 1) Bh (Bv (dC (.int 1)))))])))
  Ad) Ad)
 (dSeq (dRet (dBin (rIxD K) (dLst (Aa (dTup dNil) (Aa (dC (.str "ab")) (Aa (dC (.int 5)) (Aa (Cf [((dVar 4),(dVar 5))]) (Aa (dC (.bl true)) dNil)))))) (dBin Ar (dBin A5 (dVar 2) (dC (.int 5))) (dC (.int 5)))))
 Ad)))))))
theorem a12 (K:PySem.W.Frag) (t:Adr):wSs 40 (defG K N_zg (Ac s_zg) (gb_0 K t) bl) (Ah s_zg)=t_zg K t:=by kernel_rfl
theorem a38:Ak N_zg P_zg (Ac s_zg):=⟨rfl,rfl,rfl,by decide +kernel,rfl,by decide +kernel,by decide +kernel⟩
theorem a81:Ay N_zg (Ac s_zg)=true:=by decide +kernel
def t_zu (K:PySem.W.Frag) (t:Adr):DS:=
 (dSeq (dSet 3 (dBin Ar (dVar 2) (dC (.int 13))))
 (dSeq (dIf (dTst (dBin rLtD (dVar 3) (dC (.int 9)))) (dSeq (dRet (dTup (Aa (dFn (spE (Yu K t) []) (Aa (dVar 0) (Aa (dBin A5 (dVar 2) (dC (.int 13))) (Aa (dVar 3) dNil)))) (Aa (dVar 1) dNil))))
  Ad) Ad)
 (dSeq (dIf (dTst (dBin rLtD (dVar 3) (dC (.int 12)))) (dSeq (dRet (dTup (Aa (dFn (spE (Pq K t) []) (Aa (dVar 0) dNil)) (Aa (dFn (spE (Yx K t) []) (Aa (dVar 0) (Aa (dVar 1) (Aa (dBin A5 (dVar 2) (dC (.int 13))) (Aa (dVar 3) dNil))))) dNil))))
  Ad) Ad)
 (dSeq (dRet (dTup (Aa (dFn (spE (Pq K t) []) (Aa (dVar 0) dNil)) (Aa (dBin (Ao K) (dVar 1) (dLst (Aa (Cf [((dBin (rIxD K) (dBin (rIxD K) (dVar 0) (dC (.int 0))) (dC (.int 0))),(dFn (fun vs H Q _=>(Fg K) vs H Q) (Aa (dBin (rIxD K) (dBin (rIxD K) (dVar 0) (dC (.int 0))) (dC (.int 1))) dNil)))]) dNil))) dNil))))
 Ad))))
theorem a26 (K:PySem.W.Frag) (t:Adr):wSs 40 (defG K N_zu (Ac s_zu) (gb_2 K t) bl) (Ah s_zu)=t_zu K t:=by kernel_rfl
theorem a52:Ak N_zu P_zu (Ac s_zu):=⟨rfl,rfl,rfl,by decide +kernel,rfl,by decide +kernel,by decide +kernel⟩
theorem a95:Ay N_zu (Ac s_zu)=true:=by decide +kernel
def a69 (K:PySem.W.Frag) (t:Adr):DS:=
 (dSeq (dSet 1 (dC (.int 0)))
 (dSeq (dFor (iVal K (dVar 0)) (gdN 2) (dSeq (dSet 1 (dBin rOrD (dVar 1) (dVar 2)))
  Ad))
 (dSeq (dRet (dVar 1))
 Ad)))
theorem aq6 (K:PySem.W.Frag) (t:Adr):wSs 40 (defG K V4 (Ac J2) (gb_0 K t) bl) (Ah J2)=a69 K t:=by kernel_rfl
theorem ar8:Ak V4 Nq (Ac J2):=⟨rfl,rfl,rfl,by decide +kernel,rfl,by decide +kernel,by decide +kernel⟩
theorem at6:Ay V4 (Ac J2)=true:=by decide +kernel
def t_zq (K:PySem.W.Frag) (t:Adr):DS:=
 (dSeq (dRet (dFn (fun vs H Q _=>(rLen K) vs H Q) (Aa (dUn (De K "tuples") (dVar 0)) dNil)))
 Ad)
theorem a22 (K:PySem.W.Frag) (t:Adr):wSs 40 (defG K N_zq (Ac s_zq) (gb_0 K t) bl) (Ah s_zq)=t_zq K t:=by kernel_rfl
theorem a48:Ak N_zq P_zq (Ac s_zq):=⟨rfl,rfl,rfl,by decide +kernel,rfl,by decide +kernel,by decide +kernel⟩
theorem a91:Ay N_zq (Ac s_zq)=true:=by decide +kernel
def t_zd (K:PySem.W.Frag) (t:Adr):DS:=
 (dSeq (dRet (dBin Pd (dBin Ti (dC (.int 1)) (dOwn "many" 0 (M0 K t) (dVar 0) dNil)) (dC (.int 1))))
 Ad)
theorem a09 (K:PySem.W.Frag) (t:Adr):wSs 40 (defG K N_zd (Ac s_zd) (gb_1 K t) bl) (Ah s_zd)=t_zd K t:=by kernel_rfl
theorem a35:Ak N_zd P_zd (Ac s_zd):=⟨rfl,rfl,rfl,by decide +kernel,rfl,by decide +kernel,by decide +kernel⟩
theorem a78:Ay N_zd (Ac s_zd)=true:=by decide +kernel
def t_zs (K:PySem.W.Frag) (t:Adr):DS:=
 (dSeq (dRet (N8 K (dFn (fun vs H Q _=>(rIsi K) vs H Q) (Aa (dVar 0) (Aa (dC (.ty "str")) dNil))) (Eb rLeD rLeD (dVar 1) (dFn (fun vs H Q _=>(rLen K) vs H Q) (Aa (dVar 0) dNil)) (dVar 2))))
 Ad)
theorem a24 (K:PySem.W.Frag) (t:Adr):wSs 40 (defG K N_zs (Ac s_zs) (gb_0 K t) bl) (Ah s_zs)=t_zs K t:=by kernel_rfl
theorem a50:Ak N_zs P_zs (Ac s_zs):=⟨rfl,rfl,rfl,by decide +kernel,rfl,by decide +kernel,by decide +kernel⟩
theorem a93:Ay N_zs (Ac s_zs)=true:=by decide +kernel
def t_zw (K:PySem.W.Frag) (t:Adr):DS:=
 (dSeq (dRet (Eb rLeD rLeD (dC (.str "a")) (dVar 0) (dC (.str "z"))))
 Ad)
theorem a28 (K:PySem.W.Frag) (t:Adr):wSs 40 (defG K N_zw (Ac s_zw) (gb_0 K t) bl) (Ah s_zw)=t_zw K t:=by kernel_rfl
theorem a54:Ak N_zw P_zw (Ac s_zw):=⟨rfl,rfl,rfl,by decide +kernel,rfl,by decide +kernel,by decide +kernel⟩
theorem a97:Ay N_zw (Ac s_zw)=true:=by decide +kernel
def a70 (K:PySem.W.Frag) (t:Adr):DS:=
 (dSeq (dRet (N8 K (dFn (spE (Y4 K t) []) (Aa (dVar 0) (Aa (dC (.int 1)) (Aa (dC (.int 8)) dNil)))) (dFn (fun vs H Q _=>(rAll K) vs H Q) (Aa (Bt [none] (iVal K (dVar 0)) (gdN 0) dYes (dFn (spE (Y5 K t) []) (Aa (dVar 0) dNil))) dNil))))
 Ad)
theorem aq7 (K:PySem.W.Frag) (t:Adr):wSs 40 (defG K V5 (Ac J3) (gb_1 K t) bl) (Ah J3)=a70 K t:=by kernel_rfl
theorem ar9:Ak V5 Nr (Ac J3):=⟨rfl,rfl,rfl,by decide +kernel,rfl,by decide +kernel,by decide +kernel⟩
theorem at7:Ay V5 (Ac J3)=true:=by decide +kernel
def t_zf (K:PySem.W.Frag) (t:Adr):DS:=
 (dSeq (dIf (dOr (dNot (dTru K (dFn (fun vs H Q _=>(rIsi K) vs H Q) (Aa (dVar 0) (Aa (dC (.ty "list")) dNil))))) (dNot (dTru K (dFn (fun vs H Q _=>(rAll K) vs H Q) (Aa (Bt [none] (iVal K (dVar 0)) (gdN 0) dYes (dFn (spE (Ng K t) []) (Aa (dVar 0) dNil))) dNil))))) (dSeq (dRet (dC (.bl false)))
  Ad) Ad)
 (dSeq (dRet (dBin (rEqD K false) (dUn (Il K) (dVar 0)) (dFn (fun vs H Q _=>(rLen K) vs H Q) (Aa (dVar 0) dNil))))
 Ad))
theorem a11 (K:PySem.W.Frag) (t:Adr):wSs 40 (defG K N_zf (Ac s_zf) (gb_2 K t) bl) (Ah s_zf)=t_zf K t:=by kernel_rfl
theorem a37:Ak N_zf P_zf (Ac s_zf):=⟨rfl,rfl,rfl,by decide +kernel,rfl,by decide +kernel,by decide +kernel⟩
theorem a80:Ay N_zf (Ac s_zf)=true:=by decide +kernel
def t_zr (K:PySem.W.Frag) (t:Adr):DS:=
 (dSeq (dIf (dOr (dNot (dTru K (dFn (fun vs H Q _=>(rIsi K) vs H Q) (Aa (dVar 1) (Aa (dC (.ty "str")) dNil))))) (dTst (dBin (rInD K true) (dVar 1) (dUn (De K "sets") (dVar 0))))) (dSeq (B8 K (dFn (fun vs H Q E=>vs.length<=1000/\mkX t.c_zar none 0 vs H Q E) (Aa (dC (.str "there is no such switch")) dNil)))
  Ad) Ad)
 (dSeq (dIf (dOr (dNot (dTru K (dFn (spE (Tq K t) []) (Aa (dVar 2) dNil)))) (dTst (dBin (rEqD K false) (dVar 2) (dLst dNil)))) (dSeq (B8 K (dFn (fun vs H Q E=>vs.length<=1000/\mkX t.c_zar none 0 vs H Q E) (Aa (dC (.str "this is no list of settings")) dNil)))
  Ad) Ad)
 (dSeq (dIf (dNot (dTru K (dFn (fun vs H Q _=>(rAll K) vs H Q) (Aa (Bt [none,some 0,some 1] (iVal K (dVar 2)) (gdN 0) dYes (dBin (rInD K false) (dVar 0) (dBin (rIxD K) (dUn (De K "sets") (dVar 1)) (dVar 2)))) dNil)))) (dSeq (B8 K (dFn (fun vs H Q E=>vs.length<=1000/\mkX t.c_zar none 0 vs H Q E) (Aa (dC (.str "the switch has no such setting")) dNil)))
  Ad) Ad)
 (dSeq (dRet (dFn (spE (Nf K t) []) (Aa (Bt [none,some 0,some 1] (iVal K (dVar 2)) (gdN 0) dYes (dBin (rIxD K) (dBin (rIxD K) (dUn (De K "sets") (dVar 1)) (dVar 2)) (dVar 0))) dNil)))
 Ad))))
theorem a23 (K:PySem.W.Frag) (t:Adr):wSs 40 (defG K N_zr (Ac s_zr) (gb_3 K t) bl) (Ah s_zr)=t_zr K t:=by kernel_rfl
theorem a49:Ak N_zr P_zr (Ac s_zr):=⟨rfl,rfl,rfl,by decide +kernel,rfl,by decide +kernel,by decide +kernel⟩
theorem a92:Ay N_zr (Ac s_zr)=true:=by decide +kernel
def t_zv (K:PySem.W.Frag) (t:Adr):DS:=
 (dSeq (dIf (dNot (dTru K (dFn (fun vs H Q _=>(rIsi K) vs H Q) (Aa (dVar 1) (Aa (dC (.ty "dict")) dNil))))) (dSeq (B8 K (dFn (fun vs H Q E=>vs.length<=1000/\mkX t.c_zar none 0 vs H Q E) (Aa (dC (.str "this is no box")) dNil)))
  Ad) Ad)
 (dSeq (dSet 2 (dOwn "all_choices" 0 (Ch K t) (dVar 0) dNil))
 (dSeq (dFor (iVal K (dVar 1)) (gdN 3) (dSeq (dSet 2 (dBin Jw (dVar 2) (dOwn "term" 2 (Ij K t) (dVar 0) (Aa (dVar 3) (Aa (dBin (rIxD K) (dVar 1) (dVar 3)) dNil)))))
  Ad))
 (dSeq (dRet (dVar 2))
 Ad))))
theorem a27 (K:PySem.W.Frag) (t:Adr):wSs 40 (defG K N_zv (Ac s_zv) (gb_4 K t) bl) (Ah s_zv)=t_zv K t:=by kernel_rfl
theorem a53:Ak N_zv P_zv (Ac s_zv):=⟨rfl,rfl,rfl,by decide +kernel,rfl,by decide +kernel,by decide +kernel⟩
theorem a96:Ay N_zv (Ac s_zv)=true:=by decide +kernel
def t_zm (K:PySem.W.Frag) (t:Adr):DS:=
 (dSeq (dSet 1 Et)
 (dSeq (dFor (iVal K (dVar 0)) (gdN 2) (dSeq (dAsg (dFn (fun vs H Q _=>(Fg K) vs H Q) (Aa (dBin (rIxD K) (dVar 0) (dVar 2)) dNil)) (By K (dVar 1) (dVar 2)))
  Ad))
 (dSeq (dRet (dVar 1))
 Ad)))
theorem a18 (K:PySem.W.Frag) (t:Adr):wSs 40 (defG K N_zm (Ac s_zm) (gb_0 K t) bl) (Ah s_zm)=t_zm K t:=by kernel_rfl
theorem a44:Ak N_zm P_zm (Ac s_zm):=⟨rfl,rfl,rfl,by decide +kernel,rfl,by decide +kernel,by decide +kernel⟩
theorem a87:Ay N_zm (Ac s_zm)=true:=by decide +kernel
def t_zi (K:PySem.W.Frag) (t:Adr):DS:=
 (dSeq (dIf (dOr (dNot (dTru K (dFn (fun vs H Q _=>(rIsi K) vs H Q) (Aa (dVar 1) (Aa (dC (.ty "dict")) dNil))))) (dTst (dBin (rEqD K false) (dFn (fun vs H Q _=>(rLen K) vs H Q) (Aa (dVar 1) dNil)) (dC (.int 0))))) (dSeq (B8 K (dFn (fun vs H Q E=>vs.length<=1000/\mkX t.c_zap none 0 vs H Q E) (Aa (dC (.str "a rule is no dict, or has no entry")) dNil)))
  Ad) Ad)
 (dSeq (dTry K (dSeq (Eu (dOwn "box" 1 (Mz K t) (dVar 0) (Aa (dVar 1) dNil)))
  Ad) [(t.c_zar,.up t.c_zap,(dSeq B7
  Ad))])
 (dSeq (dRet (dFn (spE (Y1 K t) []) (Aa (dVar 1) dNil)))
 Ad)))
theorem a14 (K:PySem.W.Frag) (t:Adr):wSs 40 (defG K N_zi (Ac s_zi) (gb_5 K t) bl) (Ah s_zi)=t_zi K t:=by kernel_rfl
theorem a40:Ak N_zi P_zi (Ac s_zi):=⟨rfl,rfl,rfl,by decide +kernel,rfl,by decide +kernel,by decide +kernel⟩
theorem a83:Ay N_zi (Ac s_zi)=true:=by decide +kernel
def t_ze (K:PySem.W.Frag) (t:Adr):DS:=
 (dSeq (dIf (dTst (dBin (rIsD false) (dVar 1) (dC .non))) (dSeq (dRet (dLst dNil))
  Ad) Ad)
 (dSeq (dIf (dOr (dNot (dTru K (dFn (fun vs H Q _=>(rIsi K) vs H Q) (Aa (dVar 1) (Aa (dC (.ty "list")) dNil))))) (dTst (dBin rGtD (dFn (fun vs H Q _=>(rLen K) vs H Q) (Aa (dVar 1) dNil)) (dC (.int 8))))) (dSeq (B8 K (dFn (fun vs H Q E=>vs.length<=1000/\mkX t.c_zap none 0 vs H Q E) (Aa (dC (.str "the rules are no list of at most eight")) dNil)))
  Ad) Ad)
 (dSeq (dRet (Bt [none,some 0] (iVal K (dVar 1)) (gdN 0) dYes (dOwn "read_rule" 1 (Eh K t) (dVar 1) (Aa (dVar 0) dNil))))
 Ad)))
theorem a10 (K:PySem.W.Frag) (t:Adr):wSs 40 (defG K N_ze (Ac s_ze) (gb_6 K t) bl) (Ah s_ze)=t_ze K t:=by kernel_rfl
theorem a36:Ak N_ze P_ze (Ac s_ze):=⟨rfl,rfl,rfl,by decide +kernel,rfl,by decide +kernel,by decide +kernel⟩
theorem a79:Ay N_ze (Ac s_ze)=true:=by decide +kernel
def t_zx (K:PySem.W.Frag) (t:Adr):DS:=
 (dSeq (dIf (dOr (dNot (dTru K (dFn (fun vs H Q _=>(rIsi K) vs H Q) (Aa (dVar 0) (Aa (dC (.ty "tuple")) dNil))))) (dOr (dTst (dBin (rEqD K true) (dFn (fun vs H Q _=>(rLen K) vs H Q) (Aa (dVar 0) dNil)) (dC (.int 2)))) (dNot (dTru K (dFn (spE (Ng K t) []) (Aa (dBin (rIxD K) (dVar 0) (dC (.int 0))) dNil)))))) (dSeq (dRet (dC (.bl false)))
  Ad) Ad)
 (dSeq (dRet (N8 K (dFn (spE (Tq K t) []) (Aa (dBin (rIxD K) (dVar 0) (dC (.int 1))) dNil)) (Eb rLeD rLeD (dC (.int 2)) (dFn (fun vs H Q _=>(rLen K) vs H Q) (Aa (dBin (rIxD K) (dVar 0) (dC (.int 1))) dNil)) (dC (.int 4)))))
 Ad))
theorem a29 (K:PySem.W.Frag) (t:Adr):wSs 40 (defG K N_zx (Ac s_zx) (gb_3 K t) bl) (Ah s_zx)=t_zx K t:=by kernel_rfl
theorem a55:Ak N_zx P_zx (Ac s_zx):=⟨rfl,rfl,rfl,by decide +kernel,rfl,by decide +kernel,by decide +kernel⟩
theorem a98:Ay N_zx (Ac s_zx)=true:=by decide +kernel
def t_zk (K:PySem.W.Frag) (t:Adr):DS:=
 (dSeq (dIf (dOr (dNot (dTru K (dFn (fun vs H Q _=>(rIsi K) vs H Q) (Aa (dVar 0) (Aa (dC (.ty "list")) dNil))))) (dNot (dTst (Eb rLeD rLeD (dC (.int 1)) (dFn (fun vs H Q _=>(rLen K) vs H Q) (Aa (dVar 0) dNil)) (dC (.int 5)))))) (dSeq (B8 K (dFn (fun vs H Q E=>vs.length<=1000/\mkX t.c_zap none 0 vs H Q E) (Aa (dC (.str "the switches are no list of one to five")) dNil)))
  Ad) Ad)
 (dSeq (dSet 1 Et)
 (dSeq (dSet 2 (dC (.int 1)))
 (dSeq (dFor (iVal K (dVar 0)) (gdN 3) (dSeq (dIf (dOr (dNot (dTru K (dFn (spE (Y6 K t) []) (Aa (dVar 3) dNil)))) (dTst (dBin (rInD K false) (dBin (rIxD K) (dVar 3) (dC (.int 0))) (dVar 1)))) (dSeq (B8 K (dFn (fun vs H Q E=>vs.length<=1000/\mkX t.c_zap none 0 vs H Q E) (Aa (dC (.str "this is no switch, or it stands there twice")) dNil)))
   Ad) Ad)
  (dSeq (dAsg (dFn (fun vs H Q _=>(Ej K) vs H Q) (Aa (dBin (rIxD K) (dVar 3) (dC (.int 1))) dNil)) (By K (dVar 1) (dBin (rIxD K) (dVar 3) (dC (.int 0)))))
  (dSeq (dSet 2 (dBin Cc (dVar 2) (dFn (fun vs H Q _=>(rLen K) vs H Q) (Aa (dBin (rIxD K) (dVar 3) (dC (.int 1))) dNil))))
  Ad))))
 (dSeq (dIf (dTst (dBin rGtD (dVar 2) (dC (.int 256)))) (dSeq (B8 K (dFn (fun vs H Q E=>vs.length<=1000/\mkX t.c_zap none 0 vs H Q E) (Aa (dC (.str "there are too many choices")) dNil)))
  Ad) Ad)
 (dSeq (dRet (dVar 1))
 Ad))))))
theorem a16 (K:PySem.W.Frag) (t:Adr):wSs 40 (defG K N_zk (Ac s_zk) (gb_4 K t) bl) (Ah s_zk)=t_zk K t:=by kernel_rfl
theorem a42:Ak N_zk P_zk (Ac s_zk):=⟨rfl,rfl,rfl,by decide +kernel,rfl,by decide +kernel,by decide +kernel⟩
theorem a85:Ay N_zk (Ac s_zk)=true:=by decide +kernel
def t_zc (K:PySem.W.Frag) (t:Adr):DS:=
 (dSeq (dSet 1 (dLst (Aa (dTup dNil) dNil)))
 (dSeq (dFor (iVal K (dVar 0)) (gdN 2) (dSeq (dSet 3 (dLst dNil))
  (dSeq (dFor (iVal K (dVar 1)) (gdN 4) (dSeq (Eu (dMt (rMt K [⟨"list", "list.extend", Ik⟩]) (dVar 3) (Aa (Bt [none,some 4] (iVal K (dBin (rIxD K) (dVar 0) (dVar 2))) (gdN 0) dYes (dBin (Ao K) (dVar 1) (dTup (Aa (dVar 0) dNil)))) dNil)))
   Ad))
  (dSeq (dSet 1 (dVar 3))
  Ad))))
 (dSeq (dRet (dVar 1))
 Ad)))
theorem a08 (K:PySem.W.Frag) (t:Adr):wSs 40 (defG K N_zc (Ac s_zc) (gb_0 K t) bl) (Ah s_zc)=t_zc K t:=by kernel_rfl
theorem a34:Ak N_zc P_zc (Ac s_zc):=⟨rfl,rfl,rfl,by decide +kernel,rfl,by decide +kernel,by decide +kernel⟩
theorem a77:Ay N_zc (Ac s_zc)=true:=by decide +kernel
def t_zb (K:PySem.W.Frag) (t:Adr):DS:=
 (dSeq (dSet 1 Et)
 (dSeq (dFor (iEn K (Aa (dVar 0) dNil)) (gdT K 2 [(gdN 2),(gdN 3)]) (dSeq (dAsg (dVar 2) (By K (dVar 1) (dVar 3)))
  Ad))
 (dSeq (dRet (dVar 1))
 Ad)))
theorem a07 (K:PySem.W.Frag) (t:Adr):wSs 40 (defG K N_zb (Ac s_zb) (gb_0 K t) bl) (Ah s_zb)=t_zb K t:=by kernel_rfl
theorem a33:Ak N_zb P_zb (Ac s_zb):=⟨rfl,rfl,rfl,by decide +kernel,rfl,by decide +kernel,by decide +kernel⟩
theorem a76:Ay N_zb (Ac s_zb)=true:=by decide +kernel
def a72 (K:PySem.W.Frag) (t:Adr):DS:=
 (dSeq (dSet 1 (dC (.int 0)))
 (dSeq (dFor (iVal K (dVar 0)) (gdN 2) (dSeq (dSet 1 (dBin rOrD (dVar 1) (dBin Ti (dC (.int 1)) (dVar 2))))
  Ad))
 (dSeq (dRet (dVar 1))
 Ad)))
theorem aq9 (K:PySem.W.Frag) (t:Adr):wSs 40 (defG K V7 (Ac J5) (gb_0 K t) bl) (Ah J5)=a72 K t:=by kernel_rfl
theorem as1:Ak V7 Nu (Ac J5):=⟨rfl,rfl,rfl,by decide +kernel,rfl,by decide +kernel,by decide +kernel⟩
theorem at9:Ay V7 (Ac J5)=true:=by decide +kernel
def t_zh (K:PySem.W.Frag) (t:Adr):DS:=
 (dSeq (dSet 2 Et)
 (dSeq (dFor (iEn K (Aa (dVar 0) dNil)) (gdT K 2 [(gdN 3),(gdN 4)]) (dSeq (dAsg Et (By K (dVar 2) (dVar 4)))
  (dSeq (dFor (iVal K (dBin (rIxD K) (dVar 0) (dVar 4))) (gdN 5) (dSeq (dSet 6 (Bt [none,none,some 3,some 5] (iEn K (Aa (dVar 1) dNil)) (gdT K 2 [(gdN 0),(gdN 1)]) (dTst (dBin (rEqD K false) (dBin (rIxD K) (dVar 1) (dVar 2)) (dVar 3))) (dVar 0)))
   (dSeq (dAsg (dFn (spE (Q7 K t) []) (Aa (dVar 6) dNil)) (By K (dBin (rIxD K) (dVar 2) (dVar 4)) (dVar 5)))
   Ad)))
  Ad)))
 (dSeq (dRet (dVar 2))
 Ad)))
theorem a13 (K:PySem.W.Frag) (t:Adr):wSs 40 (defG K N_zh (Ac s_zh) (gb_1 K t) bl) (Ah s_zh)=t_zh K t:=by kernel_rfl
theorem a39:Ak N_zh P_zh (Ac s_zh):=⟨rfl,rfl,rfl,by decide +kernel,rfl,by decide +kernel,by decide +kernel⟩
theorem a82:Ay N_zh (Ac s_zh)=true:=by decide +kernel
def t_zp (K:PySem.W.Frag) (t:Adr):DS:=
 (dSeq (dFld K "settings" (dVar 0) (dFn (spE (Yz K t) []) (Aa (dVar 1) dNil)))
 (dSeq (dFld K "tuples" (dVar 0) (dFn (spE (Yw K t) []) (Aa (dUn (De K "settings") (dVar 0)) dNil)))
 (dSeq (dFld K "numbers" (dVar 0) (dFn (spE (Yv K t) []) (Aa (dUn (De K "tuples") (dVar 0)) dNil)))
 (dSeq (dFld K "sets" (dVar 0) (dFn (spE (Yy K t) []) (Aa (dUn (De K "settings") (dVar 0)) (Aa (dUn (De K "tuples") (dVar 0)) dNil))))
 (dSeq (dFld K "kept_rules" (dVar 0) (dOwn "read_rules" 1 (Dp K t) (dVar 0) (Aa (dVar 2) dNil)))
 (dSeq (dFld K "bars" (dVar 0) (Bt [none,some 0] (iVal K (dUn (De K "kept_rules") (dVar 0))) (gdN 0) dYes (dOwn "box" 1 (Mz K t) (dVar 1) (Aa (dVar 0) dNil))))
 (dSeq (dFld K "free" (dVar 0) (dBin Jw (dOwn "all_choices" 0 (Ch K t) (dVar 0) dNil) (dUn Te (dFn (spE (Nf K t) []) (Aa (dUn (De K "bars") (dVar 0)) dNil)))))
 (dSeq (dIf (dTst (dBin (rEqD K false) (dUn (De K "free") (dVar 0)) (dC (.int 0)))) (dSeq (B8 K (dFn (fun vs H Q E=>vs.length<=1000/\mkX t.c_zaq none 0 vs H Q E) (Aa (dC (.str "the rules bar every choice")) dNil)))
  Ad) Ad)
 Ad))))))))
theorem a21 (K:PySem.W.Frag) (t:Adr):wSs 40 (defG K N_zp (Ac s_zp) (gb_7 K t) bl) (Ah s_zp)=t_zp K t:=by kernel_rfl
theorem a47:Ak N_zp P_zp (Ac s_zp):=⟨rfl,rfl,rfl,by decide +kernel,rfl,by decide +kernel,by decide +kernel⟩
theorem a90:Ay N_zp (Ac s_zp)=true:=by decide +kernel
def a67 (K:PySem.W.Frag) (t:Adr):DS:=
 (dSeq (dSet 2 (dC .non))
 (dSeq (dSet 3 (dC (.str "made")))
 (dSeq (dTry K (dSeq (dSet 2 (dFn (mkC t.c_zas (some (i_zp K t)) 1) (Aa (dVar 0) (Aa (dVar 1) dNil))))
  Ad) [(t.c_zap,.as 4,(dSeq (dSet 3 (dBin (rIxD K) (dLst (Aa (dC (.str "bad")) (Aa (dC (.str "other")) dNil))) (dFn (fun vs H Q _=>rInt vs H Q) (Aa (dOrV K (dFn (fun vs H Q _=>(rIsi K) vs H Q) (Aa (dVar 4) (Aa (dC (.ref t.c_zaq)) dNil))) (Ev K (dFn (fun vs H Q _=>(rIsi K) vs H Q) (Aa (dVar 4) (Aa (dC (.ref t.c_zao)) dNil))))) dNil))))
  Ad)),(t.c_zaq,.as 4,(dSeq (dSet 3 (dBin (rIxD K) (dLst (Aa (dC (.str "none")) (Aa (dC (.str "other")) dNil))) (dFn (fun vs H Q _=>rInt vs H Q) (Aa (dOrV K (Ev K (dFn (fun vs H Q _=>(rIsi K) vs H Q) (Aa (dVar 4) (Aa (dC (.ref t.c_zao)) dNil)))) (Ev K (dFn (fun vs H Q _=>(rIsi K) vs H Q) (Aa (dVar 4) (Aa (dC (.ty "ValueError")) dNil))))) dNil))))
  Ad))])
 (dSeq (dRet (dTup (Aa (dVar 3) (Aa (dVar 2) dNil))))
 Ad))))
theorem aq4 (K:PySem.W.Frag) (t:Adr):wSs 40 (defG K V2 (Ac J0) (gb_9 K t) bl) (Ah J0)=a67 K t:=by kernel_rfl
theorem ar6:Ak V2 Nn (Ac J0):=⟨rfl,rfl,rfl,by decide +kernel,rfl,by decide +kernel,by decide +kernel⟩
theorem at4:Ay V2 (Ac J0)=true:=by decide +kernel
def t_zn (K:PySem.W.Frag) (t:Adr):DS:=
 (dSeq (dSet 2 (dC (.int 0)))
 (dSeq (dFor (iEn K (Aa (dFn (spE (Nd K t) []) (Aa (dVar 0) dNil)) dNil)) (gdT K 2 [(gdN 3),(gdN 4)]) (dSeq (dIf (dTst (dBin (rEqD K false) (Bt [none,some 4,some 0] (iVal K (dVar 1)) (gdN 0) (dTru K (dFn (spE (Nc K t) []) (Aa (dVar 0) (Aa (dVar 2) (Aa (dVar 1) dNil))))) (dVar 0)) (dLst dNil))) (dSeq (dSet 2 (dBin rOrD (dVar 2) (dBin Ti (dC (.int 1)) (dVar 3))))
   Ad) Ad)
  Ad))
 (dSeq (dRet (dVar 2))
 Ad)))
theorem a19 (K:PySem.W.Frag) (t:Adr):wSs 40 (defG K N_zn (Ac s_zn) (gb_1 K t) bl) (Ah s_zn)=t_zn K t:=by kernel_rfl
theorem a45:Ak N_zn P_zn (Ac s_zn):=⟨rfl,rfl,rfl,by decide +kernel,rfl,by decide +kernel,by decide +kernel⟩
theorem a88:Ay N_zn (Ac s_zn)=true:=by decide +kernel
def a73 (K:PySem.W.Frag) (t:Adr):DS:=
 (dSeq (dSet 1 (dFn (spE (Y0 K t) []) (Aa (dFn (spE (Tr K t) []) (Aa (dVar 0) (Aa (dC (.int 0)) dNil))) (Aa (dC (.int 24)) dNil))))
 (dSeq (dSet 2 (dFn (spE (Y7 K t) []) (Aa (dFn (spE (Tr K t) []) (Aa (dVar 0) (Aa (dC (.int 1)) dNil))) (Aa (dVar 1) dNil))))
 (dSeq (dAsg (dFn (spE (J9 K t) []) (Aa (dVar 1) (Aa (dVar 2) dNil))) (gdT K 2 [(gdN 3),(gdN 4)]))
 (dSeq (dIf (dOr (dTst (dBin (rEqD K true) (dVar 3) (dC (.str "made")))) (dOr (dTst (dBin (rIsD false) (dVar 4) (dC .non))) (dTst (dBin (rEqD K true) (dOwn "allowed" 0 (Fq K t) (dVar 4) dNil) (dFn (spE (Y2 K t) []) (Aa (dVar 1) (Aa (dVar 2) dNil))))))) (dSeq (dRet (dC (.bl false)))
  Ad) Ad)
 (dSeq (dFor (iVal K (dSl K (dVar 0) (Bv (dC (.int 2))) (Bv (dC (.int 22))))) (gdN 5) (dSeq (dAsg (dFn (spE (Ts K t) []) (Aa (dVar 1) (Aa (dVar 2) (Aa (dVar 5) dNil)))) (gdT K 2 [(gdN 6),(gdN 7)]))
  (dSeq (dSet 8 (dBin (rIxD K) (dLst (Aa (dC (.str "bad")) (Aa (dC (.str "none")) dNil))) (dFn (fun vs H Q _=>rInt vs H Q) (Aa (dBin (rEqD K false) (dBin Ar (dVar 5) (dC (.int 13))) (dC (.int 12))) dNil))))
  (dSeq (dIf (dOr (dTst (dBin (rEqD K true) (dBin (rIxD K) (dFn (spE (J9 K t) []) (Aa (dVar 6) (Aa (dVar 7) dNil))) (dC (.int 0))) (dVar 8))) (dTst (dBin (rEqD K true) (dTup (Aa (dVar 6) (Aa (dVar 7) dNil))) (dFn (spE (Ts K t) []) (Aa (dVar 1) (Aa (dVar 2) (Aa (dVar 5) dNil))))))) (dSeq (dRet (dC (.bl false)))
   Ad) Ad)
  Ad))))
 (dSeq (dRet (dBin (rEqD K false) (dBin (rIxD K) (dFn (spE (J9 K t) []) (Aa (dVar 1) (Aa (dVar 2) dNil))) (dC (.int 0))) (dC (.str "made"))))
 Ad))))))
theorem ar0 (K:PySem.W.Frag) (t:Adr):wSs 40 (defG K V8 (Ac Dy) (W4 K t) bl) (Ah Dy)=a73 K t:=by kernel_rfl
theorem as2:Ak V8 Nv (Ac Dy):=⟨rfl,rfl,rfl,by decide +kernel,rfl,by decide +kernel,by decide +kernel⟩
theorem au0:Ay V8 (Ac Dy)=true:=by decide +kernel
end K04
namespace K04
open PySem L2 Pn
section
variable {P:Program} {w:World} {K:PySem.W.Frag} {mg:Str->Option Value} {base:Heap} {t:Adr}
theorem ak1 {f:Addr} {fd:FuncData} (Z:Au K t) (F:FunD K "union_of" "union_of" J2 f fd .none) (T:Tab P w K mg base 0 (gb_0 K t) bl):FnOk P w K mg base CX0 1 f fd Nq (Nf K t):=by
 refine F.okW0 ar8 at6 T (aq6 K t) (fun vs H Q E h=>?_) (fun vs H Q E h=>?_)
 ·obtain⟨a,ms,rfl,_⟩:=h;rfl
 ·obtain⟨a,ms,rfl,hS,k⟩:=h
  refine .inl ⟨⟨_,hS⟩,?_⟩
  refine B9 (Bl (ms.map V.int)) (fun i σ H'=>(∃ v2,σ=[some (.ref a),some (.int (Ft (ms.take i))),v2])/\H'=H) ⟨⟨_,rfl⟩,rfl⟩ (fun i σ H' _ q=>q.2▸hS) ?_ ?_
  ·rintro i x σ H' hx ⟨⟨v2,rfl⟩,rfl⟩
   obtain⟨m,hm,rfl⟩:=Am hx
   have e:Ft (ms.take (i+1))=Builtin.bitOr (Ft (ms.take i)) m:=Da hm _ _
   exact⟨⟨_,congrArg (fun z=>[some (V.ref a),some (V.int z),some (V.int m)]) e.symm⟩,rfl⟩
  ·rintro σ H' ⟨⟨v2,rfl⟩,rfl⟩
   rw [List.length_map,List.take_length]
   exact .inl k
theorem ak4 {f:Addr} {fd:FuncData} (Z:Au K t) (F:FunD K "set_of" "set_of" J5 f fd .none) (T:Tab P w K mg base 0 (gb_0 K t) bl):FnOk P w K mg base CX0 1 f fd Nu (Q7 K t):=by
 refine F.okW0 as1 at9 T (aq9 K t) (fun vs H Q E h=>?_) (fun vs H Q E h=>?_)
 ·obtain⟨a,ms,rfl,_⟩:=h;rfl
 ·obtain⟨a,ms,rfl,hS,hb,k⟩:=h
  refine .inl ⟨⟨_,hS⟩,?_⟩
  refine B9 (Bl (ms.map fun n:Nat=>V.int (n:Int))) (fun i σ H'=>(∃ v2,σ=[some (.ref a),some (.int (setM (ms.take i))),v2])/\H'=H) ⟨⟨_,rfl⟩,rfl⟩ (fun i σ H' _ q=>q.2▸hS) ?_ ?_
  ·rintro i x σ H' hx ⟨⟨v2,rfl⟩,rfl⟩
   obtain⟨m,hm,rfl⟩:=Am hx
   have e:setM (ms.take (i+1))=Builtin.bitOr (setM (ms.take i)) (1 * 2 ^ ((m:Int)).toNat):=by
    rw [Int.one_mul,Int.toNat_natCast]
    exact Da hm _ _
   have hm2:=hb m (List.mem_of_getElem? hm)
   refine⟨⟨by omega,by omega,by decide⟩,?_⟩
   exact⟨⟨_,congrArg (fun z=>[some (V.ref a),some (V.int z),some (V.int (m:Int))]) e.symm⟩,rfl⟩
  ·rintro σ H' ⟨⟨v2,rfl⟩,rfl⟩
   rw [List.length_map,List.take_length]
   exact .inl k
theorem ax5 {f:Addr} {fd:FuncData} (Z:Au K t) (F:FunD K "many" "Panel.many" s_zq f fd .none) (T:Tab P w K mg base 0 (gb_0 K t) bl):FnOk P w K mg base CX0 1 f fd P_zq (ah4 K t):=by
 refine F.okW0 a48 a91 T (a22 K t) (fun vs H Q E h=>?_) (fun vs H Q E h=>?_)
 ·obtain⟨p,l,s,sw,rfl,_⟩:=h;rfl
 ·obtain⟨p,l,s,sw,rfl,⟨dx,fs,⟨_,hp⟩,hl,hs,hm⟩,⟨ds,e,⟨_,o⟩,_⟩,k⟩:=h
  refine Or.inl ⟨_,_,_,_,hp,Z.pf.cl,(Z.pf.na _ (by simp)),hl,(.inl ⟨_,.inl (SqL.of o),?_⟩)⟩
  have el:(ds.map fun x=>V.ref x.2).length=(Ai sw).length:=by rw [<- e];simp
  rw [el]
  exact k
theorem aw2 {f:Addr} {fd:FuncData} (Z:Au K t) (F:FunD K "all_choices" "Panel.all_choices" s_zd f fd .none) (T:Tab P w K mg base 1 (gb_1 K t) bl):FnOk P w K mg base CX0 2 f fd P_zd (ag9 K t):=by
 refine F.okW0 a35 a78 T (a09 K t) (fun vs H Q E h=>?_) (fun vs H Q E h=>?_)
 ·obtain⟨p,l,s,sw,rfl,_⟩:=h;rfl
 ·obtain⟨p,l,s,sw,rfl,hs,ht,hn,k⟩:=h
  obtain⟨dx,fs,⟨_,hp⟩,_,_,hm⟩:=id hs
  refine⟨p,dx,fs,⟨t.c_zas,i_zq K t⟩,rfl,.head _,hp,hm _ (by decide),⟨Nat.le_of_ble_eq_true rfl,Nat.le_of_ble_eq_true rfl⟩,?_⟩
  refine⟨p,l,s,sw,rfl,hs,ht,⟨by omega,by omega,by decide⟩,?_⟩
  have e:1 * 2 ^ (((Ai sw).length:Int)).toNat - 1=allM sw:=by rw [Int.one_mul,Int.toNat_natCast];rfl
  show Q (.int (1 * 2 ^ (((Ai sw).length:Int)).toNat - 1)) H
  rw [e]
  exact k
theorem ax7 {f:Addr} {fd:FuncData} (Z:Au K t) (F:FunD K "has_length" "has_length" s_zs f fd .none) (T:Tab P w K mg base 0 (gb_0 K t) bl):FnOk P w K mg base CX0 1 f fd P_zs (Y4 K t):=by
 refine F.okW0 a50 a93 T (a24 K t) (fun vs H Q E h=>?_) (fun vs H Q E h=>?_)
 ·obtain⟨v,d,lo,hi,rfl,_⟩:=h;rfl
 ·obtain⟨v,d,lo,hi,rfl,ha,hz,k⟩:=h
  cases d with
  | at_ x=>
   unfold At at ha
   obtain⟨e,f⟩:=ha
   subst e
   cases v with
   | str z=>exact⟨rfl,Nat.le_trans hz (by decide),K3 k⟩
   | int i=>exact⟨rfl,k⟩
   | bl i=>exact⟨rfl,k⟩
   | non=>exact⟨rfl,k⟩
   | _=>cases f
  | lst l=>
   unfold At at ha
   obtain⟨a,xs,rfl,q,_⟩:=ha
   exact⟨_,false,.sqL rfl q rfl,rfl,k⟩
  | tup l=>
   unfold At at ha
   obtain⟨a,xs,rfl,q,_⟩:=ha
   exact⟨_,false,.sqT rfl q rfl,rfl,k⟩
theorem ay1 {f:Addr} {fd:FuncData} (Z:Au K t) (F:FunD K "is_letter" "is_letter" s_zw f fd .none) (T:Tab P w K mg base 0 (gb_0 K t) bl):FnOk P w K mg base CX0 1 f fd P_zw (Y5 K t):=by
 refine F.okW0 a54 a97 T (a28 K t) (fun vs H Q E h=>?_) (fun vs H Q E h=>?_)
 ·obtain⟨x,rfl,_⟩:=h;rfl
 ·obtain⟨c,rfl,k⟩:=h
  dsimp only [t_zw,dSeq,dRet]
  exact Zy (s1 := "a") (s2 := "z") (c:=c) (i:=0) (a:=97) (b:=122) (by decide +kernel) (by decide +kernel) (by rfl) k
theorem Xj {α:Type} [DecidableEq α]:∀ (ys acc:List α),(ys.foldl (fun σ k=>if σ.any (fun j=>decide (j=k)) then σ else σ++[k]) acc).length<=acc.length+ys.length
 | [],_=>Nat.le_refl _
 | y::ys,acc=>by
  rw [List.foldl_cons]
  refine Nat.le_trans (Xj ys _) ?_
  split
  ·rw [List.length_cons];omega
  ·rw [List.length_append,List.length_cons,List.length_cons,List.length_nil];omega
theorem Xk {α:Type} [DecidableEq α]:∀ (ys acc:List α),(ys.foldl (fun σ k=>if σ.any (fun j=>decide (j=k)) then σ else σ++[k]) acc).length=acc.length+ys.length->acc.Nodup->(acc++ys).Nodup
 | [],acc,_,h=>by rw [List.append_nil];exact h
 | y::ys,acc,h,nd=>by
  rw [List.foldl_cons] at h
  by_cases q:(acc.any fun j=>decide (j=y))=true
  ·rw [if_pos q] at h
   have:=Xj ys acc
   rw [List.length_cons] at h
   omega
  ·rw [if_neg q] at h
   have:=Xk ys (acc++[y]) (by rw [h,List.length_append,List.length_cons,List.length_cons,List.length_nil];omega) (List.nodup_append.mpr ⟨nd,by simp,fun a ha b hb e=>q (List.any_eq_true.mpr ⟨a,ha,by
    have:b=y:=by simpa using hb
    rw [<- this,<- e]
    simp⟩)⟩)
   rw [List.append_assoc] at this
   exact this
theorem aa1 {α:Type} [DecidableEq α] (xs:List α) (h:(metK xs).length=xs.length):xs.Nodup:=Xk xs [] (by rw [List.length_nil,Nat.zero_add];exact h) List.nodup_nil
theorem wordB_iff {z:Str}:As z=true ↔ okW z:=by
 unfold As okW
 rw [Bool.and_eq_true,Bool.and_eq_true,decide_eq_true_iff,decide_eq_true_iff]
 exact⟨fun h=>⟨h.1.1,h.1.2,h.2⟩,fun h=>⟨⟨h.1,h.2.1⟩,h.2.2⟩⟩
theorem Ku {K:PySem.W.Frag} {J:It} {its:List V} {ok:Hp->Prop} {te:DE} {σ:St} {H:Hp} {R:Hp->Addr->Prop} {E:EK} (f:V->Bool) (Y:D9 J its ok) (Sg:St->Prop) (hok:∀ H1,Same H H1->ok H1) (hn:its.length<sizeLine) (hσ:Sg σ) (hS:∀ σ x,Sg σ->Sg (σ.set 0 (some x)))
  (he:∀ x σ H1 Q1,x∈its->Sg σ->Same H H1->(∀ H2,Same H1 H2->Q1 (.bl (f x)) H2)->te (σ.set 0 (some x)) H1 Q1 E) (k:∀ D H',Same H H'->SqL K H' D ((its.map f).map V.bl)->R H' D) :
  ∀ D,H D=none->CmpW J (gdN 0) dYes te D (fun H'=>R H' D) σ (upd H D (.lst [])) E:=by
 intro D hD
 refine Mo Y Sg (fun _=>true) (fun v=>.bl (f v)) hD hok hn hσ ?_ ?_
 ·intro x σ H1 hx hs S Fin Skip hF hK
  exact he x σ H1 _ hx hs S fun H2 S2=>hF _ _ _ (hS _ _ hs) S2 rfl rfl
 ·intro H' S hD'
  exact k D H' S (SqL.of (hD'.trans (by rw [List.filter_eq_self.mpr (fun _ _=>rfl),List.map_map];rfl)))
def strB (p:Str->Bool):V->Bool
 | .str z=>p z
 | _=>false
theorem Za (p:Str->Bool) (l:List Str):(((l.map V.str).map (strB p)).all fun b=>b)=l.all p:=by rw [List.map_map,List.all_map];rfl
theorem ak2 {f:Addr} {fd:FuncData} (Z:Au K t) (F:FunD K "is_word" "is_word" J3 f fd .none) (T:Tab P w K mg base 1 (gb_1 K t) bl):FnOk P w K mg base CX0 2 f fd Nr (Ng K t):=by
 refine F.okW0 ar9 at7 T (aq7 K t) (fun vs H Q E h=>?_) (fun vs H Q E h=>?_)
 ·obtain⟨v,d,rfl,_⟩:=h;rfl
 ·obtain⟨v,d,rfl,ha,hl,k⟩:=h
  refine⟨v,d,1,8,rfl,ha,hl,?_⟩
  by_cases hd:∃ z,d=strD z
  ·obtain⟨z,rfl⟩:=hd
   have hl:z.length<=1000:=hl
   have ev:v=.str z:=by unfold strD At at ha;exact ha.1
   subst ev
   have k:∀ H',Same H H'->Q (.bl (As z)) H':=k
   rw [show lenD 1 8 (strD z)=(decide (1<=(z.length:Int))&&decide ((z.length:Int)<=8)) from rfl]
   have e:(decide (1<=(z.length:Int))&&decide ((z.length:Int)<=8))=(decide (1<=z.length)&&decide (z.length<=8)):=by
    congr 1 <;> exact decide_eq_decide.mpr (by omega)
   rw [e]
   unfold As at k
   cases hb:(decide (1<=z.length)&&decide (z.length<=8)) with
   | false=>
    rw [hb] at k
    exact k H (Same.refl _)
   | true=>
    rw [hb] at k
    refine Ty (p:=B5) hl (fun c σ H1 Q1 hσ q=>?_) fun H' S=>k H' S
    match σ,hσ with
    | [_],_=>exact⟨c,rfl,q⟩
  ·have e1:lenD 1 8 d=false:=by
    unfold lenD
    split
    ·rename_i z;exact absurd ⟨z,rfl⟩ hd
    ·rfl
   have e2:E9 d=false:=by
    unfold E9
    split
    ·rename_i z;exact absurd ⟨z,rfl⟩ hd
    ·rfl
   rw [e2] at k
   rw [e1]
   exact k H (Same.refl _)
theorem El {H:Hp}:∀ {ds:List Dt} {xs:List V} {l:List Str},AtL K H ds xs->Az ds=some l->xs=l.map V.str
 | [],xs,l,h,e=>by unfold AtL at h;subst h;cases e;rfl
 | .at_ (.str z)::ds,xs,l,h,e=>by
  unfold AtL at h
  obtain⟨y,ys,rfl,h1,h2⟩:=h
  unfold Az at e
  cases e2:Az ds with
  | none=>rw [e2] at e;cases e
  | some l2=>
   rw [e2] at e
   cases e
   unfold At at h1
   rw [h1.1,El h2 e2]
   rfl
 | .at_ .non::ds,_,_,_,e=>by cases e
 | .at_ (.bl _)::ds,_,_,_,e=>by cases e
 | .at_ (.int _)::ds,_,_,_,e=>by cases e
 | .at_ (.flt _)::ds,_,_,_,e=>by cases e
 | .at_ (.byt _)::ds,_,_,_,e=>by cases e
 | .at_ (.ref _)::ds,_,_,_,e=>by cases e
 | .at_ (.ty _)::ds,_,_,_,e=>by cases e
 | .lst _::ds,_,_,_,e=>by cases e
 | .tup _::ds,_,_,_,e=>by cases e
theorem Tx {H:Hp} {d:Dt} {x:V} (h:At K H d x):strB As x=E9 d:=by
 cases d with
 | at_ v=>unfold At at h;rw [h.1];cases v <;> rfl
 | lst l=>unfold At at h;obtain⟨a,_,rfl,_⟩:=h;rfl
 | tup l=>unfold At at h;obtain⟨a,_,rfl,_⟩:=h;rfl
theorem Py {H:Hp}:∀ {ds:List Dt} {xs:List V},AtL K H ds xs->(xs.map (strB As)).all (fun b=>b)=ds.all E9
 | [],xs,h=>by unfold AtL at h;subst h;rfl
 | d::ds,xs,h=>by
  unfold AtL at h
  obtain⟨y,ys,rfl,h1,h2⟩:=h
  rw [List.map_cons,List.all_cons,List.all_cons,Py h2,Tx h1]
theorem Ps:∀ {ds:List Dt},ds.all E9=true -> ∃ l,Az ds=some l
 | [],_=>⟨[],rfl⟩
 | d::ds,h=>by
  rw [List.all_cons,Bool.and_eq_true] at h
  obtain⟨l,e⟩:=Ps h.2
  unfold E9 at h
  split at h
  ·rename_i z
   exact⟨z::l,by unfold Az;rw [e];rfl⟩
  ·cases h.1
theorem D4:∀ {ds:List Dt} {l:List Str},Az ds=some l->ds.all E9=l.all As/\ds=l.map strD
 | [],l,e=>by cases e;exact⟨rfl,rfl⟩
 | d::ds,l,e=>by
  unfold Az at e
  split at e
  ·cases ‹_::_=[]›
  ·rename_i z r q
   cases q
   cases e2:Az ds with
   | none=>rw [e2] at e;cases e
   | some l2=>
    rw [e2] at e
    cases e
    obtain⟨a,b⟩:=D4 e2
    exact⟨by rw [List.all_cons,List.all_cons,a];rfl,by rw [b];rfl⟩
  ·cases e
theorem Rn {H:Hp}:∀ {ds:List Dt} {xs:List V} {x:V},AtL K H ds xs->x∈xs -> ∃ d∈ds,At K H d x
 | [],xs,x,h,m=>by unfold AtL at h;subst h;cases m
 | d::ds,xs,x,h,m=>by
  unfold AtL at h
  obtain⟨y,ys,rfl,h1,h2⟩:=h
  rcases List.mem_cons.mp m with rfl|m
  ·exact⟨d,List.mem_cons_self,h1⟩
  ·obtain⟨d',a,b⟩:=Rn h2 m
   exact⟨d',List.mem_cons_of_mem _ a,b⟩
theorem aw4 {f:Addr} {fd:FuncData} (Z:Au K t) (F:FunD K "are_unlike_words" "are_unlike_words" s_zf f fd .none) (T:Tab P w K mg base 2 (gb_2 K t) bl):FnOk P w K mg base CX0 3 f fd P_zf (Tq K t):=by
 refine F.okW0 a37 a80 T (a11 K t) (fun vs H Q E h=>?_) (fun vs H Q E h=>?_)
 ·obtain⟨v,d,rfl,_⟩:=h;rfl
 ·obtain⟨v,d,rfl,ha,hf,k⟩:=h
  cases d with
  | at_ x=>
   unfold At at ha
   obtain⟨e,f⟩:=ha
   subst e
   cases v with
   | str z=>exact⟨rfl,k H (Same.refl _)⟩
   | int i=>exact⟨rfl,k H (Same.refl _)⟩
   | bl i=>exact⟨rfl,k H (Same.refl _)⟩
   | non=>exact⟨rfl,k H (Same.refl _)⟩
   | _=>cases f
  | tup l=>
   unfold At at ha
   obtain⟨a,xs,rfl,q,_⟩:=ha
   exact⟨_,false,.sqT rfl q rfl,rfl,k H (Same.refl _)⟩
  | lst ds=>
   unfold At at ha
   obtain⟨a,xs,rfl,hS,hA⟩:=ha
   obtain⟨hl,hz⟩:ds.length<=29 /\ ∀ d∈ds,Cp d:=hf
   have len:=hA.length
   refine⟨_,true,.sqL rfl hS rfl,rfl,?_⟩
   refine .inl ⟨⟨_,hS⟩,?_⟩
   refine Ku (K:=K) (σ:=[none]) (strB As) (Bl xs) (fun σ=>σ.length=1) (fun H1 S=>S.seqL hS) ?_ rfl (fun σ x hσ=>by rw [List.length_set];exact hσ) ?_ fun D1 H1 S1 q1=>⟨_,q1,?_⟩
   ·rw [len];exact Nat.lt_of_le_of_lt hl (by decide)
   ·intro x σ H1 Q1 hx hσ S q
    obtain⟨d,hd,hdx⟩:=Rn hA hx
    match σ,hσ with
    | [_],_=>exact⟨x,d,rfl,Bi S hdx,hz d hd,fun H' S'=>Tx hdx▸q H' S'⟩
   ·rw [Py hA]
    have e0:Fu (.lst ds)=(match Az ds with|some l=>l.all As&&decide l.Nodup|none=>false):=rfl
    rw [e0] at k
    cases hb:ds.all E9 with
    | false=>
     have:(match Az ds with|some l=>l.all As&&decide l.Nodup|none=>false)=false:=by
      cases e:Az ds with
      | none=>rfl
      | some l=>show (l.all As&&decide l.Nodup)=false;rw [<- (D4 e).1,hb];rfl
     rw [this] at k
     exact k H1 S1
    | true=>
     obtain⟨l,e⟩:=Ps hb
     have ex:=El hA e
     subst ex
     rw [e] at k
     have k:∀ H',Same H H'->Q (.bl (l.all As&&decide l.Nodup)) H':=k
     rw [<- (D4 e).1,hb] at k
     rw [List.length_map] at len
     refine⟨l,S1.seqL hS,by omega,.inl ⟨_,.inl (S1.seqL hS),?_⟩⟩
     rw [List.length_map]
     have e:decide (((metK l).length:Int)=(l.length:Int))=decide l.Nodup:=decide_eq_decide.mpr ⟨fun q=>aa1 l (by omega),fun q=>by rw [aa2 q]⟩
     show Q (.bl (decide (((metK l).length:Int)=(l.length:Int)))) H1
     rw [e]
     exact k H1 S1
theorem aw8 {f:Addr} {fd:FuncData} (Z:Au K t) (F:FunD K "allowed" "Panel.allowed" s_zj f fd .none) (T:Tab P w K mg base 0 (gb_0 K t) bl):FnOk P w K mg base CX0 1 f fd P_zj (ah2 K t):=by
 refine F.okW0 a41 a84 T (a15 K t) (fun vs H Q E h=>?_) (fun vs H Q E h=>?_)
 ·obtain⟨p,sw,rules,rfl,_⟩:=h;rfl
 ·obtain⟨p,sw,rules,rfl,⟨dx,d,l,n,s,kk,b,h⟩,k⟩:=h
  exact Or.inl ⟨_,_,_,_,h.ins.2,Z.pf.cl,(Z.pf.na _ (by simp)),rfl,k⟩
theorem ax3 {f:Addr} {fd:FuncData} (Z:Au K t) (F:FunD K "_law_cell_at" "_law_cell_at" s_zo f fd .none) (T:Tab P w K mg base 0 (gb_0 K t) bl):FnOk P w K mg base CX0 1 f fd P_zo (Tr K t):=by
 refine F.okW0 a46 a89 T (a20 K t) (fun vs H Q E h=>?_) (fun vs H Q E h=>?_)
 ·obtain⟨a,ns,k,rfl,_⟩:=h;rfl
 ·obtain⟨a,ns,k,rfl,hS,q⟩:=h
  refine .inl ⟨_,.inl hS,?_⟩
  refine ite2 (fun e=>?_) (fun e=>?_)
  ·have e:(k:Int)<((ns.map V.int).length:Int):=by simpa using e
   have hk:k<ns.length:=by rw [List.length_map] at e;omega
   have:N4 ns k=ns[k]:=by unfold N4;rw [List.getD_eq_getElem?_getD,List.getElem?_eq_getElem hk];rfl
   rw [this] at q
   exact⟨_,_,.inl hS,Bs (j:=k) (by rw [List.getElem?_map,List.getElem?_eq_getElem hk];rfl),q⟩
  ·have e:¬ (k:Int)<((ns.map V.int).length:Int):=by simpa using e
   have hk:ns.length<=k:=by rw [List.length_map] at e;omega
   have:N4 ns k=0:=by unfold N4;rw [List.getD_eq_getElem?_getD,List.getElem?_eq_none hk];rfl
   rw [this] at q
   exact q
theorem Zb {d:Dt} (h:∀ w ds,d≠.tup [strD w,.lst ds]):swD d=none:=by
 unfold swD
 split
 ·rename_i w ds
  exact absurd rfl (h w ds)
 ·rfl
theorem ay2 {f:Addr} {fd:FuncData} (Z:Au K t) (F:FunD K "is_switch" "is_switch" s_zx f fd .none) (T:Tab P w K mg base 3 (gb_3 K t) bl):FnOk P w K mg base CX0 4 f fd P_zx (Y6 K t):=by
 refine F.okW0 a55 a98 T (a29 K t) (fun vs H Q E h=>?_) (fun vs H Q E h=>?_)
 ·obtain⟨v,d,rfl,_⟩:=h;rfl
 ·obtain⟨v,d,rfl,ha,hf,k⟩:=h
  have no:(∀ w ds,d≠.tup [strD w,.lst ds])->Q (.bl false) H:=fun h=>by
   have:=k H (Same.refl _)
   rw [Zb h] at this
   exact this
  cases d with
  | at_ x=>
   have nq:=no fun _ _ e=>by cases e
   unfold At at ha
   obtain⟨e,f⟩:=ha
   subst e
   cases v with
   | str z=>exact⟨rfl,nq⟩
   | int i=>exact⟨rfl,nq⟩
   | bl i=>exact⟨rfl,nq⟩
   | non=>exact⟨rfl,nq⟩
   | _=>cases f
  | lst l=>
   have nq:=no fun _ _ e=>by cases e
   unfold At at ha
   obtain⟨a,xs,rfl,q,_⟩:=ha
   exact⟨_,false,.sqL rfl q rfl,rfl,nq⟩
  | tup ds=>
   unfold At at ha
   obtain⟨a,xs,rfl,qa,hA⟩:=ha
   refine⟨_,true,.sqT rfl qa rfl,rfl,?_⟩
   refine .inl ⟨_,.inr qa,?_⟩
   have len:=hA.length
   match ds,xs,hA with
   | [],xs,hA=>
    rw [len]
    exact no fun _ _ e=>by cases e
   | [_],xs,hA=>
    rw [len]
    exact no fun _ _ e=>by cases e
   | _::_::_::r,xs,hA=>
    rw [len]
    exact no fun _ _ e=>by cases e
   | [d0,d1],xs,hA=>
    unfold AtL at hA
    obtain⟨y0,ys,rfl,h0,hA⟩:=hA
    unfold AtL at hA
    obtain⟨y1,ys,rfl,h1,hA⟩:=hA
    unfold AtL at hA
    subst hA
    have f0:=hf d0 List.mem_cons_self
    have f1:=hf d1 (List.mem_cons_of_mem _ List.mem_cons_self)
    refine⟨_,_,.inr qa,rfl,?_⟩
    refine⟨y0,d0,rfl,h0,f0.1,fun H1 S1=>?_⟩
    cases hw:E9 d0 with
    | false=>
     have e:swD (.tup [d0,d1])=none:=by
      unfold swD
      split
      ·rename_i w ds q
       cases q
       have hw:As w=false:=hw
       cases e2:Az ds with
       | none=>rfl
       | some l=>simp only [hw,Bool.false_and,Bool.false_eq_true,if_false]
      ·rfl
     have:=k H1 S1
     rw [e] at this
     exact this
    | true=>
     refine⟨_,_,.inr (S1.seqT qa),rfl,?_⟩
     refine⟨y1,d1,rfl,Bi S1 h1,f1.2,fun H2 S2=>?_⟩
     have S:=S1.trans S2
     cases hd:Fu d1 with
     | false=>
      have e:swD (.tup [d0,d1])=none:=by
       unfold swD
       split
       ·rename_i w ds q
        cases q
        unfold Fu at hd
        cases e2:Az ds with
        | none=>rfl
        | some l=>
         have hd:(match Az ds with|some l=>l.all As&&decide l.Nodup|none=>false)=false:=hd
         rw [e2] at hd
         have hd:(l.all As&&decide l.Nodup)=false:=hd
         simp only [hd,Bool.and_false,Bool.false_and,Bool.false_eq_true,if_false]
       ·rfl
      have:=k H2 S
      rw [e] at this
      exact this
     | true=>
      unfold E9 at hw
      split at hw
      ·rename_i w
       unfold Fu at hd
       split at hd
       ·rename_i ds
        split at hd
        ·rename_i l e2
         unfold At at h1
         obtain⟨b,zs,rfl,qb,hB⟩:=h1
         have ez:=El hB e2
         subst ez
         refine⟨_,_,.inr (S.seqT qa),rfl,.inl ⟨_,.inl (S.seqL qb),?_⟩⟩
         rw [List.length_map]
         have ek:(swD (.tup [.at_ (.str w),.lst ds])).isSome=(decide (2<=(l.length:Int))&&decide ((l.length:Int)<=4)):=by
          have e3:(decide (2<=(l.length:Int))&&decide ((l.length:Int)<=4))=(decide (2<=l.length)&&decide (l.length<=4)):=by
           congr 1 <;> exact decide_eq_decide.mpr (by omega)
          rw [e3]
          show (match Az ds with|some l=>if (As w&&(l.all As&&decide l.Nodup)&&(decide (2<=l.length)&&decide (l.length<=4)))=true then some (w,l) else none|none=>none).isSome=_
          rw [e2]
          show (if (As w&&(l.all As&&decide l.Nodup)&&(decide (2<=l.length)&&decide (l.length<=4)))=true then some (w,l) else none).isSome=_
          rw [hw,hd,Bool.true_and,Bool.true_and]
          cases decide (2<=l.length)&&decide (l.length<=4) <;> rfl
         exact K3 (ek▸k H2 S)
        ·cases hd
       ·cases hd
      ·cases hw
theorem Sm {es:List ((Str×List Str)×Addr)} {sw:Sw} {i:Nat} {e:Str×List Str} (he:es.map (·.1)=sw.take i) (hi:sw[i]? = some e) (nd:(sw.map (·.1)).Nodup):valV (es.map kR) (.inr e.1)=none:=by
 refine B0 ?_
 rw [Ed,he]
 intro hm
 obtain⟨w,hw,e2⟩:=List.mem_map.mp hm
 cases e2
 have h1:(sw.map (·.1))[i]? = some e.1:=by rw [List.getElem?_map,hi];rfl
 rw [List.map_take] at hw
 obtain⟨j,hj,e3⟩:=List.mem_iff_getElem.mp hw
 rw [List.length_take] at hj
 rw [List.getElem_take] at e3
 have hi2:=Aj h1
 have e4:(sw.map (·.1))[i]=e.1:=by
  have:=List.getElem?_eq_getElem hi2
  rw [this] at h1
  exact Option.some.inj h1
 have:=(List.getElem_inj (i:=j) (j:=i) (h₀:=by omega) (h₁:=hi2) nd).mp (by rw [e3,e4])
 omega
theorem Ii {es:List ((Str×List Str)×Addr)} {e:Str×List Str} {a:Addr} (h:valV (es.map kR) (.inr e.1)=none):putK (es.map kR) (.inr e.1) (.ref a)=(es++[(e,a)]).map kR:=by
 rw [Ju _ h,List.map_append]
 rfl
theorem Wt {α β:Type} {es:List (α×β)} {sw:List α} {i:Nat} (h:es.map (·.1)=sw.take i):es.length<=sw.length:=by
 have:=congrArg List.length h
 rw [List.length_map,List.length_take] at this
 omega
theorem Ic {α β:Type} {es:List (α×β)} {sw:List α} {i:Nat} {e:α} {a:β} (h:es.map (·.1)=sw.take i) (hi:sw[i]? = some e):(es++[(e,a)]).map (·.1)=sw.take (i+1):=by
 rw [List.map_append,h,List.take_add_one,hi]
 rfl
theorem Pu {κ:Type} [DecidableEq κ]:∀ {kvs:List (κ×V)} {k:κ},k∈kvs.map (·.1) -> ∃ u,valV kvs k=some u
 | [],_,h=>by cases h
 | p::r,k,h=>by
  by_cases e:p.1=k
  ·exact⟨_,D6 e⟩
  ·rw [Df e]
   rw [List.map_cons] at h
   rcases List.mem_cons.mp h with h|h
   ·exact absurd h.symm e
   ·exact Pu h
theorem Ds:∀ ds:List Dt,ds.foldl E6 none=none
 | []=>rfl
 | _::ds=>Ds ds
theorem Oj {ds:List Dt} {i:Nat} (h:C9 (ds.take i)=none):C9 ds=none:=by
 unfold C9 at h ⊢
 have:ds=ds.take i++ds.drop i:=(List.take_append_drop i ds).symm
 rw [this,List.foldl_append,h]
 exact Ds _
theorem Uk {ds:List Dt} {i:Nat} {d:Dt} (h:ds[i]? = some d):C9 (ds.take (i+1))=E6 (C9 (ds.take i)) d:=Da h _ _
theorem Pt {d:Dt} {e:Str×List Str} (h:swD d=some e):d=swT e/\okW e.1/\Dd e.2:=by
 unfold swD at h
 split at h
 ·rename_i w ds
  split at h
  ·rename_i l e2
   split at h
   ·rename_i hb
    cases h
    obtain⟨_,rfl⟩:=D4 e2
    rw [Bool.and_eq_true,Bool.and_eq_true,Bool.and_eq_true,Bool.and_eq_true,List.all_eq_true,decide_eq_true_iff,decide_eq_true_iff,decide_eq_true_iff] at hb
    obtain⟨⟨h1,h2,h3⟩,h4,h5⟩:=hb
    exact⟨rfl,wordB_iff.mp h1,⟨fun z hz=>wordB_iff.mp (h2 z hz),h3,show l.length<=8 by omega⟩,h4,h5⟩
   ·cases h
  ·cases h
 ·cases h
theorem D2:∀ l:List Str,Az (l.map strD)=some l
 | []=>rfl
 | z::l=>by show (Az (l.map strD)).map (z :: ·)=_;rw [D2 l];rfl
theorem as5 {e:Str×List Str} (h1:okW e.1) (h2:Dd e.2):swD (swT e)=some e:=by
 show (match Az (e.2.map strD) with|some l=>if (As e.1&&(l.all As&&decide l.Nodup)&&(decide (2<=l.length)&&decide (l.length<=4)))=true then some (e.1,l) else none|none=>none)=_
 rw [D2]
 show (if (As e.1&&(e.2.all As&&decide e.2.Nodup)&&(decide (2<=e.2.length)&&decide (e.2.length<=4)))=true then some (e.1,e.2) else none)=_
 rw [if_pos]
 rw [wordB_iff.mpr h1,List.all_eq_true.mpr fun z hz=>wordB_iff.mpr (h2.1.1 z hz),decide_eq_true h2.1.2.1,decide_eq_true h2.2.1,decide_eq_true h2.2.2]
 rfl
theorem Rx:∀ {sw acc:Sw},((acc++sw).map (·.1)).Nodup->(∀ x∈sw,okW x.1/\Dd x.2)->(sw.map swT).foldl E6 (some acc)=some (acc++sw)
 | [],acc,_,_=>by rw [List.append_nil];rfl
 | x::sw,acc,nd,h=>by
  rw [List.map_cons,List.foldl_cons]
  have hx:=h x List.mem_cons_self
  have:E6 (some acc) (swT x)=some (acc++[x]):=by
   show (swD (swT x)).bind (fun e=>if e.1∈acc.map (·.1) then none else some (acc++[e]))=_
   rw [as5 hx.1 hx.2]
   show (if x.1∈acc.map (·.1) then none else some (acc++[x]))=_
   rw [if_neg]
   intro hm
   rw [List.map_append,List.map_cons,List.nodup_append] at nd
   exact nd.2.2 _ hm _ List.mem_cons_self rfl
  rw [this,Rx (by rw [List.append_assoc];exact nd) fun y hy=>h y (List.mem_cons_of_mem _ hy),List.append_assoc]
  rfl
theorem Tu {sw:Sw} (h:okSw sw):swOf (sw.map swT)=some sw:=by
 unfold swOf
 rw [List.length_map,if_pos ⟨h.1,h.2.1⟩]
 have:C9 (sw.map swT)=some sw:=Rx (acc:=[]) h.2.2.1 h.2.2.2.1
 rw [this]
 show (if A8 sw<=256 then some sw else none)=_
 rw [if_pos h.2.2.2.2]
theorem ai1 {H:Hp} {e:Str×List Str} {x:V} (h:At K H (swT e) x):∃ ta la,x=.ref ta/\SqT K H ta [.str e.1,.ref la]/\SqL K H la (e.2.map V.str):=by
 unfold swT At at h
 obtain⟨ta,xs,rfl,q,h⟩:=h
 unfold AtL at h
 obtain⟨y0,ys,rfl,h0,h⟩:=h
 unfold AtL at h
 obtain⟨y1,ys,rfl,h1,h⟩:=h
 unfold AtL at h
 subst h
 unfold strD At at h0
 unfold At at h1
 obtain⟨la,zs,rfl,ql,hz⟩:=h1
 have:=Kv hz
 subst this
 rw [h0.1] at q
 exact⟨ta,la,rfl,q,ql⟩
theorem Gn {H:Hp} {ok:Addr->Prop}:∀ {ds:List (((Str×List Str)×Addr)×Addr)},(∀ x∈ds,Own ok H x.2 (.tup [.str x.1.1.1,.ref x.1.2])/\Own ok H x.1.2 (lstO x.1.1.2))->AtL K H ((ds.map (·.1.1)).map swT) (ds.map fun x=>V.ref x.2)
 | [],_=>Bb
 | x::ds,h=>Av (Mh (SqT.of (h x List.mem_cons_self).1.2) (Av Ce (Av (C2 (SqL.of (h x List.mem_cons_self).2.2)) Bb))) (Gn fun y hy=>h y (List.mem_cons_of_mem _ hy))
theorem Mu {e:Str×List Str} (h1:okW e.1) (h2:Dd e.2):fitD (swT e):=by
 intro d hd
 have hd:d=strD e.1\/d=.lst (e.2.map strD):=by simpa using hd
 rcases hd with rfl|rfl
 ·exact⟨Nat.le_trans h1.2.1 (by decide),trivial⟩
 ·refine⟨trivial,?_,fun d hd=>?_⟩
  ·rw [List.length_map];have:=h2.2.2;omega
  ·obtain⟨z,hz,rfl⟩:=List.mem_map.mp hd
   exact Nat.le_trans (h2.1.1 z hz).2.1 (by decide)
theorem Jx {H:Hp} {z:Str} {D:Outs} {σ:St} {C:Addr} (en:ECls K C) (k:∀ a,H a=none->D.ex σ a (upd (upd H a (excO a C none)) a (flO a C none))) :
  B8 K (dFn (fun vs H Q E=>vs.length<=1000/\mkX C none 0 vs H Q E) (Aa (dC (.str z)) dNil)) D σ H:=⟨Nat.le_of_ble_eq_true rfl,fun a ha=>⟨C,none,Ab,en,k a ha⟩⟩
theorem Aw {H:Hp} {E:XK} (Z:Au K t) {z:Str} {Q:VK} {σ:St} (k:BadX t.c_zap H E):B8 K (dFn (fun vs H Q E=>vs.length<=1000/\mkX t.c_zap none 0 vs H Q E) (Aa (dC (.str z)) dNil)) (Of Q E) σ H:=
 Jx Z.ep fun a ha=>k _ a (fun b o e=>by rw [Af (Ae e ha),Af (Ae e ha)];exact e) (.inl Ab)
theorem Mi {c:Addr} {H H1:Hp} {E:XK} (S:Same H H1) (k:BadX c H E):BadX c H1 E:=fun H' e S' q=>k H' e (S.trans S') q
theorem aw9 {f:Addr} {fd:FuncData} (Z:Au K t) (F:FunD K "read_switches" "read_switches" s_zk f fd .none) (T:Tab P w K mg base 4 (gb_4 K t) bl):FnOk P w K mg base (CXE P w) 5 f fd P_zk (Yz K t):=by
 refine F.okWX a42 a85 T (a16 K t) (fun vs H Q E h=>?_) (fun vs H Q E h=>?_)
 ·obtain⟨v,rfl,_⟩:=h;rfl
 ·obtain⟨v,rfl,h⟩:=h
  have main:∀ (a:Addr) (xs:List V) (ds:List Dt),v=.ref a->SqL K H a xs->AtL K H ds xs->(∀ d∈ds,fitD d)->(swOf ds=none->BadX t.c_zap H E)->(∀ sw,swOf ds=some sw -> ∀ H' d,Same H H'->SwAt (fresh H) H' d sw->Q (.ref d) H')->t_zk K t (Of Q E) [some v,none,none,none] H:=by
   intro a xs ds ev ql hA hfit kn ks
   subst ev
   have len:=hA.length
   refine⟨_,true,.sqL rfl ql rfl,rfl,?_⟩
   refine .inl ⟨_,.inl ql,?_⟩
   rw [len]
   by_cases h1:¬ (1<=ds.length/\ds.length<=5)
   ·have hn:swOf ds=none:=by unfold swOf;rw [if_neg h1]
    have bad:=Aw (σ:=[some (.ref a),none,none,none]) (Q:=Q) (z := "the switches are no list of one to five") Z (kn hn)
    by_cases h1':1<=ds.length
    ·refine Di (decide_eq_true (by omega)) (Di ?_ bad)
     rw [decide_eq_false (by omega)]
     rfl
    ·exact Dh (decide_eq_false (by omega)) bad
   have h1:=Classical.not_not.mp h1
   have e1:decide (1<=(ds.length:Int))=true:=by simp;omega
   have e2:decide ((ds.length:Int)<=5)=true:=by simp;omega
   refine Di e1 (Dh (by rw [e2];rfl) ?_)
   intro d hd0
   refine .inl (.inl ⟨⟨_,(Same.upd hd0).seqL ql⟩,?_⟩)
   refine B9 (Bl xs) (fun i σ H'=>∃ sw:Sw,C9 (ds.take i)=some sw/\sw.length<=i/\(∃ v3,σ=[some (.ref a),some (.ref d),some (.int (A8 sw:Nat)),v3])/\Same H H' /\
     ∃ es:List ((Str×List Str)×Addr),es.map (·.1)=sw/\H' d=some (.dK (es.map kR)) /\ ∀ x∈es,H x.2=none/\H' x.2=some (tupO x.1.2))
    ⟨[],rfl,Nat.le_refl _,⟨_,rfl⟩,Same.upd hd0,[],rfl,Ab,fun x hx=>by cases hx⟩ (fun i σ H' _ q=>by obtain⟨_,_,_,_,S,_⟩:=q;exact S.seqL ql) ?_ ?_
   ·rintro i x σ H1 hx ⟨sw,ef,sl,⟨v3,rfl⟩,S1,es,ee,e1d,he⟩
    obtain⟨dt,hdt,hax⟩:=Fx hA hx
    have hmem:=List.mem_of_getElem? hdt
    have hil:=Aj hdt
    have fs:=Uk hdt
    rw [ef] at fs
    refine⟨x,dt,rfl,Bi S1 hax,hfit dt hmem,fun H2 S2=>?_⟩
    have S:=S1.trans S2
    cases hsd:swD dt with
    | none=>
     have hn:C9 ds=none:=Oj (i:=i+1) (by rw [fs];show (swD dt).bind _=none;rw [hsd];rfl)
     have hn:swOf ds=none:=by unfold swOf;rw [if_pos h1,hn]
     exact Aw (σ:=[some (.ref a),some (.ref d),some (.int (A8 sw:Nat)),some x]) (Q:=Q) Z (Mi S (kn hn))
    | some e=>
    obtain⟨et,ow,os⟩:=Pt hsd
    subst et
    obtain⟨ta,la,rfl,qt0,qa0⟩:=ai1 hax
    have qt:=S.seqT qt0
    have qa:=S.seqL qa0
    refine⟨_,_,.inr qt,rfl,.inr ⟨_,DGet.k (k:=.inr e.1) (S2 _ _ e1d),?_⟩⟩
    have hst:E6 (some sw) (swT e)=if e.1∈sw.map (·.1) then none else some (sw++[e]):=by show (swD (swT e)).bind _=_;rw [hsd];rfl
    by_cases hk:e.1∈sw.map (·.1)
    ·rw [hst,if_pos hk] at fs
     have hn:swOf ds=none:=by unfold swOf;rw [if_pos h1,Oj fs]
     obtain⟨y,hy,ey⟩:=List.mem_map.mp hk
     rw [<- ee] at hy
     obtain⟨z,hz,rfl⟩:=List.mem_map.mp hy
     obtain⟨u,hu⟩:∃ u,valV (es.map kR) (.inr e.1)=some u:=Pu (List.mem_map.mpr ⟨kR z,List.mem_map.mpr ⟨z,hz,rfl⟩,congrArg Sum.inr ey⟩)
     rw [hu]
     exact Aw (σ:=[some (.ref a),some (.ref d),some (.int (A8 sw:Nat)),some (.ref ta)]) (Q:=Q) Z (Mi S (kn hn))
    ·rw [hst,if_neg hk] at fs
     have nk:valV (es.map kR) (.inr e.1)=none:=by
      refine B0 fun q=>hk ?_
      rw [Ed,ee] at q
      obtain⟨y,hy,e2⟩:=List.mem_map.mp q
      cases e2
      exact hy
     rw [nk]
     refine⟨_,_,.inr qt,rfl,_,.inl ⟨qa,fun tp htp=>?_⟩⟩
     have S3:=Same.upd (o:=tupO e.2) htp
     have et:upd H2 tp (tupO e.2) tp=some (tupO e.2):=Ab
     show By K (dVar 1) (dBin (rIxD K) (dVar 3) (dC (.int 0))) (.ref tp) [some (.ref a),some (.ref d),some (.int (A8 sw:Nat)),some (.ref ta)] (upd H2 tp (tupO e.2)) _
     have hft:H tp=none:=S.free htp
     generalize upd H2 tp (tupO e.2)=H3 at S3 et ⊢
     have Sa:=S.trans S3
     have e3d:=S3 _ _ (S2 _ _ e1d)
     have ndt:d≠tp:=Ae (S2 _ _ e1d) htp
     refine⟨_,_,.inr (S3.seqT qt),rfl,_,DPut.k (k:=.inr e.1) e3d ?_,?_⟩
     ·rw [List.length_map]
      have:es.length=sw.length:=by rw [<- ee];simp
      exact Nat.lt_of_le_of_lt (show es.length<=5 by omega) (by decide)
     rw [Ii nk]
     have Sb:Same H (upd H3 d (.dK ((es++[(e,tp)]).map kR))):=Sa.set hd0
     have keep:∀ b,b≠d->upd H3 d (.dK ((es++[(e,tp)]).map kR)) b=H3 b:=fun b hb=>Af hb
     have ebd:upd H3 d (.dK ((es++[(e,tp)]).map kR)) d=some (.dK ((es++[(e,tp)]).map kR)):=Ab
     generalize upd H3 d (.dK ((es++[(e,tp)]).map kR))=H4 at Sb keep ebd ⊢
     refine⟨_,_,.inr (Sb.seqT qt0),rfl,.inl ⟨_,.inl (Sb.seqL qa0),?_⟩⟩
     rw [List.length_map]
     have pm:((A8 sw:Nat):Int) * (e.2.length:Int)=((A8 (sw++[e]):Nat):Int):=by
      unfold A8
      rw [List.foldl_append,<- Int.natCast_mul]
      rfl
     have hb4:=os.2.2
     refine⟨.inr ⟨show -(2 ^ 64)<(e.2.length:Int) by omega,show (e.2.length:Int)<2 ^ 64 by omega⟩,?_⟩
     refine⟨sw++[e],fs,by rw [List.length_append];show sw.length+1<=i+1;omega,⟨_,congrArg (fun z=>[some (V.ref a),some (V.ref d),some (V.int z),some (V.ref ta)]) pm⟩,Sb,es++[(e,tp)],by rw [List.map_append,ee];rfl,ebd,?_⟩
     intro x hx
     rcases List.mem_append.mp hx with hx|hx
     ·obtain⟨a1,a2⟩:=he x hx
      refine⟨a1,?_⟩
      rw [keep x.2 (fun z=>by rw [z,e1d] at a2;cases a2)]
      exact S3 _ _ (S2 _ _ a2)
     ·have:x=(e,tp):=by simpa using hx
      subst this
      exact⟨hft,by rw [keep _ (Ne.symm ndt)];exact et⟩
   ·rintro σ H1 ⟨sw,ef,_,⟨v3,rfl⟩,S1,es,ee,e1d,he⟩
    rw [len,List.take_length] at ef
    refine .inl ?_
    by_cases hp:A8 sw<=256
    ·refine Dh ?_ ?_
     ·simp
      omega
     ·exact ks sw (by unfold swOf;rw [if_pos h1,ef];show (if A8 sw<=256 then some sw else none)=_;rw [if_pos hp]) H1 d S1 ⟨es,ee,⟨hd0,e1d⟩,he⟩
    ·refine Di ?_ (Aw (σ:=[some (.ref a),some (.ref d),some (.int (A8 sw:Nat)),v3]) (Q:=Q) Z (Mi S1 (kn (by unfold swOf;rw [if_pos h1,ef];show (if A8 sw<=256 then some sw else none)=_;rw [if_neg hp]))))
     simp
     omega
  rcases h with ⟨hn,kb⟩|⟨a,sw,rfl,hs,hw,k⟩
  ·rcases hn with ⟨d,ha,hl⟩|⟨r,kvs,rfl,hr⟩|⟨a,xs,ds,rfl,hq,hA,hf,hn⟩
   ·cases d with
    | at_ x=>
     unfold At at ha
     obtain⟨e,f⟩:=ha
     subst e
     cases v with
     | str z=>exact⟨rfl,Aw (σ:=[some (.str z),none,none,none]) (Q:=Q) Z kb⟩
     | int i=>exact⟨rfl,Aw (σ:=[some (.int i),none,none,none]) (Q:=Q) Z kb⟩
     | bl i=>exact⟨rfl,Aw (σ:=[some (.bl i),none,none,none]) (Q:=Q) Z kb⟩
     | non=>exact⟨rfl,Aw (σ:=[some .non,none,none,none]) (Q:=Q) Z kb⟩
     | _=>cases f
    | tup l=>
     unfold At at ha
     obtain⟨a,xs,rfl,q,_⟩:=ha
     exact⟨_,false,.sqT rfl q rfl,rfl,Aw (σ:=[some (.ref a),none,none,none]) (Q:=Q) Z kb⟩
    | lst l=>exact absurd rfl (hl l)
   ·exact⟨_,false,.of (.dK hr),rfl,Aw (σ:=[some (.ref r),none,none,none]) (Q:=Q) Z kb⟩
   ·exact main a xs ds rfl hq hA hf (fun _=>kb) fun sw e=>by rw [hn] at e;cases e
  ·obtain⟨ds,ed,⟨_,oa⟩,hd⟩:=hs
   have hA:=Gn (K:=K) hd
   rw [ed] at hA
   refine main a _ _ rfl (SqL.of oa) hA (fun d hd'=>?_) (fun e=>by rw [Tu hw] at e;cases e) fun sw' e=>by rw [Tu hw] at e;cases e;exact k
   obtain⟨x,hx,rfl⟩:=List.mem_map.mp hd'
   exact Mu (hw.2.2.2.1 x hx).1 (hw.2.2.2.1 x hx).2
theorem ax1 {f:Addr} {fd:FuncData} (Z:Au K t) (F:FunD K "copied_rule" "copied_rule" s_zm f fd .none) (T:Tab P w K mg base 0 (gb_0 K t) bl):FnOk P w K mg base CX0 1 f fd P_zm (Y1 K t):=by
 refine F.okW0 a44 a87 T (a18 K t) (fun vs H Q E h=>?_) (fun vs H Q E h=>?_)
 ·obtain⟨r,rule,rfl,_⟩:=h;rfl
 ·obtain⟨r,rule,rfl,⟨ds,ed,⟨_,od⟩,hd⟩,nd,hl,k⟩:=h
  intro c hc
  have ncr:r≠c:=Ae od hc
  have od1:upd H c (.dK []) r=some (.dK (ds.map kR)):=by rw [Af ncr];exact od
  refine .inl (.inr (.inr (.inl ⟨_,od1,fun o=>?_⟩)))
  have Hf:∀ b u,b≠r->H b=some u->upd (upd H c (.dK [])) r (.frz o (.dK (ds.map kR))) b=some u:=fun b u hb e=>by
   rw [Af hb,Af (Ae e hc)];exact e
  have ef:upd (upd H c (.dK [])) r (.frz o (.dK (ds.map kR))) r=some (.frz o (.dK (ds.map kR))):=Ab
  have ec:upd (upd H c (.dK [])) r (.frz o (.dK (ds.map kR))) c=some (.dK []):=by rw [Af (Ne.symm ncr),Ab]
  have len:ds.length=rule.length:=by rw [<- ed];simp
  generalize upd (upd H c (.dK [])) r (.frz o (.dK (ds.map kR)))=H0 at Hf ef ec ⊢
  refine B9 (Nk (ds.map kR)) (fun i σ H'=>(∃ v2,σ=[some (.ref r),some (.ref c),v2])/\(∀ b u,b≠r->H b=some u->H' b=some u)/\H' r=some (.frz o (.dK (ds.map kR))) /\
    ∃ es:List ((Str×List Str)×Addr),es.map (·.1)=rule.take i/\H' c=some (.dK (es.map kR)) /\ ∀ x∈es,H x.2=none/\H' x.2=some (lstO x.1.2))
   ⟨⟨_,rfl⟩,Hf,ef,[],rfl,ec,fun x hx=>by cases hx⟩ (fun i σ H' _ q=>q.2.2.1) ?_ ?_
  ·rintro i x σ H1 hx ⟨⟨v2,rfl⟩,S1,f1,es,ee,e1c,he⟩
   obtain⟨kv,hi0,rfl⟩:=Am hx
   obtain⟨⟨e,la⟩,hi,rfl⟩:=Am hi0
   have hi2:rule[i]? = some e:=by rw [<- ed,List.getElem?_map,hi];rfl
   obtain⟨_,h2⟩:=hd _ (List.mem_of_getElem? hi)
   have nla:la≠r:=fun z=>by rw [z,od] at h2;cases h2
   have nk:=Sm ee hi2 nd
   have hv:valV (ds.map kR) (.inr e.1)=some (.ref la):=Cj (Ef ed nd) hi0
   refine⟨.ref la,.inl ⟨_,.inr e.1,.inr ⟨o,f1⟩,rfl,hv.symm⟩,_,.inl (SqL.of (S1 _ _ nla h2)),fun lc hlc=>?_⟩
   have S3:=Same.upd (o:=lstO e.2) hlc
   have et:upd H1 lc (lstO e.2) lc=some (lstO e.2):=Ab
   have nlr:lc≠r:=(Ae f1 hlc).symm
   have hft:H lc=none:=by
    cases q:H lc with
    | none=>rfl
    | some u=>rw [S1 _ _ nlr q] at hlc;cases hlc
   have ndt:c≠lc:=Ae e1c hlc
   show By K (dVar 1) (dVar 2) (.ref lc) [some (.ref r),some (.ref c),some (.str e.1)] (upd H1 lc (lstO e.2)) _
   generalize upd H1 lc (lstO e.2)=H3 at S3 et ⊢
   refine⟨_,DPut.k (k:=.inr e.1) (S3 _ _ e1c) ?_,?_⟩
   ·rw [List.length_map]
    have:=Wt ee
    exact Nat.lt_of_le_of_lt (show es.length<=100 by omega) (by decide)
   rw [Ii nk]
   refine⟨⟨_,rfl⟩,fun b u hb e4=>?_,?_,es++[(e,lc)],Ic ee hi2,Ab,?_⟩
   ·rw [Af (Ae e4 hc)];exact S3 _ _ (S1 _ _ hb e4)
   ·rw [Af ncr];exact S3 _ _ f1
   ·intro x hx
    rcases List.mem_append.mp hx with hx|hx
    ·obtain⟨a1,a2⟩:=he x hx
     refine⟨a1,?_⟩
     rw [Af (fun z=>by rw [z,e1c] at a2;cases a2)]
     exact S3 _ _ a2
    ·have:x=(e,lc):=by simpa using hx
     subst this
     exact⟨hft,by rw [Af (Ne.symm ndt)];exact et⟩
  ·rintro σ H1 ⟨⟨v2,rfl⟩,S1,f1,es,ee,e1c,he⟩
   rw [List.length_map,List.length_map,len,List.take_length] at ee
   refine .inr ⟨r,o,_,od1,f1,?_⟩
   refine k _ c (fun b u e4=>?_) ⟨es,ee,⟨hc,?_⟩,fun x hx=>⟨(he x hx).1,?_⟩⟩
   ·by_cases hb:b=r
    ·subst hb;rw [Ab,<- od,e4]
    ·rw [Af hb];exact S1 _ _ hb e4
   ·rw [Af (Ne.symm ncr)];exact e1c
   ·rw [Af (fun z=>by have:=(he x hx).1;rw [z,od] at this;cases this)];exact (he x hx).2
theorem Ly:∀ (a:List (List Str)) (r:List Str) (k:Nat),numK k (a++[r])=numK k a++[(r.map .inr,.int ((k+a.length:Nat):Int))]
 | [],r,k=>rfl
 | b::a,r,k=>by
  rw [List.cons_append,numK,Ly a r (k+1),numK,List.length_cons,List.cons_append,show k+1+a.length=k+(a.length+1) by omega]
theorem Lx:∀ (a:List (List Str)) (k:Nat),(numK k a).map (·.1)=a.map fun r=>r.map (Sum.inr:Str->Key)
 | [],_=>rfl
 | b::a,k=>by rw [numK,List.map_cons,List.map_cons,Lx a]
theorem Ow:∀ (a:List (List Str)) (k:Nat),(numK k a).length=a.length
 | [],_=>rfl
 | b::a,k=>by rw [numK,List.length_cons,List.length_cons,Ow a]
theorem Xc {a b:List Str} (h:a.map (Sum.inr:Str->Key)=b.map (Sum.inr:Str->Key)):a=b:=(List.map_inj_right (fun x y e=>by injection e)).mp h
theorem ae6 (r:List Str):tupO r=.tup ((r.map (Sum.inr:Str->Key)).map kV):=by
 rw [List.map_map]
 rfl
theorem Kb {α:Type} {l:List α} {i:Nat} {x:α} (nd:l.Nodup) (h:l[i]? = some x):¬ x∈l.take i:=by
 intro hm
 obtain⟨j,hj,e⟩:=List.mem_iff_getElem.mp hm
 rw [List.length_take] at hj
 rw [List.getElem_take] at e
 have hi:=Aj h
 rw [List.getElem?_eq_getElem hi] at h
 have:=(List.getElem_inj (i:=j) (j:=i) (h₀:=by omega) (h₁:=hi) nd).mp (by rw [e];exact (Option.some.inj h).symm)
 omega
theorem aw0 {f:Addr} {fd:FuncData} (Z:Au K t) (F:FunD K "numbers_by_settings" "numbers_by_settings" s_zb f fd .none) (T:Tab P w K mg base 0 (gb_0 K t) bl):FnOk P w K mg base CX0 1 f fd P_zb (Yv K t):=by
 refine F.okW0 a33 a76 T (a07 K t) (fun vs H Q E h=>?_) (fun vs H Q E h=>?_)
 ·obtain⟨l,rows,rfl,_⟩:=h;rfl
 ·obtain⟨l,rows,rfl,⟨ds,ed,⟨_,ol⟩,hd⟩,nd,hl,k⟩:=h
  intro n hn
  have ql:=SqL.of (K:=K) ol
  have len:(Dr 0 (ds.map fun x=>V.ref x.2)).length=rows.length:=by rw [Ba,<- ed];simp
  refine .inr (.inl ⟨⟨_,(Same.upd hn).seqL ql⟩,?_⟩)
  refine Gc (Fh (ds.map fun x=>V.ref x.2)) (fun i σ H'=>(∃ v2 v3,σ=[some (.ref l),some (.ref n),v2,v3])/\Same H H'/\H' n=some (.dT (numK 0 (rows.take i))))
   ⟨⟨_,_,rfl⟩,Same.upd hn,Ab⟩ (fun i σ H' _ q=>q.2.1.seqL ql) ?_ ?_
  ·rintro i x y T σ H1 hxy hT ⟨⟨v2,v3,rfl⟩,S1,e1⟩
   have hi':=Aj hxy
   rw [Ba,List.length_map] at hi'
   obtain⟨⟨r,b⟩,hi⟩:∃ z,ds[i]? = some z:=⟨_,List.getElem?_eq_getElem hi'⟩
   have:=Cn (k:=0) (xs:=ds.map fun x=>V.ref x.2) (i:=i) (x:=.ref b) (by rw [List.getElem?_map,hi];rfl)
   rw [this] at hxy
   obtain⟨rfl,rfl⟩:V.int ((0+i:Nat):Int)=x/\V.ref b=y:=by simpa using hxy
   have hi2:rows[i]? = some r:=by rw [<- ed,List.getElem?_map,hi];rfl
   have hb:=(hd _ (List.mem_of_getElem? hi)).2
   have ST:=Same.upd (o:=.tup [.int ((0+i:Nat):Int),.ref b]) hT
   refine⟨_,SqT.of Ab,rfl,?_⟩
   generalize upd H1 T (.tup [.int ((0+i:Nat):Int),.ref b])=H2 at ST ⊢
   have S2:=S1.trans ST
   have hb2:=S2 _ _ hb
   rw [ae6] at hb2
   refine⟨_,DPut.t (ST _ _ e1) hb2 ?_,⟨_,_,rfl⟩,S2.set hn,?_⟩
   ·rw [Ow,List.length_take]
    exact Nat.lt_of_le_of_lt (show min i rows.length<=256 by omega) (by decide)
   ·rw [Ab,Ju,List.take_add_one,hi2,Option.toList_some,Ly,List.length_take,Nat.min_eq_left (Nat.le_of_lt (Aj hi2))]
    refine B0 ?_
    rw [Lx]
    intro hm
    obtain⟨r2,h1,h2⟩:=List.mem_map.mp hm
    rw [Xc h2] at h1
    exact Kb nd hi2 h1
  ·rintro σ H1 ⟨⟨v2,v3,rfl⟩,S1,e1⟩
   rw [len,List.take_length] at e1
   exact .inl (k H1 n S1 ⟨hn,e1⟩)
theorem cat1 {H:Hp} {aa p:Addr} {a:List Str} {z:Str} {Q:VK} (ha:H aa=some (tupO a)) (hp:H p=some (.tup [.str z])) (hl:a.length<=100) (k:∀ q H',Same H H'->H' q=some (tupO (a++[z]))->(H q=none\/q=p)->Q (.ref q) H'):Ao K (.ref aa) (.ref p) H Q:=by
 cases a with
 | nil=>exact .inr (.inr ⟨aa,p,_,rfl,rfl,SqT.of ha,SqT.of hp,k p H (Same.refl _) hp (.inr rfl)⟩)
 | cons y a=>
  refine .inr (.inl ⟨aa,p,_,_,rfl,rfl,SqT.of ha,SqT.of hp,by simp,?_,(fun e=>by cases e),fun _ q hq=>?_⟩)
  ·rw [List.length_map]
   exact Nat.le_trans (show (y::a).length+1<=101 by omega) (by decide)
  ·refine k q _ (Same.upd hq) ?_ (.inl hq)
   rw [Ab,tupO,List.map_append]
   rfl
theorem Ug {α:Type} {ok:Addr->Prop} {H:Hp} {f:α->HO} {es:List (α×Addr)} {e:α} {a:Addr} (h:∀ x∈es,ok x.2/\H x.2=some (f x.1)) (h1:ok a) (h2:H a=some (f e)):∀ x∈es++[(e,a)],ok x.2/\H x.2=some (f x.1):=by
 intro x hx
 rcases List.mem_append.mp hx with hx|hx
 ·exact h x hx
 ·have:x=(e,a):=by simpa using hx
  subst this
  exact⟨h1,h2⟩
theorem Z0 {α:Type} {ok:Addr->Prop} {H H':Hp} {f:α->HO} {es:List (α×Addr)} (S:Same H H') (h:∀ x∈es,ok x.2/\H x.2=some (f x.1)):∀ x∈es,ok x.2/\H' x.2=some (f x.1):=fun x hx=>⟨(h x hx).1,S _ _ (h x hx).2⟩
theorem L9 {rows:List (List Str)} {j:Nat} {r:List Str} {x:Str×List Str} (h:rows[j]? = some r):Cm (rows.take (j+1)) x=Cm (rows.take j) x++x.2.map fun z=>r++[z]:=by
 unfold Cm
 rw [List.take_add_one,h,Option.toList_some,List.flatMap_append]
 simp
theorem Qp {E:EK} {H0 H:Hp} {aa ta:Addr} {a:List Str} {l:List Str} {σ:St} {R:Hp->Addr->Prop} (hσ:∃ v,σ=[v,some (.ref aa)]) (S0:Same H0 H) (ha:H aa=some (tupO a)) (ht:H ta=some (tupO l)) (hl:a.length<=100) (hl2:l.length<=8)
  (k:∀ D H',Same H H'->H D=none -> ∀ fs:List (List Str×Addr),fs.map (·.1)=l.map (fun z=>a++[z])->H' D=some (.lst (fs.map fun x=>.ref x.2))->(∀ x∈fs,H0 x.2=none/\H' x.2=some (tupO x.1))->R H' D) :
  ∀ D,H D=none->CmpW (Itt K ta) (gdN 0) dYes (dBin (Ao K) (dVar 1) (dTup (Aa (dVar 0) dNil))) D (fun H'=>R H' D) σ (upd H D (.lst [])) E:=by
 intro D hD
 refine C7 (Zq (l.map V.str)) (fun m σ H'=>(∃ v,σ=[v,some (.ref aa)])/\Same H H' /\ ∃ fs:List (List Str×Addr),fs.map (·.1)=(l.take m).map (fun z=>a++[z])/\H' D=some (.lst (fs.map fun x=>.ref x.2)) /\ ∀ x∈fs,H0 x.2=none/\H' x.2=some (tupO x.1))
  ⟨hσ,Same.upd hD,[],rfl,Ab,fun x hx=>by cases hx⟩ (fun m σ H' _ q=>q.2.1.seqT (SqT.of ht)) ?_ ?_
 ·rintro m x σ H1 hx ⟨⟨v,rfl⟩,S1,fs,ef,eD,hf⟩
  obtain⟨z,hz,rfl⟩:=Am hx
  refine⟨(show 1<=sizeLine by decide),fun p hp=>?_⟩
  have Sp:=Same.upd (o:=.tup [.str z]) hp
  have ep:upd H1 p (.tup [.str z]) p=some (.tup [.str z]):=Ab
  show Ao K (.ref aa) (.ref p) (upd H1 p (.tup [.str z])) _
  generalize upd H1 p (.tup [.str z])=H2 at Sp ep ⊢
  refine cat1 (Sp _ _ (S1 _ _ ha)) ep hl fun q H3 S3 eq nq=>?_
  have S03:=S0.trans (S1.trans (Sp.trans S3))
  have hq0:H0 q=none:=by
   rcases nq with nq|rfl
   ·exact (S0.trans (S1.trans Sp)).free nq
   ·exact (S0.trans S1).free hp
  have qD:q≠D:=by
   rcases nq with nq|rfl
   ·exact (Ae (Sp _ _ eD) nq).symm
   ·exact (Ae eD hp).symm
  have eD3:=S3 _ _ (Sp _ _ eD)
  refine⟨_,eD3,?_,⟨_,rfl⟩,(S1.trans (Sp.trans S3)).set hD,fs++[(a++[z],q)],?_,?_,?_⟩
  ·rw [List.length_map]
   have:=congrArg List.length ef
   rw [List.length_map,List.length_map,List.length_take] at this
   exact Nat.lt_of_le_of_lt (show fs.length<=8 by omega) (by decide)
  ·rw [List.map_append,ef,C6 hz];rfl
  ·rw [Ab,List.map_append];rfl
  ·have hf3:∀ x∈fs++[(a++[z],q)],H0 x.2=none/\H3 x.2=some (tupO x.1):=Ug (ok:=fun a=>H0 a=none) (f:=tupO) (Z0 (ok:=fun a=>H0 a=none) (f:=tupO) (Sp.trans S3) hf) hq0 eq
   intro x hx
   refine⟨(hf3 x hx).1,?_⟩
   rw [Af (fun e=>by have:=(hf3 x hx).2;rw [e,eD3] at this;cases this)]
   exact (hf3 x hx).2
 ·rintro σ H1 ⟨_,S1,fs,ef,eD,hf⟩
  rw [List.length_map,List.take_length] at ef
  exact k D H1 S1 hD fs ef eD hf
theorem aw1 {f:Addr} {fd:FuncData} (Z:Au K t) (F:FunD K "settings_of_choices" "settings_of_choices" s_zc f fd .none) (T:Tab P w K mg base 0 (gb_0 K t) bl):FnOk P w K mg base CX0 1 f fd P_zc (Yw K t):=by
 refine F.okW0 a34 a77 T (a08 K t) (fun vs H Q E h=>?_) (fun vs H Q E h=>?_)
 ·obtain⟨d,sw,rfl,_⟩:=h;rfl
 ·obtain⟨d,sw,rfl,⟨ds,ed,⟨_,od⟩,hd⟩,hw,k⟩:=h
  refine⟨(show 0<=sizeLine by decide),fun t0 h0=>⟨(show 1<=sizeLine by decide),fun l0 hl0=>?_⟩⟩
  have St:=Same.upd (o:=.tup []) h0
  have Sl:=Same.upd (o:=.lst [.ref t0]) hl0
  have ft:H t0=none:=h0
  have fl:H l0=none:=St.free hl0
  have et:upd (upd H t0 (.tup [])) l0 (.lst [.ref t0]) t0=some (tupO []):=Sl _ _ Ab
  have el:upd (upd H t0 (.tup [])) l0 (.lst [.ref t0]) l0=some (.lst [.ref t0]):=Ab
  have S0:=St.trans Sl
  generalize upd (upd H t0 (.tup [])) l0 (.lst [.ref t0])=H0 at S0 et el ⊢
  have od0:=S0 _ _ od
  refine .inr (.inr (.inl ⟨_,od0,fun o=>?_⟩))
  have len:ds.length=sw.length:=by rw [<- ed];simp
  have kf:Kp (fresh H) H0 (fresh H) (upd H0 d (.frz o (.dK (ds.map kR)))):=Kp.off (Ff od)
  have ef:upd H0 d (.frz o (.dK (ds.map kR))) d=some (.frz o (.dK (ds.map kR))):=Ab
  have ht0:∀ x∈ds,upd H0 d (.frz o (.dK (ds.map kR))) x.2=some (tupO x.1.2):=fun x hx=>by
   rw [Af (fun e=>by have:=(hd x hx).2;rw [e,od] at this;cases this)]
   exact S0 _ _ (hd x hx).2
  have T0:TupsAt (fresh H) (upd H0 d (.frz o (.dK (ds.map kR)))) l0 (Ai (sw.take 0)):=⟨[([],t0)],rfl,kf _ _ ⟨fl,el⟩,fun x hx=>by
   have:x=([],t0):=by simpa using hx
   subst this
   exact kf _ _ ⟨ft,et⟩⟩
  have frees:∀ {H':Hp} {b:Addr},Same (upd H0 d (.frz o (.dK (ds.map kR)))) H'->H' b=none->H b=none:=fun {H' b} S e=>by
   have e1:=S.free e
   have nb:b≠d:=fun z=>by rw [z,ef] at e1;cases e1
   rw [Af nb] at e1
   exact S0.free e1
  generalize hHf:upd H0 d (.frz o (.dK (ds.map kR)))=Hf at kf ef ht0 T0 frees ⊢
  refine B9 (Nk (ds.map kR)) (fun i σ H'=>(∃ l v2 v3 v4,σ=[some (.ref d),some (.ref l),v2,v3,v4]/\TupsAt (fresh H) H' l (Ai (sw.take i)))/\Same Hf H') ⟨⟨_,_,_,_,rfl,T0⟩,Same.refl _⟩ (fun i σ H' _ q=>q.2 _ _ ef) ?_ ?_
  ·rintro i x σ H1 hx ⟨⟨l,v2,v3,v4,rfl,⟨es,ee,⟨fl1,el1⟩,he⟩⟩,S1⟩
   obtain⟨kv,hi0,rfl⟩:=Am hx
   obtain⟨⟨e,ta⟩,hi,rfl⟩:=Am hi0
   have hi2:sw[i]? = some e:=by rw [<- ed,List.getElem?_map,hi];rfl
   have hta:=ht0 _ (List.mem_of_getElem? hi)
   have hoke:=hw.sets e (List.mem_of_getElem? hi2)
   have hv:valV (ds.map kR) (.inr e.1)=some (.ref ta):=Cj (Ef ed hw.2.2.1) hi0
   refine⟨by decide,fun l2 hl2=>.inl ⟨⟨_,(Same.upd hl2).seqL (SqL.of el1)⟩,?_⟩⟩
   have f2:H l2=none:=frees S1 hl2
   have Sl2:=Same.upd (o:=.lst []) hl2
   have rl:∀ r∈Ai (sw.take i),r.length<=100:=fun r hr=>by
    have h1:=(Gj (sw:=sw.take i) (fun x hx=>hw.sets x (List.mem_of_mem_take hx))).2.1 r hr
    rw [h1,List.length_take]
    have:=hw.2.1
    omega
   have lenr:es.length=(Ai (sw.take i)).length:=by rw [<- ee];simp
   have few:(Ai (sw.take i)).length<=256:=by rw [Gh];exact Nat.le_trans (L6 hw i) hw.2.2.2.2
   refine B9 (Bl (es.map fun x=>V.ref x.2)) (fun j σ H'=>(∃ v4,σ=[some (.ref d),some (.ref l),some (.str e.1),some (.ref l2),v4])/\Same H1 H' /\ ∃ fs:List (List Str×Addr),fs.map (·.1)=Cm ((Ai (sw.take i)).take j) e /\
     H' l2=some (.lst (fs.map fun x=>.ref x.2)) /\ ∀ x∈fs,H x.2=none/\H' x.2=some (tupO x.1))
    ⟨⟨_,rfl⟩,Sl2,[],rfl,Ab,fun x hx=>by cases hx⟩ (fun j σ H' _ q=>q.2.1.seqL (SqL.of el1)) ?_ ?_
   ·rintro j y σ H2 hy ⟨⟨v4,rfl⟩,S2,fs,efs,e2l,hf⟩
    obtain⟨⟨r,ra⟩,hj,rfl⟩:=Am hy
    have hj2:(Ai (sw.take i))[j]? = some r:=by rw [<- ee,List.getElem?_map,hj];rfl
    obtain⟨_,hra⟩:=he _ (List.mem_of_getElem? hj)
    have S12:=S1.trans S2
    refine⟨.inl ⟨rfl,_,SqL.of e2l⟩,.ref ta,.inl ⟨_,.inr e.1,.inr ⟨o,S12 _ _ ef⟩,rfl,hv.symm⟩,.inr (.inl ⟨⟨_,SqT.of (S12 _ _ hta)⟩,?_⟩)⟩
    refine Qp (H0:=H1) ⟨_,rfl⟩ S2 (S2 _ _ hra) (S12 _ _ hta) (rl r (List.mem_of_getElem? hj2)) (Nat.le_trans hoke.2.2 (by decide)) fun D H3 S3 hD gs eg eD hg=>?_
    have e3l:=S3 _ _ e2l
    have lfs:fs.length<=1024:=by
     have:=congrArg List.length efs
     rw [List.length_map,Hg,List.length_take] at this
     have h4:=hoke.2.2
     have:min j (Ai (sw.take i)).length * e.2.length<=256 * 4:=Nat.mul_le_mul (by omega) h4
     omega
    have lgs:gs.length<=4:=by
     have h1:gs.length=e.2.length:=by simpa using congrArg List.length eg
     have h2:e.2.length<=4:=hoke.2.2
     omega
    refine⟨l2,D,_,_,rfl,rfl,e3l,eD,?_,⟨_,rfl⟩,(S2.trans S3).set hl2,fs++gs,?_,?_,?_⟩
    ·rw [List.length_map,List.length_map]
     exact Nat.le_trans (show fs.length+gs.length<=1028 by omega) (by decide)
    ·rw [List.map_append,efs,eg,L9 hj2]
    ·rw [Ab,List.map_append]
    ·have h3:∀ x∈fs++gs,H x.2=none/\H3 x.2=some (tupO x.1):=fun x hx=>by
      rcases List.mem_append.mp hx with hx|hx
      ·exact⟨(hf x hx).1,S3 _ _ (hf x hx).2⟩
      ·exact⟨frees S1 (hg x hx).1,(hg x hx).2⟩
     intro x hx
     refine⟨(h3 x hx).1,?_⟩
     rw [Af (fun e=>by have:=(h3 x hx).2;rw [e,e3l] at this;cases this)]
     exact (h3 x hx).2
   ·rintro σ H2 ⟨⟨v4,rfl⟩,S2,fs,efs,e2l,hf⟩
    rw [List.length_map,lenr,List.take_length] at efs
    refine .inl ⟨⟨_,_,_,_,rfl,fs,?_,⟨f2,e2l⟩,hf⟩,S1.trans S2⟩
    rw [efs]
    exact (Da hi2 _ _).symm
  ·rintro σ H1 ⟨⟨l,v2,v3,v4,rfl,T1⟩,S1⟩
   rw [List.length_map,List.length_map,len,List.take_length] at T1
   refine .inr ⟨d,o,_,od0,S1 _ _ ef,?_⟩
   exact k _ l (S0.trans (Same.thaw od0 (hHf▸S1))) (T1.mono (Kp.off (Ff od)))
def Off (d:Addr) (H H':Hp):Prop:=∀ b u,b≠d->H b=some u->H' b=some u
theorem Off.up {d:Addr} {H H1 H2:Hp} (h:Off d H H1) (S:Same H1 H2):Off d H H2:=fun b u n e=>S _ _ (h b u n e)
theorem Off.set {d a:Addr} {o:HO} {H H1:Hp} (h:Off d H H1) (e:H a=none):Off d H (upd H1 a o):=fun b u n q=>by rw [Af (Ae q e)];exact h b u n q
theorem Off.free {d b:Addr} {H H1:Hp} (h:Off d H H1) (n:b≠d) (e:H1 b=none):H b=none:=by
 cases q:H b with
 | none=>rfl
 | some u=>rw [h b u n q] at e;cases e
theorem Off.thaw {d:Addr} {kvs:List (Key×V)} {H H1:Hp} (h:Off d H H1) (e:H d=some (.dK kvs)):Same H (upd H1 d (.dK kvs)):=fun b u q=>by
 by_cases n:b=d
 ·subst n;rw [Ab,<- e,q]
 ·rw [Af n];exact h b u n q
theorem Le (p:Nat) (z:Str):∀ (a:List (List Str)) (r:List Str) (k:Nat),havM p z k (a++[r])=havM p z k a++(if r[p]? = some z then [k+a.length] else [])
 | [],r,k=>by
  rw [List.nil_append,havM,havM,havM,List.nil_append]
  rfl
 | b::a,r,k=>by
  rw [List.cons_append,havM,havM,Le p z a r (k+1),List.length_cons,show k+1+a.length=k+(a.length+1) by omega]
  split <;> simp
theorem Mx (p:Nat) (z:Str):∀ (a:List (List Str)) (k n:Nat),n∈havM p z k a->n<k+a.length
 | [],k,n,h=>by cases h
 | b::a,k,n,h=>by
  rw [havM] at h
  rw [List.length_cons]
  split at h
  ·rcases List.mem_cons.mp h with h|h
   ·omega
   ·have:=Mx p z a (k+1) n h;omega
  ·have:=Mx p z a (k+1) n h;omega
theorem Jd (p:Nat) (z:Str):∀ (a:List (List Str)) (k:Nat),(havM p z k a).length<=a.length
 | [],k=>Nat.le_refl _
 | b::a,k=>by
  rw [havM,List.length_cons]
  split
  ·rw [List.length_cons];have:=Jd p z a (k+1);omega
  ·have:=Jd p z a (k+1);omega
theorem Ib {α:Type} {ds:List (α×Addr)} {i:Nat} {x y:V} (h:(Dr 0 (ds.map fun x=>V.ref x.2))[i]? = some (x,y)):∃ z,ds[i]? = some z/\x=.int (i:Int)/\y=.ref z.2:=by
 have hi:=Aj h
 rw [Ba,List.length_map] at hi
 refine⟨_,List.getElem?_eq_getElem hi,?_⟩
 have:=Cn (k:=0) (xs:=ds.map fun x=>V.ref x.2) (i:=i) (x:=.ref ds[i].2) (by rw [List.getElem?_map,List.getElem?_eq_getElem hi];rfl)
 rw [this,Nat.zero_add] at h
 obtain⟨rfl,rfl⟩:V.int (i:Int)=x/\V.ref ds[i].2=y:=by simpa using h
 exact⟨rfl,rfl⟩
theorem ai5 {E:EK} {H:Hp} {l:Addr} {ds:List (List Str×Addr)} {rows:List (List Str)} {i:Nat} {z:Str} {R:Hp->Addr->Prop} (ed:ds.map (·.1)=rows) (ol:H l=some (.lst (ds.map fun x=>.ref x.2))) (hd:∀ x∈ds,H x.2=some (tupO x.1)) (hr:∀ r∈rows,i<r.length) (few:rows.length<=256)
  (k:∀ D H',Same H H'->H D=none->H' D=some (.lst ((havM i z 0 rows).map fun n:Nat=>V.int (n:Int)))->R H' D) :
  ∀ D,H D=none->CmpW (Ite K l) (gdT K 2 [gdN 0,gdN 1]) (dTst (dBin (rEqD K false) (dBin (rIxD K) (dVar 1) (dVar 2)) (dVar 3))) (dVar 0) D (fun H'=>R H' D) [none,none,some (.int (i:Int)),some (.str z)] (upd H D (.lst [])) E:=by
 intro D hD
 have len:(Dr 0 (ds.map fun x=>V.ref x.2)).length=rows.length:=by rw [Ba,<- ed];simp
 refine Rs (Fh (ds.map fun x=>V.ref x.2)) (fun m σ H'=>(∃ v0 v1,σ=[v0,v1,some (.int (i:Int)),some (.str z)])/\Same H H'/\H' D=some (.lst ((havM i z 0 (rows.take m)).map fun n:Nat=>V.int (n:Int))))
  ⟨⟨_,_,rfl⟩,Same.upd hD,Ab⟩ (fun m σ H' _ q=>q.2.1.seqL (SqL.of ol)) ?_ ?_
 ·rintro m x y T σ H1 hxy hT ⟨⟨v0,v1,rfl⟩,S1,eD⟩
  obtain⟨⟨r,b⟩,hm,rfl,rfl⟩:=Ib hxy
  have hm2:rows[m]? = some r:=by rw [<- ed,List.getElem?_map,hm];rfl
  have hb:=hd _ (List.mem_of_getElem? hm)
  have hi:=hr r (List.mem_of_getElem? hm2)
  have ST:=Same.upd (o:=.tup [.int (m:Int),.ref b]) hT
  refine⟨_,SqT.of Ab,rfl,?_⟩
  show dTst _ [some (.int (m:Int)),some (.ref b),some (.int (i:Int)),some (.str z)] (upd H1 T (.tup [.int (m:Int),.ref b])) _ _
  generalize upd H1 T (.tup [.int (m:Int),.ref b])=H2 at ST ⊢
  have S2:=S1.trans ST
  have eD2:=ST _ _ eD
  have mm:min m rows.length=m:=Nat.min_eq_left (Nat.le_of_lt (Aj hm2))
  have he:havM i z 0 (rows.take (m+1))=havM i z 0 (rows.take m)++(if r[i]? = some z then [m] else []):=by
   rw [List.take_add_one,hm2,Option.toList_some,Le,List.length_take,mm,Nat.zero_add]
  refine⟨_,_,.inr (SqT.of (S2 _ _ hb)),Bs (j:=i) (by rw [List.getElem?_map,List.getElem?_eq_getElem hi];rfl),?_⟩
  rw [List.getElem?_eq_getElem hi] at he
  show if decide (r[i]=z)=true then _ else _
  refine ite2 (fun e=>?_) (fun e=>?_)
  ·have e:r[i]=z:=by simpa using e
   rw [if_pos (by rw [e])] at he
   refine⟨_,eD2,?_,⟨_,_,rfl⟩,S2.set hD,?_⟩
   ·rw [List.length_map]
    have h1:=Jd i z (rows.take m) 0
    rw [List.length_take] at h1
    exact Nat.lt_of_le_of_lt (show (havM i z 0 (rows.take m)).length<=256 by omega) (by decide)
   ·rw [Ab,he,List.map_append];rfl
  ·have e:¬ r[i]=z:=by simpa using e
   rw [if_neg (by simpa using e),List.append_nil] at he
   exact⟨⟨_,_,rfl⟩,S2,by rw [he];exact eD2⟩
 ·rintro σ H1 ⟨_,S1,eD⟩
  rw [len,List.take_length] at eD
  exact k D H1 S1 hD eD
theorem Vo {rows:List (List Str)} {i m:Nat} {l:List Str} {z:Str} (hz:l[m]? = some z) (nd:l.Nodup) :
  putK ((l.take m).map fun z=>((.inr z:Key),V.int (Dj rows i z))) (.inr z) (.int (Dj rows i z))=(l.take (m+1)).map fun z=>((.inr z:Key),V.int (Dj rows i z)):=by
 rw [Ju,C6 hz]
 refine B0 ?_
 rw [List.map_map]
 intro hm
 obtain⟨y,hy,e⟩:=List.mem_map.mp hm
 have e:y=z:=by injection e
 subst e
 exact Kb nd hz hy
theorem aw6 {f:Addr} {fd:FuncData} (Z:Au K t) (F:FunD K "sets_of_settings" "sets_of_settings" s_zh f fd .none) (T:Tab P w K mg base 1 (gb_1 K t) bl):FnOk P w K mg base CX0 2 f fd P_zh (Yy K t):=by
 refine F.okW0 a39 a82 T (a13 K t) (fun vs H Q E h=>?_) (fun vs H Q E h=>?_)
 ·obtain⟨d,l,sw,rfl,_⟩:=h;rfl
 ·obtain⟨d,l,sw,rfl,⟨ds,ed,⟨_,od⟩,hd⟩,⟨ts,et,⟨_,ol⟩,htp⟩,hw,k⟩:=h
  intro s hs
  have nds:d≠s:=Ae od hs
  have nld:l≠d:=fun e=>by rw [e,od] at ol;cases ol
  have od1:upd H s (.dK []) d=some (.dK (ds.map kR)):=by rw [Af nds];exact od
  refine .inl (.inr (.inl ⟨_,od1,fun o=>?_⟩))
  have O0:Off d H (upd (upd H s (.dK [])) d (.frz o (.dK (ds.map kR)))):=fun b u n e=>by rw [Af n,Af (Ae e hs)];exact e
  have ef:upd (upd H s (.dK [])) d (.frz o (.dK (ds.map kR))) d=some (.frz o (.dK (ds.map kR))):=Ab
  have es0:upd (upd H s (.dK [])) d (.frz o (.dK (ds.map kR))) s=some (.dK []):=by rw [Af (Ne.symm nds),Ab]
  have len:(Dr 0 ((ds.map kR).map fun kv=>kV kv.1)).length=sw.length:=by rw [Ba,<- ed];simp
  have few:=hw.len
  have rlen:=(Gj hw.sets).2.1
  show ForW (Itde d o (ds.map kR)) _ _ _ [some (.ref d),some (.ref l),some (.ref s),none,none,none,none] _
  generalize upd (upd H s (.dK [])) d (.frz o (.dK (ds.map kR)))=H0 at O0 ef es0 ⊢
  refine Gc (Zo (ds.map kR)) (fun i σ H'=>(∃ v3 v4 v5 v6,σ=[some (.ref d),some (.ref l),some (.ref s),v3,v4,v5,v6])/\Off d H H'/\H' d=some (.frz o (.dK (ds.map kR))) /\
    ∃ es:List ((Str×List Str)×Addr),es.map (·.1)=sw.take i/\H' s=some (.dK (es.map kR)) /\ ∀ j x,es[j]? = some x->H x.2=none/\H' x.2=some (setO (Ai sw) j x.1.2))
   ⟨⟨_,_,_,_,rfl⟩,O0,ef,[],rfl,es0,fun j x hx=>by simp at hx⟩ (fun i σ H' _ q=>q.2.2.1) ?_ ?_
  ·rintro i x y T σ H1 hxy hT ⟨⟨v3,v4,v5,v6,rfl⟩,O1,f1,es,ee,e1s,he⟩
   have hi':=Aj hxy
   rw [len] at hi'
   have hids:i<ds.length:=by rw [<- ed,List.length_map] at hi';exact hi'
   obtain⟨⟨e,ta⟩,hi⟩:∃ z,ds[i]? = some z:=⟨_,List.getElem?_eq_getElem hids⟩
   have hxy2:=Cn (k:=0) (xs:=(ds.map kR).map fun kv=>kV kv.1) (i:=i) (x:=.str e.1) (by rw [List.getElem?_map,List.getElem?_map,hi];rfl)
   rw [hxy2,Nat.zero_add] at hxy
   obtain⟨rfl,rfl⟩:V.int (i:Int)=x/\V.str e.1=y:=by simpa using hxy
   have hi2:sw[i]? = some e:=by rw [<- ed,List.getElem?_map,hi];rfl
   have hta:=(hd _ (List.mem_of_getElem? hi)).2
   have nta:ta≠d:=fun z=>by rw [z,od] at hta;cases hta
   have hoke:=hw.sets e (List.mem_of_getElem? hi2)
   have hv:valV (ds.map kR) (.inr e.1)=some (.ref ta):=Cj (Ef ed hw.2.2.1) (by rw [List.getElem?_map,hi];rfl)
   have nk:=Sm ee hi2 hw.2.2.1
   have les:es.length=i:=by
    have:=congrArg List.length ee
    rw [List.length_map,List.length_take] at this
    omega
   have ST:=Same.upd (o:=.tup [.int (i:Int),.str e.1]) hT
   refine⟨_,SqT.of Ab,rfl,?_⟩
   show dSeq _ _ _ [some (.ref d),some (.ref l),some (.ref s),some (.int (i:Int)),some (.str e.1),v5,v6] (upd H1 T (.tup [.int (i:Int),.str e.1]))
   generalize upd H1 T (.tup [.int (i:Int),.str e.1])=H2 at ST ⊢
   have O2:=O1.up ST
   have f2:=ST _ _ f1
   have e2s:=ST _ _ e1s
   intro q hq
   have nqd:q≠d:=(Ae f2 hq).symm
   have nqs:q≠s:=(Ae e2s hq).symm
   have fq:H q=none:=O2.free nqd hq
   have Sq:=Same.upd (o:=.dK []) hq
   have eq:upd H2 q (.dK []) q=some (.dK []):=Ab
   refine .inl ?_
   show By K (dVar 2) (dVar 4) (.ref q) [some (.ref d),some (.ref l),some (.ref s),some (.int (i:Int)),some (.str e.1),v5,v6] (upd H2 q (.dK [])) _
   generalize upd H2 q (.dK [])=H3 at Sq eq ⊢
   refine⟨_,DPut.k (k:=.inr e.1) (Sq _ _ e2s) ?_,?_⟩
   ·rw [List.length_map]
    have:=hw.2.1
    exact Nat.lt_of_le_of_lt (show es.length<=5 by omega) (by decide)
   rw [Ii nk]
   have O4:Off d H (upd H3 s (.dK ((es++[(e,q)]).map kR))):=(O2.up Sq).set hs
   have f4:upd H3 s (.dK ((es++[(e,q)]).map kR)) d=some (.frz o (.dK (ds.map kR))):=by rw [Af nds];exact Sq _ _ f2
   have e4s:upd H3 s (.dK ((es++[(e,q)]).map kR)) s=some (.dK ((es++[(e,q)]).map kR)):=Ab
   have e4q:upd H3 s (.dK ((es++[(e,q)]).map kR)) q=some (setO (Ai sw) i (e.2.take 0)):=by rw [Af nqs];exact eq
   have he4:∀ j x,es[j]? = some x->H x.2=none/\upd H3 s (.dK ((es++[(e,q)]).map kR)) x.2=some (setO (Ai sw) j x.1.2)/\x.2≠q/\x.2≠s:=fun j x hx=>by
    obtain⟨a1,a2⟩:=he j x hx
    have b1:=Ae (ST _ _ a2) hq
    have b2:x.2≠s:=fun z=>by
     rw [z,e1s] at a2
     unfold setO at a2
     have a3:es.map kR=x.1.2.map fun z=>((.inr z:Key),V.int (Dj (Ai sw) j z)):=by injection (Option.some.inj a2)
     have m1:kR x∈es.map kR:=List.mem_map_of_mem (List.mem_of_getElem? hx)
     rw [a3] at m1
     obtain⟨y,_,hy⟩:=List.mem_map.mp m1
     injection hy with _ hy
     cases hy
    refine⟨a1,?_,b1,b2⟩
    rw [Af b2];exact Sq _ _ (ST _ _ a2)
   generalize upd H3 s (.dK ((es++[(e,q)]).map kR))=H4 at O4 f4 e4s e4q he4 ⊢
   have nd4:(((es++[(e,q)]).map kR).map (·.1)).Nodup:=Ef (Ic ee hi2) (by rw [List.map_take];exact hw.2.2.1.sublist (List.take_sublist _ _))
   have hq4:valV ((es++[(e,q)]).map kR) (.inr e.1)=some (.ref q):=Cj (i:=es.length) nd4 (by rw [List.getElem?_map,List.getElem?_append_right (Nat.le_refl _),Nat.sub_self];rfl)
   refine⟨.ref ta,.inl ⟨_,.inr e.1,.inr ⟨o,f4⟩,rfl,hv.symm⟩,.inr (.inl ⟨⟨_,SqT.of (O4 _ _ nta hta)⟩,?_⟩)⟩
   refine B9 (Zq (e.2.map V.str)) (fun m σ H'=>(∃ v5 v6,σ=[some (.ref d),some (.ref l),some (.ref s),some (.int (i:Int)),some (.str e.1),v5,v6])/\Off d H H'/\H' d=some (.frz o (.dK (ds.map kR)))/\H' s=some (.dK ((es++[(e,q)]).map kR)) /\
     H' q=some (setO (Ai sw) i (e.2.take m)) /\ ∀ j x,es[j]? = some x->H' x.2=some (setO (Ai sw) j x.1.2))
    ⟨⟨_,_,rfl⟩,O4,f4,e4s,e4q,fun j x hx=>(he4 j x hx).2.1⟩ (fun m σ H' _ q=>SqT.of (q.2.1 _ _ nta hta)) ?_ ?_
   ·rintro m x σ H5 hx ⟨⟨v5,v6,rfl⟩,O5,f5,e5s,e5q,he5⟩
    obtain⟨z,hz,rfl⟩:=Am hx
    refine .inl ⟨⟨_,SqL.of (O5 _ _ nld ol)⟩,?_⟩
    refine ai5 et (O5 _ _ nld ol) (fun x hx=>O5 _ _ (fun e=>by have:=(htp x hx).2;rw [e,od] at this;cases this) (htp x hx).2) (fun r hr=>by rw [rlen r hr];exact hi') few fun D H6 S6 hD eD=>?_
    refine⟨D,_,rfl,SqL.of eD,(fun n hn=>?_),?_⟩
    ·have:=Mx i z (Ai sw) 0 n hn
     omega
    show By K (dBin (rIxD K) (dVar 2) (dVar 4)) (dVar 5) (.int (Dj (Ai sw) i z)) [some (.ref d),some (.ref l),some (.ref s),some (.int (i:Int)),some (.str e.1),some (.str z),some (.ref D)] H6 _
    refine⟨.ref q,.inl ⟨_,.inr e.1,.inl (S6 _ _ e5s),rfl,hq4.symm⟩,_,DPut.k (k:=.inr z) (S6 _ _ e5q) ?_,?_⟩
    ·rw [List.length_map,List.length_take]
     have:=hoke.2.2
     exact Nat.lt_of_le_of_lt (show min m e.2.length<=4 by omega) (by decide)
    rw [Vo hz hoke.1.2.1]
    refine⟨⟨_,_,rfl⟩,(O5.up S6).set fq,?_,?_,Ab,fun j x hx=>?_⟩
    ·rw [Af (Ne.symm nqd)];exact S6 _ _ f5
    ·rw [Af (Ne.symm nqs)];exact S6 _ _ e5s
    ·rw [Af (he4 j x hx).2.2.1];exact S6 _ _ (he5 j x hx)
   ·rintro σ H5 ⟨⟨v5,v6,rfl⟩,O5,f5,e5s,e5q,he5⟩
    rw [List.length_map,List.take_length] at e5q
    refine .inl ⟨⟨_,_,_,_,rfl⟩,O5,f5,es++[(e,q)],Ic ee hi2,e5s,fun j x hx=>?_⟩
    by_cases hj:j<es.length
    ·rw [List.getElem?_append_left hj] at hx
     exact⟨(he4 j x hx).1,he5 j x hx⟩
    ·have hj2:=Aj hx
     rw [List.length_append] at hj2
     have hj3:j=es.length:=by have:[(e,q)].length=1:=rfl;omega
     subst hj3
     rw [List.getElem?_append_right (Nat.le_refl _),Nat.sub_self] at hx
     have:(e,q)=x:=by simpa using hx
     subst this
     rw [les]
     exact⟨fq,e5q⟩
  ·rintro σ H1 ⟨⟨v3,v4,v5,v6,rfl⟩,O1,f1,es,ee,e1s,he⟩
   rw [len,List.take_length] at ee
   refine .inr ⟨d,o,_,od1,f1,?_⟩
   refine k _ s (O1.thaw od) ⟨es,ee,⟨hs,?_⟩,fun j x hx=>⟨(he j x hx).1,?_⟩⟩
   ·rw [Af (Ne.symm nds)];exact e1s
   ·rw [Af (fun z=>by have:=(he j x hx).1;rw [z,od] at this;cases this)];exact (he j x hx).2
theorem Gx (l:List Str):(l.map V.str).all Bx=true:=by rw [List.all_map,List.all_eq_true];exact fun _ _=>rfl
theorem Gf {sw:Sw} {i:Nat} {x:Str×List Str} (h:sw[i]? = some x) (nd:(sw.map (·.1)).Nodup):Cu sw x.1=i:=by
 have hi:=Aj h
 have ex:sw[i]=x:=by rw [List.getElem?_eq_getElem hi] at h;exact Option.some.inj h
 unfold Cu
 rw [List.findIdx_eq hi]
 refine⟨by rw [ex];simp,fun j hj=>?_⟩
 have hj2:j<sw.length:=by omega
 refine decide_eq_false fun e=>?_
 have:=(List.getElem_inj (i:=j) (j:=i) (h₀:=by rw [List.length_map];exact hj2) (h₁:=by rw [List.length_map];exact hi) nd).mp (by rw [List.getElem_map,List.getElem_map,e,ex])
 omega
theorem Pw {rows:List (List Str)} {i:Nat} {l:List Str} {z:Str} (nd:l.Nodup) (h:z∈l):valV (l.map fun z=>((.inr z:Key),V.int (Dj rows i z))) (.inr z)=some (.int (Dj rows i z)):=by
 obtain⟨j,hj,e⟩:=List.mem_iff_getElem.mp h
 refine Cj (i:=j) ?_ ?_
 ·rw [List.map_map];exact Lw nd
 ·rw [List.getElem?_map,List.getElem?_eq_getElem hj,e];rfl
theorem Fl {H:Hp} {E:XK} (Z:Au K t) {z:Str} {Q:VK} {σ:St} (k:BadC t H E):B8 K (dFn (fun vs H Q E=>vs.length<=1000/\mkX t.c_zar none 0 vs H Q E) (Aa (dC (.str z)) dNil)) (Of Q E) σ H:=
 Jx Z.ec fun a ha=>k _ a (fun b o e=>by rw [Af (Ae e ha),Af (Ae e ha)];exact e) Ab
theorem Wd {H H1:Hp} {E:XK} (S:Same H H1) (k:BadC t H E):BadC t H1 E:=fun H' e S' q=>k H' e (S.trans S') q
theorem Zi {rows:List (List Str)} {i:Nat} {l:List Str} {z:Str} (h:z∉l):valV (l.map fun z=>((.inr z:Key),V.int (Dj rows i z))) (.inr z)=none:=by
 refine B0 fun q=>h ?_
 rw [List.map_map] at q
 obtain⟨y,hy,e⟩:=List.mem_map.mp q
 cases e
 exact hy
theorem Pp {l:List Str} {x:List Str} (nd:l.Nodup) (h:∀ z∈l,z∈x):l.length<=x.length:=by
 induction l generalizing x with
 | nil=>exact Nat.zero_le _
 | cons a l ih=>
  obtain⟨na,nd⟩:=List.nodup_cons.mp nd
  have ha:=h a List.mem_cons_self
  have:=ih (x:=x.erase a) nd fun z hz=>(List.mem_erase_of_ne (fun e:z=a=>na (e▸hz))).mpr (h z (List.mem_cons_of_mem _ hz))
  rw [List.length_erase_of_mem ha] at this
  have:0<x.length:=List.length_pos_of_mem ha
  rw [List.length_cons]
  omega
mutual
theorem Wb {H H1:Hp} (hL:∀ a xs,SqL K H a xs->SqL K H1 a xs) (hT:∀ a xs,SqT K H a xs->SqT K H1 a xs):∀ {d:Dt} {x:V},At K H d x->At K H1 d x
 | .at_ v,x,h=>by unfold At at h ⊢;exact h
 | .lst l,x,h=>by unfold At at h ⊢;obtain⟨a,xs,e,q,h⟩:=h;exact⟨a,xs,e,hL _ _ q,Hw hL hT h⟩
 | .tup l,x,h=>by unfold At at h ⊢;obtain⟨a,xs,e,q,h⟩:=h;exact⟨a,xs,e,hT _ _ q,Hw hL hT h⟩
theorem Hw {H H1:Hp} (hL:∀ a xs,SqL K H a xs->SqL K H1 a xs) (hT:∀ a xs,SqT K H a xs->SqT K H1 a xs):∀ {ds:List Dt} {xs:List V},AtL K H ds xs->AtL K H1 ds xs
 | [],xs,h=>by unfold AtL at h ⊢;exact h
 | d::ds,xs,h=>by unfold AtL at h ⊢;obtain⟨y,ys,e,h1,h2⟩:=h;exact⟨y,ys,e,Wb hL hT h1,Hw hL hT h2⟩
end
def Sq2 (H H1:Hp):Prop:=∀ b o,H b=some o->(∃ xs,o=.lst xs\/o=.tup xs\/(∃ q,o=.frz q (.lst xs)) \/ ∃ q,o=.frz q (.tup xs))->H1 b=some o
theorem Sq2.sqL {H H1:Hp} (h:Sq2 H H1) (a:Addr) (xs:List V) (q:SqL K H a xs):SqL K H1 a xs:=by
 rcases q with (q|⟨o,q⟩)|q
 ·exact .inl (.inl (h _ _ q ⟨xs,.inl rfl⟩))
 ·exact .inl (.inr ⟨o,h _ _ q ⟨xs,.inr (.inr (.inl ⟨o,rfl⟩))⟩⟩)
 ·exact .inr q
theorem Sq2.sqT {H H1:Hp} (h:Sq2 H H1) (a:Addr) (xs:List V) (q:SqT K H a xs):SqT K H1 a xs:=by
 rcases q with (q|⟨o,q⟩)|q
 ·exact .inl (.inl (h _ _ q ⟨xs,.inr (.inl rfl)⟩))
 ·exact .inl (.inr ⟨o,h _ _ q ⟨xs,.inr (.inr (.inr ⟨o,rfl⟩))⟩⟩)
 ·exact .inr q
theorem Sq2.at {H H1:Hp} (h:Sq2 H H1) {d:Dt} {x:V} (a:At K H d x):At K H1 d x:=Wb h.sqL h.sqT a
theorem Sq2.atL {H H1:Hp} (h:Sq2 H H1) {ds:List Dt} {xs:List V} (a:AtL K H ds xs):AtL K H1 ds xs:=Hw h.sqL h.sqT a
theorem Ka {H H1:Hp} {r:Addr} {kvs:List (Key×V)} (hr:H r=some (.dK kvs)) (O:∀ b u,b≠r->H b=some u->H1 b=some u):Sq2 H H1:=fun b o e ⟨xs,h⟩=>O b o (fun z=>by
 rw [z,hr] at e
 cases e
 rcases h with h|h|⟨_,h⟩|⟨_,h⟩ <;> cases h) e
theorem ai0 {H H1:Hp} {r:Addr} {kvs:List (Key×V)} (hr:H r=some (.dK kvs)) (O:∀ b u,b≠r->H b=some u->H1 b=some u) {d:Dt} {x:V} (h:At K H d x):At K H1 d x:=(Ka hr O).at h
theorem EntV.off {H H1:Hp} {r:Addr} {kvs:List (Key×V)} {k:Key} {v:V} {o:Option (Str×List Str)} (hr:H r=some (.dK kvs)) (O:∀ b u,b≠r->H b=some u->H1 b=some u) (h:EntV K H k v o):EntV K H1 k v o:=by
 cases o with
 | some e=>
  obtain⟨a,b,p,c,d⟩:=h
  exact⟨a,b,p,c,(Ka hr O).sqL _ _ d⟩
 | none=>
  exact h.imp id fun⟨w,e,d,n,f⟩=>⟨w,e,d,ai0 hr O n,f⟩
theorem Mj {H:Hp} {r:Addr} {sw rule:Sw} (hrl:RuleAt any H r rule) (h1:rule.length<=100) (h2:(rule.map (·.1)).Nodup) (h3:∀ e∈rule,B1 sw e):∃ kvs,BoxV K H r kvs (rule.map some):=by
 obtain⟨ds,ed,⟨_,od⟩,hd⟩:=hrl
 have len:ds.length=rule.length:=by rw [<- ed];simp
 refine⟨_,od,by simp [len],by rw [List.length_map];omega,Ef ed h2,fun i k v o hi ho=>?_⟩
 obtain⟨⟨e,la⟩,hi2,eq⟩:=Am hi
 obtain⟨e',he',rfl⟩:=Am ho
 have:e'=e:=by
  rw [<- ed,List.getElem?_map,hi2] at he'
  exact (Option.some.inj he').symm
 subst this
 cases eq
 have hok:=h3 e' (List.mem_of_getElem? he')
 exact⟨rfl,⟨Nat.le_trans hok.2.1.2.2 (by decide),fun z hz=>Nat.le_trans (hok.2.1.1 z hz).2.1 (by decide)⟩,la,rfl,SqL.of (hd _ (List.mem_of_getElem? hi2)).2⟩
theorem au7 {H:Hp} {d:Addr} {p:Nat} {v:V} {kvs:List (Key×V)} (e:Rd H d (.dK kvs)) (h:valV kvs (.inl (p:Int))=some v):∃ xs,SqX K H d (p:Int) xs/\atI xs (p:Int)=some v:=by
 have a:atI (List.replicate (p+1) v) (p:Int)=some v:=Bs (by simp)
 refine⟨_,.dk fun u hu=>.inl ⟨kvs,.inl (p:Int),e,rfl,?_⟩,a⟩
 rw [a] at hu
 rw [h,<- hu]
theorem ax6 {f:Addr} {fd:FuncData} (Z:Au K t) (F:FunD K "term" "Panel.term" s_zr f fd .none) (T:Tab P w K mg base 3 (gb_3 K t) bl):FnOk P w K mg base (CXE P w) 4 f fd P_zr (Y3 K t):=by
 refine F.okWX a49 a92 T (a23 K t) (fun vs H Q E h=>?_) (fun vs H Q E h=>?_)
 ·obtain⟨p,l,s,kk,v,o,sw,rfl,_⟩:=h;rfl
 ·obtain⟨p,l,s,kk,v,o,sw,rfl,⟨dx,fs,⟨_,hp⟩,hl,hs,hm⟩,⟨ds,ed,⟨_,os⟩,hd⟩,hw,hE,k⟩:=h
  have cl:=Z.pf.cl
  have na:NoAttr K t.c_zas "sets" := Z.pf.na _ (by simp)
  have out:∀ wd,(¬ ∃ x∈sw,x.1=wd)->valV (ds.map kR) (.inr wd)=none:=fun wd hxx=>by
   refine B0 fun q=>hxx ?_
   rw [Ed,<- ed] at *
   obtain⟨y,hy,e⟩:=List.mem_map.mp q
   cases e
   obtain⟨z,hz,rfl⟩:=List.mem_map.mp hy
   exact⟨z,hz,rfl⟩
  cases o with
  | none=>
   have k:BadC t H E:=k.elim (fun⟨e,q,_⟩=>by cases q) fun q=>q.2
   rcases hE with ⟨i,rfl⟩|⟨wd,rfl,hn⟩
   ·exact⟨rfl,Fl (σ:=[some (.ref p),some (.int (i:Int)),some v]) (Q:=Q) Z k⟩
   ·refine⟨rfl,?_⟩
    refine Or.inl ⟨_,_,_,_,hp,cl,na,hs,?_⟩
    refine .inr ⟨_,.inl ⟨_,.inr wd,.inl os,rfl,rfl⟩,?_⟩
    cases hv:valV (ds.map kR) (.inr wd) with
    | none=>exact Fl (σ:=[some (.ref p),some (.str wd),some v]) (Q:=Q) Z k
    | some x=>
     obtain⟨d,hd',hwd,hfd⟩:=hn
     refine⟨v,d,rfl,hd',hfd,fun H1 S1=>?_⟩
     rw [hwd]
     exact Fl (σ:=[some (.ref p),some (.str wd),some v]) (Q:=Q) Z (Wd S1 k)
  | some e=>
  obtain⟨wd,ss⟩:=e
  obtain⟨rfl,⟨h29,hzs⟩,a,rfl,ha⟩:=hE
  have h29:ss.length<=29:=h29
  have ha:SqL K H a (ss.map V.str):=ha
  have bad:∀ {H':Hp},Same H H' -> ¬ B1 sw (wd,ss)->BadC t H' E:=fun S n=>k.elim (fun⟨e,q,r,_⟩=>by cases q;exact absurd r n) fun q=>Wd S q.2
  refine⟨rfl,?_⟩
  refine Or.inl ⟨_,_,_,_,hp,cl,na,hs,?_⟩
  by_cases hxx:∃ x∈sw,x.1=wd
  ·obtain⟨x,hx,rfl⟩:=hxx
   obtain⟨i,hi2⟩:=List.mem_iff_getElem?.mp hx
   have hids:i<ds.length:=by have:=Aj hi2;rw [<- ed,List.length_map] at this;exact this
   obtain⟨⟨x',q⟩,hi⟩:∃ z,ds[i]? = some z:=⟨_,List.getElem?_eq_getElem hids⟩
   have:x'=x:=by
    rw [<- ed,List.getElem?_map,hi] at hi2
    exact Option.some.inj hi2
   subst this
   have oq:=(hd i _ hi).2
   have hok:=hw.sets x' hx
   have hv:valV (ds.map kR) (.inr x'.1)=some (.ref q):=Cj (Ef ed hw.2.2.1) (by rw [List.getElem?_map,hi];rfl)
   have pl:=Gf hi2 hw.2.2.1
   have uniq:∀ y∈sw,y.1=x'.1->y=x':=fun y hy e=>by
    obtain⟨j,hj⟩:=List.mem_iff_getElem?.mp hy
    have:=Gf hj hw.2.2.1
    rw [e,pl] at this
    subst this
    rw [hi2] at hj
    exact (Option.some.inj hj).symm
   have gq:∀ {H'},Same H H'->DGet H' s (.str x'.1) (some (.ref q)):=fun S=>.inl ⟨_,.inr x'.1,.inl (S _ _ os),rfl,hv.symm⟩
   refine .inr ⟨_,gq (Same.refl _),?_⟩
   refine⟨.ref a,.lst (ss.map strD),rfl,C2 ha,⟨by rw [List.length_map];exact h29,fun d hd'=>by obtain⟨z,hz,rfl⟩:=List.mem_map.mp hd';exact hzs z hz⟩,fun H1 S1=>?_⟩
   have ew:Fu (.lst (ss.map strD))=(ss.all As&&decide ss.Nodup):=by show (match Az (ss.map strD) with|some l=>l.all As&&decide l.Nodup|none=>false)=_;rw [D2]
   rw [ew]
   cases hb:(ss.all As&&decide ss.Nodup) with
   | false=>
    refine Fl (σ:=[some (.ref p),some (.str x'.1),some (.ref a)]) (Q:=Q) Z (bad S1 fun⟨_,o,_⟩=>?_)
    rw [List.all_eq_true.mpr fun z hz=>wordB_iff.mpr (o.1 z hz),decide_eq_true o.2.1] at hb
    cases hb
   | true=>
    rw [Bool.and_eq_true,List.all_eq_true,decide_eq_true_iff] at hb
    obtain⟨hb1,hb2⟩:=hb
    refine⟨by decide,fun e he=>.inl ⟨a,e,_,_,rfl,rfl,(S1.trans (Same.upd he)).seqL ha,SqL.of Ab,Gx ss,rfl,?_⟩⟩
    by_cases ne:ss=[]
    ·subst ne
     exact Fl (σ:=[some (.ref p),some (.str x'.1),some (.ref a)]) (Q:=Q) Z (bad (S1.trans (Same.upd he)) fun o=>o.1 rfl)
    refine Dh (Gb (by rw [List.length_map];intro z;exact ne (List.length_eq_zero_iff.mp z))) ?_
    have S2:=S1.trans (Same.upd (o:=.lst []) he)
    generalize upd H1 e (.lst [])=H2 at S2 ⊢
    refine .inl ⟨⟨_,S2.seqL ha⟩,?_⟩
    refine Ku (K:=K) (σ:=[none,some (.ref p),some (.str x'.1)]) (strB fun z=>decide (z∈x'.2)) (Bl (ss.map V.str)) (fun σ=>∃ v,σ=[v,some (.ref p),some (.str x'.1)]) (fun H3 S3=>(S2.trans S3).seqL ha) ?_ ⟨_,rfl⟩ (fun σ x ⟨v,e⟩=>⟨some x,by rw [e];rfl⟩) ?_ fun D3 H3 S3 q3=>⟨_,q3,?_⟩
    ·rw [List.length_map];exact Nat.lt_of_le_of_lt h29 (by decide)
    ·rintro y σ H3 Q1 hy ⟨v,rfl⟩ S3 q1
     obtain⟨z,hz,rfl⟩:=List.mem_map.mp hy
     have S:=S2.trans S3
     refine Or.inl ⟨_,_,_,_,(S _ _ hp),cl,na,hs,⟨.ref q,gq S,.inr ⟨_,.inl ⟨_,.inr z,.inl (S _ _ oq),rfl,rfl⟩,?_⟩⟩⟩
     have q1:∀ H2,Same H3 H2->Q1 (.bl (decide (z∈x'.2))) H2:=q1
     by_cases hzx:z∈x'.2
     ·rw [decide_eq_true hzx] at q1
      rw [Pw hok.1.2.1 hzx]
      exact q1 H3 (Same.refl _)
     ·rw [decide_eq_false hzx] at q1
      rw [Zi hzx]
      exact q1 H3 (Same.refl _)
    ·rw [Za]
     have S:=S2.trans S3
     cases hc:ss.all fun z=>decide (z∈x'.2) with
     | false=>
      refine Fl (σ:=[some (.ref p),some (.str x'.1),some (.ref a)]) (Q:=Q) Z (bad S fun⟨_,_,y,hy,ey,hin⟩=>?_)
      have:=uniq y hy ey
      subst this
      rw [List.all_eq_true.mpr fun z hz=>decide_eq_true (hin z hz)] at hc
      cases hc
     | true=>
      have hin:∀ z∈ss,z∈x'.2:=fun z hz=>of_decide_eq_true (List.all_eq_true.mp hc z hz)
      have hL:okL ss:=⟨fun z hz=>hok.1.1 z (hin z hz),hb2,Nat.le_trans (Pp hb2 hin) (Nat.le_trans hok.2.2 (by decide))⟩
      have k:∀ H',Same H H'->Q (.int (Dm sw (x'.1,ss))) H':=k.elim (fun⟨e,q,_,r⟩=>by cases q;exact r) fun q=>absurd ⟨ne,hL,x',hx,rfl,hin⟩ (q.1 _ rfl)
      refine .inl ⟨⟨_,S.seqL ha⟩,fun D hD=>?_⟩
      refine Mo (Bl (ss.map V.str)) (fun σ=>∃ v,σ=[v,some (.ref p),some (.str x'.1)]) (fun _=>true) (fun v=>match v with | .str z=>.int (Dj (Ai sw) i z)|_=>.non) hD (fun H4 S4=>(S.trans S4).seqL ha) ?_ ⟨_,rfl⟩ ?_ ?_
      ·rw [List.length_map];exact Nat.lt_of_le_of_lt h29 (by decide)
      ·rintro y σ H4 hy ⟨v,rfl⟩ S4 Fin Skip hF hK
       obtain⟨z,hz,rfl⟩:=List.mem_map.mp hy
       have S5:=S.trans S4
       refine (Or.inl ⟨_,_,_,_,(S5 _ _ hp),cl,na,hs,⟨.ref q,gq S5,.int (Dj (Ai sw) i z),.inl ⟨_,.inr z,.inl (S5 _ _ oq),rfl,?_⟩,?_⟩⟩)
       ·rw [Pw hok.1.2.1 (hin z hz)]
       ·exact hF _ _ _ ⟨_,rfl⟩ (Same.refl _) rfl rfl
      ·intro H4 S4 eD
       refine⟨D,ss.map (Dj (Ai sw) i),rfl,SqL.of (eD.trans ?_),?_⟩
       ·rw [List.filter_eq_self.mpr (fun _ _=>rfl),List.map_map,List.map_map];rfl
       ·have:=k H4 (S.trans S4)
        unfold Dm at this
        rw [pl] at this
        exact this
  ·have hv:=out wd hxx
   refine .inr ⟨_,.inl ⟨_,.inr wd,.inl os,rfl,rfl⟩,?_⟩
   rw [hv]
   exact Fl (σ:=[some (.ref p),some (.str wd),some (.ref a)]) (Q:=Q) Z (bad (Same.refl _) fun⟨_,_,y,hy,ey,_⟩=>hxx ⟨y,hy,ey⟩)
theorem ay0 {f:Addr} {fd:FuncData} (Z:Au K t) (F:FunD K "box" "Panel.box" s_zv f fd .none) (T:Tab P w K mg base 4 (gb_4 K t) bl):FnOk P w K mg base (CXE P w) 5 f fd P_zv (ah5 K t):=by
 refine F.okWX a53 a96 T (a27 K t) (fun vs H Q E h=>?_) (fun vs H Q E h=>?_)
 ·obtain⟨p,l,s,r,kvs,os,sw,rfl,_⟩:=h;rfl
 ·obtain⟨p,l,s,r,kvs,os,sw,rfl,hw,hs,ht,hse,B,k⟩:=h
  obtain⟨dx,fs,⟨np,hp⟩,_,_,hm⟩:=id hs
  have od:=B.at_
  refine⟨_,true,.of (.dK od),rfl,⟨p,dx,fs,⟨t.c_zas,i_zd K t⟩,rfl,.head _,hp,hm _ (by decide),⟨Nat.le_of_ble_eq_true rfl,Nat.le_of_ble_eq_true rfl⟩,p,l,s,sw,rfl,hs.mono Kp.any,ht.mono Kp.any,hw.len,?_⟩⟩
  refine .inr (.inr (.inl ⟨_,od,fun o=>?_⟩))
  have kf:Kp (· ≠ r) H (· ≠ r) (upd H r (.frz o (.dK kvs))):=Kp.off (fun e=>e rfl)
  have kf2:∀ b u,b≠r->H b=some u->upd H r (.frz o (.dK kvs)) b=some u:=fun b u n e=>by rw [Af n];exact e
  have ef:upd H r (.frz o (.dK kvs)) r=some (.frz o (.dK kvs)):=Ab
  show ForW (Itd r o kvs) _ _ _ [some (.ref p),some (.ref r),some (.int (allM sw)),none] _
  generalize hHf:upd H r (.frz o (.dK kvs))=Hf at kf kf2 ef ⊢
  refine B9 (Nk kvs) (fun i σ H'=>∃ pre:Sw,(∃ v3,σ=[some (.ref p),some (.ref r),some (.int (pre.foldl (fun c e=>Builtin.bitAnd c (Dm sw e)) (allM sw))),v3])/\Same Hf H'/\os.take i=pre.map some /\ ∀ e∈pre,B1 sw e) ⟨[],⟨_,rfl⟩,Same.refl _,rfl,fun e he=>by cases he⟩ (fun i σ H' _ q=>by obtain⟨_,_,S,_⟩:=q;exact S _ _ ef) ?_ ?_
  ·rintro i x σ H1 hx ⟨pre,⟨v3,rfl⟩,S1,ep,okp⟩
   obtain⟨⟨kk,v⟩,hi,rfl⟩:=Am hx
   have hio:i<os.length:=by rw [<- B.len];exact Aj hi
   obtain⟨oo,ho⟩:∃ oo,os[i]? = some oo:=⟨_,List.getElem?_eq_getElem hio⟩
   have hv:valV kvs kk=some v:=Cj B.nd hi
   have kn:Kp (· ≠ r) H any H1:=(kf.trans (Kp.same S1)).trans Kp.any
   have O1:∀ b u,b≠r->H b=some u->H1 b=some u:=fun b u n e=>S1 _ _ (kf2 b u n e)
   have hE:=(B.ent i kk v oo hi ho).off od O1
   have rd:Rd H1 r (.dK kvs):=.inr ⟨o,S1 _ _ ef⟩
   have body:∀ (D:Outs),(∀ z H2,Same H1 H2->(∃ e,oo=some e/\B1 sw e/\z=Dm sw e)->D.nx [some (.ref p),some (.ref r),some (.int (Builtin.bitAnd (pre.foldl (fun c e=>Builtin.bitAnd c (Dm sw e)) (allM sw)) z)),some (kV kk)] H2)->((∀ e,oo=some e -> ¬ B1 sw e) -> ∀ H2 b,Same H1 H2->H2 b=some (flO b t.c_zar none)->D.ex [some (.ref p),some (.ref r),some (.int (pre.foldl (fun c e=>Builtin.bitAnd c (Dm sw e)) (allM sw))),some (kV kk)] b H2) ->
     (dSeq (dSet 2 (dBin Jw (dVar 2) (dOwn "term" 2 (Ij K t) (dVar 0) (Aa (dVar 3) (Aa (dBin (rIxD K) (dVar 1) (dVar 3)) dNil))))) Ad) D [some (.ref p),some (.ref r),some (.int (pre.foldl (fun c e=>Builtin.bitAnd c (Dm sw e)) (allM sw))),some (kV kk)] H1:=by
    intro D hN hX
    have fin:Y3 K t [.ref p,kV kk,v] H1 (fun u H2=>Jw (.int (pre.foldl (fun c e=>Builtin.bitAnd c (Dm sw e)) (allM sw))) u H2 fun x H3=>D.nx [some (.ref p),some (.ref r),some x,some (kV kk)] H3) (fun u _ H2=>∃ b,u=.ref b/\D.ex [some (.ref p),some (.ref r),some (.int (pre.foldl (fun c e=>Builtin.bitAnd c (Dm sw e)) (allM sw))),some (kV kk)] b H2):=by
     refine⟨p,l,s,kk,v,oo,sw,rfl,hs.mono kn,hse.mono kn,hw,hE,?_⟩
     by_cases hok:∃ e,oo=some e/\B1 sw e
     ·obtain⟨e,he,hok⟩:=hok
      exact .inl ⟨e,he,hok,fun H2 S2=>hN _ _ S2 ⟨e,he,hok,rfl⟩⟩
     ·exact .inr ⟨fun e he hh=>hok ⟨e,he,hh⟩,fun H2 b S2 q=>⟨b,rfl,hX (fun e he hh=>hok ⟨e,he,hh⟩) H2 b S2 q⟩⟩
    cases kk with
    | inr wd=>exact⟨p,dx,fs,⟨t.c_zas,i_zr K t⟩,rfl,.head _,(kn _ _ ⟨np,hp⟩).2,hm _ (by decide),⟨Nat.le_of_ble_eq_true rfl,Nat.le_of_ble_eq_true rfl⟩,v,.inl ⟨_,.inr wd,rd,rfl,hv.symm⟩,fin⟩
    | inl j=>
     obtain⟨j,rfl⟩:∃ n:Nat,j=(n:Int):=by
      cases oo with
      | some e=>obtain⟨q,_⟩:=hE;cases q
      | none=>
       rcases hE with ⟨n,e⟩|⟨_,e,_⟩
       ·exact⟨n,Sum.inl.inj e⟩
       ·cases e
     obtain⟨xs,sx,ax⟩:=au7 (K:=K) rd hv
     exact⟨p,dx,fs,⟨t.c_zas,i_zr K t⟩,rfl,.head _,(kn _ _ ⟨np,hp⟩).2,hm _ (by decide),⟨Nat.le_of_ble_eq_true rfl,Nat.le_of_ble_eq_true rfl⟩,xs,v,sx,ax,fin⟩
   refine body _ (fun z H2 S2 ⟨e,he,hok,ez⟩=>?_) (fun no H2 b S2 q=>?_)
   ·subst ez
    refine⟨pre++[e],⟨_,by rw [List.foldl_append];rfl⟩,S1.trans S2,?_,fun e' he'=>?_⟩
    ·rw [List.take_add_one,ho,ep,he,List.map_append];rfl
    ·rcases List.mem_append.mp he' with h|h
     ·exact okp e' h
     ·have:e'=e:=by simpa using h
      rw [this];exact hok
   ·rcases k with ⟨rule,er,okr,_⟩|⟨_,k⟩
    ·rw [er] at ho
     obtain⟨e,he,rfl⟩:=Am ho
     exact absurd (okr e (List.mem_of_getElem? he)) (no e rfl)
    ·exact k H2 b (fun c u n e=>S2 _ _ (O1 c u n e)) (.inr ⟨o,S2 _ _ (S1 _ _ ef)⟩) q
  ·rintro σ H1 ⟨pre,⟨v3,rfl⟩,S1,ep,okp⟩
   rw [List.length_map,B.len,List.take_length] at ep
   rcases k with ⟨rule,er,_,k⟩|⟨⟨oo,ho,no⟩,_⟩
   ·have:rule=pre:=by
     rw [er] at ep
     exact (List.map_inj_right (fun a b h=>Option.some.inj h)).mp ep
    subst this
    exact .inr ⟨r,o,_,od,S1 _ _ ef,k _ (Same.thaw od (hHf▸S1))⟩
   ·rw [ep] at ho
    obtain⟨e,he,rfl⟩:=List.mem_map.mp ho
    exact absurd (okp e he) (no e rfl)
theorem Pi {bad:Addr->Prop} {H H':Hp} (S:Same H H'):OffB bad H H':=⟨fun b o _ e=>S b o e,fun b o e=>.inl (S b o e)⟩
theorem aw7 {f:Addr} {fd:FuncData} (Z:Au K t) (F:FunD K "read_rule" "Panel.read_rule" s_zi f fd .none) (T:Tab P w K mg base 5 (gb_5 K t) bl):FnOk P w K mg base (CXE P w) 6 f fd P_zi (ah1 K t):=by
 refine F.okWX a40 a83 T (a14 K t) (fun vs H Q E h=>?_) (fun vs H Q E h=>?_)
 ·obtain⟨p,l,s,ok,x,sw,rfl,_⟩:=h;rfl
 ·obtain⟨p,l,s,ok,x,sw,rfl,hs,ht,hse,hw,h⟩:=h
  obtain⟨dx,fs,⟨op,hp⟩,_,_,hm⟩:=id hs
  rcases h with ⟨rule,⟨r,rfl,hrl,hr⟩,k⟩|⟨hb,k⟩
  ·obtain⟨ds,ed,⟨nr,od⟩,hd⟩:=id hrl
   have kw:Kp ok H (· ≠ r) H:=Kp.weak fun a h e=>nr (e▸h)
   have len:ds.length=rule.length:=by rw [<- ed];simp
   have pos:0<rule.length:=List.length_pos_iff.mpr hr.1
   refine⟨_,true,.of (.dK od),rfl,(.inr ⟨_,.inl od,Dh ?_ ?_⟩)⟩
   ·refine decide_eq_false fun e=>?_
    rw [List.length_map] at e
    omega
   have hrl':RuleAt any H r rule:=hrl.mono Kp.any
   refine⟨p,dx,fs,⟨t.c_zas,i_zv K t⟩,rfl,.head _,hp,hm _ (by decide),⟨Nat.le_of_ble_eq_true rfl,Nat.le_of_ble_eq_true rfl⟩,p,l,s,r,(Mj hrl' hr.2.1 hr.2.2.1 hr.2.2.2).choose,_,sw,rfl,hw,hs.mono kw,ht.mono kw,hse.mono kw,(Mj hrl' hr.2.1 hr.2.2.1 hr.2.2.2).choose_spec,.inl ⟨rule,rfl,hr.2.2.2,fun H1 S1=>?_⟩⟩
   exact⟨r,rule,rfl,hrl'.mono (Kp.same S1),hr.2.2.1,hr.2.1,fun H2 c S2 R2=>k H2 c (S1.trans S2) (R2.mono (Kp.fresh S1))⟩
  ·have kx:BadX t.c_zap H E:=fun H' e S q=>k H' e (Pi S) q
   rcases hb with ⟨d,ha⟩|⟨r,kvs,os,rfl,nr,B,hb⟩
   ·cases d with
    | at_ v=>
     unfold At at ha
     obtain⟨e,f⟩:=ha
     subst e
     cases x with
     | str z=>exact⟨rfl,Aw (σ:=[some (.ref p),some (.str z)]) (Q:=Q) Z kx⟩
     | int i=>exact⟨rfl,Aw (σ:=[some (.ref p),some (.int i)]) (Q:=Q) Z kx⟩
     | bl i=>exact⟨rfl,Aw (σ:=[some (.ref p),some (.bl i)]) (Q:=Q) Z kx⟩
     | non=>exact⟨rfl,Aw (σ:=[some (.ref p),some .non]) (Q:=Q) Z kx⟩
     | _=>cases f
    | lst _=>
     unfold At at ha
     obtain⟨a,xs,rfl,q,_⟩:=ha
     exact⟨_,false,.sqL rfl q rfl,rfl,Aw (σ:=[some (.ref p),some (.ref a)]) (Q:=Q) Z kx⟩
    | tup _=>
     unfold At at ha
     obtain⟨a,xs,rfl,q,_⟩:=ha
     exact⟨_,false,.sqT rfl q rfl,rfl,Aw (σ:=[some (.ref p),some (.ref a)]) (Q:=Q) Z kx⟩
   ·have kw:Kp ok H (· ≠ r) H:=Kp.weak fun a h e=>nr (e▸h)
    have od:=B.at_
    refine⟨_,true,.of (.dK od),rfl,.inr ⟨_,.inl od,?_⟩⟩
    by_cases e0:kvs=[]
    ·subst e0
     exact Aw (σ:=[some (.ref p),some (.ref r)]) (Q:=Q) Z kx
    refine Dh (decide_eq_false fun e=>e0 (List.length_eq_zero_iff.mp (by omega))) ?_
    have hb:=hb.resolve_left e0
    refine⟨p,dx,fs,⟨t.c_zas,i_zv K t⟩,rfl,.head _,hp,hm _ (by decide),⟨Nat.le_of_ble_eq_true rfl,Nat.le_of_ble_eq_true rfl⟩,p,l,s,r,kvs,os,sw,rfl,hw,hs.mono kw,ht.mono kw,hse.mono kw,B,.inr ⟨hb,fun H1 e O1 R1 fl=>?_⟩⟩
    refine⟨e,rfl,t.c_zar,none,.inl fl,Z.ec,true,Z.mc,⟨_,_,fl⟩,fun b hb0=>?_⟩
    have ne:∀ {c u},H1 c=some u->c≠b:=fun {c u} q z=>by rw [z,hb0] at q;cases q
    refine k _ b ⟨fun c o nc q=>?_,fun c o q=>?_⟩ (.inr Ab)
    ·have q1:=O1 c o (fun z=>nc (by rw [z])) q
     rw [Af (ne q1)];exact q1
    ·by_cases z:c=r
     ·subst z
      rw [od] at q
      cases q
      rcases R1 with R1|⟨o',R1⟩
      ·exact .inl (by rw [Af (ne R1)];exact R1)
      ·exact .inr ⟨kvs,o',rfl,by rw [Af (ne R1)];exact R1⟩
     ·have q1:=O1 c o z q
      exact .inl (by rw [Af (ne q1)];exact q1)
theorem EntV.up {H H1:Hp} {k:Key} {v:V} {o:Option (Str×List Str)} (S:Same H H1) (h:EntV K H k v o):EntV K H1 k v o:=by
 cases o with
 | some e=>obtain⟨a,b,p,c,d⟩:=h;exact⟨a,b,p,c,S.seqL d⟩
 | none=>exact h.imp id fun⟨w,e,d,n,f⟩=>⟨w,e,d,Bi S n,f⟩
theorem BoxV.up {H H1:Hp} {r:Addr} {kvs:List (Key×V)} {os:List (Option (Str×List Str))} (S:Same H H1) (B:BoxV K H r kvs os):BoxV K H1 r kvs os:=⟨S _ _ B.at_,B.len,B.few,B.nd,fun i k v o h1 h2=>(B.ent i k v o h1 h2).up S⟩
theorem BadE.up {ok:Addr->Prop} {H H1:Hp} {sw:Sw} {x:V} (S:Same H H1) (h:BadE ok K H sw x):BadE ok K H1 sw x:=
 h.imp (fun⟨d,a⟩=>⟨d,Bi S a⟩) fun⟨r,kvs,os,e,o,B,q⟩=>⟨r,kvs,os,e,o,B.up S,q⟩
theorem GoodE.up {ok:Addr->Prop} {H H1:Hp} {sw rule:Sw} {x:V} (S:Same H H1) (h:GoodE ok H sw x rule):GoodE ok H1 sw x rule:=by
 obtain⟨r,e,R,o⟩:=h
 exact⟨r,e,R.mono (Kp.same S),o⟩
theorem OffB.from {bad bad':Addr->Prop} {H H1 H2:Hp} (S:Same H H1) (h:OffB bad H1 H2) (w:∀ b,bad b->bad' b):OffB bad' H H2:=⟨fun b o n e=>h.1 b o (fun z=>n (w b z)) (S _ _ e),fun b o e=>h.2 b o (S _ _ e)⟩
theorem aw3 {f:Addr} {fd:FuncData} (Z:Au K t) (F:FunD K "read_rules" "Panel.read_rules" s_ze f fd .none) (T:Tab P w K mg base 6 (gb_6 K t) bl):FnOk P w K mg base (CXE P w) 7 f fd P_ze (ah0 K t):=by
 refine F.okWX a36 a79 T (a10 K t) (fun vs H Q E h=>?_) (fun vs H Q E h=>?_)
 ·obtain⟨p,l,s,ok,bad,v,sw,out,rfl,_⟩:=h;rfl
 ·obtain⟨p,l,s,ok,bad,v,sw,out,rfl,hs,ht,hse,hw,hc,ks,kn⟩:=h
  obtain⟨dx,fs,⟨op,hp⟩,_,_,hm⟩:=id hs
  have kx:out=none->BadX t.c_zap H E:=fun z H' e S q=>kn z H' e (Pi S) q
  have main:∀ (a:Addr) (xs:List V) (pre:List Sw),v=.ref a->SqL K H a xs->xs.length<=8->pre.length<=xs.length->(∀ (i:Nat) y r,xs[i]? = some y->pre[i]? = some r->GoodE (fun a=>¬ ok a) H sw y r) ->
    (pre.length=xs.length->out=some pre)->(∀ x,xs[pre.length]? = some x->out=none/\BadE (fun a=>¬ ok a) K H sw x /\ ∀ r,x=.ref r->bad r)->t_ze K t (Of Q E) [some (.ref p),some v] H:=by
   intro a xs pre ev ql h8 hle hg hA hB
   subst ev
   refine⟨_,true,.sqL rfl ql rfl,rfl,(.inl ⟨_,.inl ql,Dh ?_ ?_⟩)⟩
   ·refine decide_eq_false fun e=>?_
    omega
   refine .inl ⟨⟨_,ql⟩,fun D hD=>?_⟩
   refine C7 (Bl xs) (fun m σ H'=>(∃ v,σ=[v,some (.ref p)])/\m<=pre.length/\Same H H' /\ ∃ gs:List (Sw×Addr),gs.map (·.1)=pre.take m/\H' D=some (.lst (gs.map fun x=>.ref x.2)) /\ ∀ x∈gs,RuleAt (fun a=>H a=none/\a≠D) H' x.2 x.1)
    ⟨⟨_,rfl⟩,Nat.zero_le _,Same.upd hD,[],rfl,Ab,fun x hx=>by cases hx⟩ (fun m σ H' _ q=>q.2.2.1.seqL ql) ?_ ?_
   ·rintro m x σ H1 hx ⟨⟨v,rfl⟩,ml,S1,gs,eg,eD,hgs⟩
    refine⟨p,dx,fs,⟨t.c_zas,i_zi K t⟩,rfl,.head _,S1 _ _ hp,hm _ (by decide),⟨Nat.le_of_ble_eq_true rfl,Nat.le_of_ble_eq_true rfl⟩,p,l,s,ok,x,sw,rfl,hs.mono (Kp.same S1),ht.mono (Kp.same S1),hse.mono (Kp.same S1),hw,?_⟩
    by_cases hmp:m<pre.length
    ·obtain⟨rule,hm3⟩:∃ rule,pre[m]? = some rule:=⟨_,List.getElem?_eq_getElem hmp⟩
     refine .inl ⟨rule,(hg m x rule hx hm3).up S1,fun H2 c S2 R2=>?_⟩
     have eD2:=S2 _ _ eD
     refine⟨_,eD2,?_,⟨_,rfl⟩,hmp,(S1.trans S2).set hD,gs++[(rule,c)],Ic eg hm3,?_,?_⟩
     ·rw [List.length_map]
      have:=Wt eg
      exact Nat.lt_of_le_of_lt (show gs.length<=8 by omega) (by decide)
     ·rw [Ab,List.map_append];rfl
     ·have ko:Kp (fun a=>H a=none/\a≠D) H2 (fun a=>H a=none/\a≠D) (upd H2 D (.lst ((gs.map fun x=>V.ref x.2)++[.ref c]))):=Kp.off (fun e=>e.2 rfl)
      intro x hx
      rcases List.mem_append.mp hx with hx|hx
      ·exact (hgs x hx).mono ((Kp.same S2).trans ko)
      ·have:x=(rule,c):=by simpa using hx
       subst this
       exact R2.mono ((Kp.weak fun a h=>⟨S1.free h,(Ae eD h).symm⟩).trans ko)
    ·have:m=pre.length:=by omega
     subst this
     obtain⟨eo,hb,hr⟩:=hB x hx
     exact .inr ⟨hb.up S1,fun H' e O F=>⟨e,rfl,kn eo H' e (O.from S1 fun b z=>hr b z) F⟩⟩
   ·rintro σ H1 ⟨_,ml,S1,gs,eg,eD,hgs⟩
    have el:pre.length=xs.length:=by omega
    rw [<- el,List.take_length] at eg
    exact ks pre (hA el) H1 D S1 ⟨gs,eg,⟨hD,eD⟩,fun x hx=>(hgs x hx).mono (Kp.weak fun a h=>h.1)⟩
  cases hc with
  | good hv hr h8=>
   rcases hv with ⟨rfl,rfl⟩|⟨kk,rfl,ds,ed,⟨nk,ok1⟩,hd⟩
   ·refine⟨by decide,fun q hq=>ks _ rfl _ q (Same.upd hq) ⟨[],rfl,⟨hq,Ab⟩,fun x hx=>by cases hx⟩⟩
   ·rename_i rules
    have len:(ds.map fun x=>V.ref x.2).length=rules.length:=by rw [<- ed];simp
    refine main kk _ rules rfl (SqL.of ok1) (by omega) (by omega) (fun i y r hy hr'=>?_) (fun _=>rfl) fun x hx=>?_
    ·obtain⟨⟨rule,b⟩,hi,rfl⟩:=Am hy
     rw [<- ed,List.getElem?_map,hi] at hr'
     cases hr'
     exact⟨b,rfl,hd _ (List.mem_of_getElem? hi),hr rule (by rw [<- ed];exact List.mem_map.mpr ⟨_,List.mem_of_getElem? hi,rfl⟩)⟩
    ·have:=Aj hx
     omega
  | tree ha hn hl=>
   rename_i d
   have kx:=kx rfl
   cases d with
   | at_ x=>
    unfold At at ha
    obtain⟨e,f⟩:=ha
    subst e
    cases v with
    | str z=>exact⟨rfl,Aw (σ:=[some (.ref p),some (.str z)]) (Q:=Q) Z kx⟩
    | int i=>exact⟨rfl,Aw (σ:=[some (.ref p),some (.int i)]) (Q:=Q) Z kx⟩
    | bl i=>exact⟨rfl,Aw (σ:=[some (.ref p),some (.bl i)]) (Q:=Q) Z kx⟩
    | non=>exact absurd rfl hn
    | _=>cases f
   | lst l'=>exact absurd rfl (hl l')
   | tup _=>
    unfold At at ha
    obtain⟨a,xs,rfl,q,_⟩:=ha
    exact⟨_,false,.sqT rfl q rfl,rfl,Aw (σ:=[some (.ref p),some (.ref a)]) (Q:=Q) Z kx⟩
  | dict e h=>
   rename_i r kvs
   subst e
   exact⟨_,false,.of (.dK h),rfl,Aw (σ:=[some (.ref p),some (.ref r)]) (Q:=Q) Z (kx rfl)⟩
  | many e h hl=>
   rename_i a xs
   subst e
   refine⟨_,true,.sqL rfl h rfl,rfl,(.inl ⟨_,.inl h,Di ?_ ?_⟩)⟩
   ·exact decide_eq_true (by omega)
   ·exact Aw (σ:=[some (.ref p),some (.ref a)]) (Q:=Q) Z (kx rfl)
  | elt e h hl hx hp' hb hr=>
   rename_i a xs pre x
   refine main a xs pre e h hl (Nat.le_of_lt (Aj hx)) hp' (fun el=>?_) fun y hy=>?_
   ·have:=Aj hx
    omega
   ·rw [hx] at hy
    cases hy
    exact⟨rfl,hb,hr⟩
theorem Fm {f:Str} {p C dx:Addr} {fs fs':List (Str×V)} {y:V} {H:Hp} {N:Hp->Prop} (hp:H p=some (.ins C dx fs)) (c:Cls K C) (n:NoAttr K C f) (l:fs.length<1000) (e:putF f y fs=fs') (k:∀ H',(∀ b,b≠p->H' b=H b)->H' p=some (.ins C dx fs')->N H'):Yi K f (.ref p) y H N:=
 .inl ⟨C,dx,fs,hp,c,n,l,k _ (fun b hb=>Af hb) (by rw [Ab,e])⟩
theorem Kp.but {ok:Addr->Prop} {p:Addr} {H H':Hp} (h:∀ b,b≠p->H' b=H b) (n:¬ ok p):Kp ok H ok H':=fun a o q=>⟨q.1,by rw [h a (fun e=>n (e▸q.1))];exact q.2⟩
theorem Off.but {p:Addr} {H H1 H2:Hp} (h:Off p H H1) (e:∀ b,b≠p->H2 b=H1 b):Off p H H2:=fun b u n q=>by rw [e b n];exact h b u n q
theorem Off.fr {p:Addr} {u:HO} {H H1:Hp} (h:Off p H H1) (e:H1 p=some u):∀ b,H1 b=none->H b=none:=fun b q=>h.free (fun z=>by rw [z,e] at q;cases q) q
structure Pc (ok:Addr->Prop) (H:Hp) (d l n s:Addr) (sw:Sw):Prop where
 sws:SwAt ok H d sw
 tps:TupsAt ok H l (Ai sw)
 nms:NumAt ok H n (Ai sw)
 sts:SetsAt ok H s sw
theorem Pc.mono {ok ok':Addr->Prop} {H H':Hp} {d l n s:Addr} {sw:Sw} (h:Pc ok H d l n s sw) (k:Kp ok H ok' H'):Pc ok' H' d l n s sw:=⟨h.sws.mono k,h.tps.mono k,h.nms.mono k,h.sts.mono k⟩
abbrev fl1 (d:Addr):List (Str×V):=[("settings", .ref d)]
abbrev fl2 (d l:Addr):List (Str×V):=[("settings", .ref d),("tuples", .ref l)]
abbrev fl3 (d l n:Addr):List (Str×V):=[("settings", .ref d),("tuples", .ref l),("numbers", .ref n)]
abbrev fl4 (d l n s:Addr):List (Str×V):=[("settings", .ref d),("tuples", .ref l),("numbers", .ref n),("sets", .ref s)]
abbrev fl5 (d l n s k:Addr):List (Str×V):=[("settings", .ref d),("tuples", .ref l),("numbers", .ref n),("sets", .ref s),("kept_rules", .ref k)]
abbrev fl6 (d l n s k b:Addr):List (Str×V):=[("settings", .ref d),("tuples", .ref l),("numbers", .ref n),("sets", .ref s),("kept_rules", .ref k),("bars", .ref b)]
theorem M2 {fs:List (Str×V)} (h:fs.lookup ("all_choices" : Str)=none/\fs.lookup ("box" : Str)=none/\fs.lookup ("many" : Str)=none/\fs.lookup ("term" : Str)=none/\fs.lookup ("read_rule" : Str)=none/\fs.lookup ("read_rules" : Str)=none):∀ m∈(["all_choices", "box", "many", "term", "read_rule", "read_rules"]:List Str),fs.lookup m=none:=by
 intro m hm
 simp only [List.mem_cons,List.not_mem_nil,or_false] at hm
 rcases hm with rfl|rfl|rfl|rfl|rfl|rfl
 ·exact h.1
 ·exact h.2.1
 ·exact h.2.2.1
 ·exact h.2.2.2.1
 ·exact h.2.2.2.2.1
 ·exact h.2.2.2.2.2
theorem ae1 {H H1:Hp} {p C dx:Addr} {fs:List (Str×V)} (hp:H p=some (.ins C dx fs)) (O:∀ b u,b≠p->H b=some u->H1 b=some u):Sq2 H H1:=fun b o e ⟨xs,h⟩=>O b o (fun z=>by
 rw [z,hp] at e
 cases e
 rcases h with h|h|⟨_,h⟩|⟨_,h⟩ <;> cases h) e
theorem RCase.ok {ok bad:Addr->Prop} {H:Hp} {sw:Sw} {v:V} {rules:List Sw} (h:RCase ok K H sw bad v (some rules)):(∀ r∈rules,Dc sw r)/\rules.length<=8:=by
 cases h with
 | good _ o l=>exact⟨o,l⟩
theorem EntV.sq {H H1:Hp} {k:Key} {v:V} {o:Option (Str×List Str)} (S:Sq2 H H1) (h:EntV K H k v o):EntV K H1 k v o:=by
 cases o with
 | some e=>obtain⟨a,b,p,c,d⟩:=h;exact⟨a,b,p,c,S.sqL _ _ d⟩
 | none=>exact h.imp id fun⟨w,e,d,n,f⟩=>⟨w,e,d,S.at n,f⟩
theorem RCase.move {ok ok' bad:Addr->Prop} {H H1:Hp} {sw:Sw} {v:V} {out:Option (List Sw)} (S:Sq2 H H1) (kp:Kp ok H ok' H1) (D:∀ b kvs,H b=some (.dK kvs)->H1 b=some (.dK kvs)) (h:RCase ok K H sw bad v out):RCase ok' K H1 sw bad v out:=by
 cases h with
 | good h o l=>exact .good (h.imp id fun⟨k,e,R⟩=>⟨k,e,R.mono kp⟩) o l
 | tree h n l=>exact .tree (S.at h) n l
 | dict e h=>exact .dict e (D _ _ h)
 | many e h l=>exact .many e (S.sqL _ _ h) l
 | elt e h l hx hp hb hr=>
  refine .elt e (S.sqL _ _ h) l hx (fun i y r h1 h2=>?_) ?_ hr
  ·obtain⟨r',e',R,o⟩:=hp i y r h1 h2
   exact⟨r',e',R.mono kp,o⟩
  ·exact hb.imp (fun⟨d,a⟩=>⟨d,S.at a⟩) fun⟨r,kvs,os,e,o,B,q⟩=>⟨r,kvs,os,e,(kp r _ ⟨o,B.at_⟩).1,⟨D _ _ B.at_,B.len,B.few,B.nd,fun i k v o h1 h2=>(B.ent i k v o h1 h2).sq S⟩,q⟩
theorem ax4 {f:Addr} {fd:FuncData} (Z:Au K t) (F:FunD K "__init__" "Panel.__init__" s_zp f fd t.dv_zp) (T:Tab P w K mg base 7 (gb_7 K t) bl):FnOk P w K mg base (CXE P w) 8 f fd P_zp (ah3 K t):=by
 refine F.okWX a47 a90 T (a21 K t) (fun vs H Q E h=>?_) (fun vs H Q E h=>?_)
 ·obtain⟨p,dx,v,u,rfl,_⟩:=h;rfl
 ·obtain⟨p,dx,v,u,rfl,hp,h⟩:=h
  rcases h with ⟨hn,kb⟩|⟨a,sw,bad,out,rfl,hsw,hw,hc,kg,kz,kn⟩
  ·exact⟨v,rfl,.inl ⟨hn,fun H' e S q=>⟨e,rfl,kb H' e ⟨fun b o _ _ z=>S _ _ z,fun b o _ z=>.inl (S _ _ z)⟩ q⟩⟩⟩
  have cl:=Z.pf.cl
  have na:=Z.pf.na
  have nf:¬ fresh H p:=(Ff hp)
  refine⟨.ref a,rfl,.inr ⟨a,sw,rfl,hsw.mono Kp.any,hw,fun H1 d S1 A1=>?_⟩⟩
  refine Fm (S1 _ _ hp) cl (na _ (by simp)) (Nat.le_of_ble_eq_true rfl) (fs':=fl1 d) rfl fun H2 b2 p2=>?_
  have O2:Off p H H2:=fun b u n e=>by rw [b2 b n];exact S1 _ _ e
  have A2:=A1.mono (Kp.but b2 nf)
  refine Or.inl ⟨_,_,_,_,p2,cl,(na _ (by simp)),rfl,⟨d,sw,rfl,A2.mono Kp.any,hw,fun H3 l S3 T3=>?_⟩⟩
  refine Fm (S3 _ _ p2) cl (na _ (by simp)) (Nat.le_of_ble_eq_true rfl) (fs':=fl2 d l) rfl fun H4 b4 p4=>?_
  have O4:=(O2.up S3).but b4
  have A4:=A2.mono ((Kp.same S3).trans (Kp.but b4 nf))
  have T4:=T3.mono ((Kp.weak (O2.fr p2)).trans (Kp.but b4 nf))
  refine Or.inl ⟨_,_,_,_,p4,cl,(na _ (by simp)),rfl,⟨l,Ai sw,rfl,T4.mono Kp.any,(Gj hw.sets).1,hw.len,fun H5 n S5 N5=>?_⟩⟩
  refine Fm (S5 _ _ p4) cl (na _ (by simp)) (Nat.le_of_ble_eq_true rfl) (fs':=fl3 d l n) rfl fun H6 b6 p6=>?_
  have O6:=(O4.up S5).but b6
  have A6:=A4.mono ((Kp.same S5).trans (Kp.but b6 nf))
  have T6:=T4.mono ((Kp.same S5).trans (Kp.but b6 nf))
  have N6:=N5.mono ((Kp.weak (O4.fr p4)).trans (Kp.but b6 nf))
  refine Or.inl ⟨_,_,_,_,p6,cl,(na _ (by simp)),rfl,(Or.inl ⟨_,_,_,_,p6,cl,(na _ (by simp)),rfl,⟨d,l,sw,rfl,A6.mono Kp.any,T6.mono Kp.any,hw,fun H7 s S7 E7=>?_⟩⟩)⟩
  refine Fm (S7 _ _ p6) cl (na _ (by simp)) (Nat.le_of_ble_eq_true rfl) (fs':=fl4 d l n s) rfl fun H8 b8 p8=>?_
  have O8:=(O6.up S7).but b8
  have k78:=(Kp.same (ok:=fresh H) S7).trans (Kp.but b8 nf)
  have P8:Pc (fresh H) H8 d l n s sw:=⟨A6.mono k78,T6.mono k78,N6.mono k78,E7.mono ((Kp.weak (O6.fr p6)).trans (Kp.but b8 nf))⟩
  have P8':Pc (fun b=>H b=none/\H8 b≠none) H8 d l n s sw:=P8.mono fun b o q=>⟨⟨q.1,by rw [q.2];exact fun z=>nomatch z⟩,q.2⟩
  have w8:Kp (fresh H) H8 (fun b=>b=p\/H b=none) H8:=Kp.weak fun b e=>.inr e
  have kpRC:Kp (· ≠ p) H (fun b=>¬ (b=p\/H b=none)) H8:=fun b o q=>by
   refine⟨fun z=>?_,O8 _ _ q.1 q.2⟩
   rcases z with z|z
   ·exact q.1 z
   ·have:=q.2
    rw [z] at this
    cases this
  have RC:RCase (fun b=>¬ (b=p\/H b=none)) K H8 sw bad u out:=hc.move (ae1 hp O8) kpRC fun b kvs e=>O8 _ _ (fun z=>by rw [z,hp] at e;cases e) e
  refine⟨p,dx,_,⟨t.c_zas,i_ze K t⟩,rfl,.head _,p8,rfl,⟨Nat.le_of_ble_eq_true rfl,Nat.le_of_ble_eq_true rfl⟩,p,l,s,(fun b=>b=p\/H b=none),bad,u,sw,out,rfl,⟨dx,_,⟨.inl rfl,p8⟩,rfl,rfl,M2 ⟨rfl,rfl,rfl,rfl,rfl,rfl⟩⟩,P8.tps.mono w8,P8.sts.mono w8,hw,RC,fun rules eo H9 kk S9 R9=>?_,fun eo H' e O F=>⟨e,rfl,kn eo H' e ⟨fun b o n nb q=>O.1 b o nb (O8 b o n q),fun b o n q=>O.2 b o (O8 b o n q)⟩ F⟩⟩
  subst eo
  obtain⟨hr,h8⟩:=hc.ok
  refine Fm (S9 _ _ p8) cl (na _ (by simp)) (Nat.le_of_ble_eq_true rfl) (fs':=fl5 d l n s kk) rfl fun H10 b10 p10=>?_
  have O10:=(O8.up S9).but b10
  have n8:¬ fresh H8 p:=(Ff p8)
  have R10:=R9.mono (Kp.but b10 n8)
  have P10:Pc (fun b=>H b=none/\H8 b≠none) H10 d l n s sw:=P8'.mono ((Kp.same S9).trans (Kp.but b10 (fun e=>nf e.1)))
  obtain⟨rs,er,⟨fk,ok⟩,hrs⟩:=id R10
  have lenr:(rs.map fun x=>V.ref x.2).length=rules.length:=by rw [<- er];simp
  refine Or.inl ⟨_,_,_,_,p10,cl,(na _ (by simp)),rfl,(.inl ⟨⟨_,SqL.of ok⟩,fun D hD=>?_⟩)⟩
  have fD:H D=none:=O10.fr p10 D hD
  refine C7 (Bl (rs.map fun x=>V.ref x.2)) (fun m σ H'=>(∃ v,σ=[v,some (.ref p)])/\Same H10 H'/\H' D=some (.lst ((Hi sw (rules.take m)).map V.int))) ⟨⟨_,rfl⟩,Same.upd hD,Ab⟩ (fun m σ H' _ q=>q.2.1.seqL (SqL.of ok)) ?_ ?_
  ·rintro m x σ H11 hx ⟨⟨v,rfl⟩,S11,eD⟩
   obtain⟨⟨rule,r⟩,hm2,rfl⟩:=Am hx
   have hm3:rules[m]? = some rule:=by rw [<- er,List.getElem?_map,hm2];rfl
   have hrl2:=hrs _ (List.mem_of_getElem? hm2)
   have nr:H8 r=none:=by obtain⟨_,_,o,_⟩:=hrl2;exact o.1
   have npr:p≠r:=Ae p8 nr
   have hok:=hr rule (List.mem_of_getElem? hm3)
   obtain⟨kv,BV⟩:=Mj (K:=K) (hrl2.mono ((Kp.same S11).trans Kp.any)) hok.2.1 hok.2.2.1 hok.2.2.2
   have kw:Kp (fun b=>H b=none/\H8 b≠none) H10 (· ≠ r) H11:=(Kp.same S11).trans (Kp.weak fun b h e=>h.2 (e▸nr))
   refine⟨p,dx,_,⟨t.c_zas,i_zv K t⟩,rfl,.head _,S11 _ _ p10,rfl,⟨Nat.le_of_ble_eq_true rfl,Nat.le_of_ble_eq_true rfl⟩,p,l,s,r,kv,_,sw,rfl,hw,⟨dx,_,⟨npr,S11 _ _ p10⟩,rfl,rfl,M2 ⟨rfl,rfl,rfl,rfl,rfl,rfl⟩⟩,P10.tps.mono kw,P10.sts.mono kw,BV,.inl ⟨rule,rfl,hok.2.2.2,fun H12 S12=>?_⟩⟩
   refine⟨_,S12 _ _ eD,?_,⟨_,rfl⟩,(S11.trans S12).set hD,?_⟩
   ·rw [List.length_map]
    unfold Hi
    rw [List.length_map,List.length_take]
    exact Nat.lt_of_le_of_lt (show min m rules.length<=8 by omega) (by decide)
   ·rw [Ab]
    unfold Hi
    rw [C6 hm3,List.map_append]
    rfl
  rintro σ H11 ⟨_,S11,eD⟩
  rw [lenr,List.take_length] at eD
  refine Fm (S11 _ _ p10) cl (na _ (by simp)) (Nat.le_of_ble_eq_true rfl) (fs':=fl6 d l n s kk D) rfl fun H12 b12 p12=>?_
  have O12:=(O10.up S11).but b12
  have nDp:D≠p:=(Ae p10 hD).symm
  have B12:H12 D=some (.lst ((Hi sw rules).map V.int)):=by rw [b12 D nDp];exact eD
  have k12:∀ {ok:Addr->Prop},¬ ok p->Kp ok H10 ok H12:=fun h=>(Kp.same S11).trans (Kp.but b12 h)
  have P12:=P10.mono (k12 fun e=>nf e.1)
  have R12:=R10.mono (k12 n8)
  refine⟨p,dx,_,⟨t.c_zas,i_zd K t⟩,rfl,.head _,p12,rfl,⟨Nat.le_of_ble_eq_true rfl,Nat.le_of_ble_eq_true rfl⟩,p,l,s,sw,rfl,⟨dx,_,⟨trivial,p12⟩,rfl,rfl,M2 ⟨rfl,rfl,rfl,rfl,rfl,rfl⟩⟩,P12.tps.mono Kp.any,hw.len,Or.inl ⟨_,_,_,_,p12,cl,(na _ (by simp)),rfl,⟨D,Hi sw rules,rfl,SqL.of B12,?_⟩⟩⟩
  refine Fm p12 cl (na _ (by simp)) (Nat.le_of_ble_eq_true rfl) (fs':=flds d l n s kk D (Cz sw rules)) rfl fun H14 b14 p14=>?_
  have O14:=O12.but b14
  refine Or.inl ⟨_,_,_,_,p14,cl,(na _ (by simp)),rfl,?_⟩
  by_cases hf:Cz sw rules=0
  ·refine Di (decide_eq_true hf) ?_
   refine Jx (σ:=[some (.ref p),some (.ref a),some u]) Z.pf.en fun c hc0=>kz rules rfl hf _ c ⟨fun b o n _ q=>?_,fun b o n q=>.inl ?_⟩ (.inl Ab)
   ·have q1:=O14 b o n q
    rw [Af (Ae q1 hc0),Af (Ae q1 hc0)];exact q1
   ·have q1:=O14 b o n q
    rw [Af (Ae q1 hc0),Af (Ae q1 hc0)];exact q1
  refine Dh (decide_eq_false hf) ?_
  have kk14:∀ {ok:Addr->Prop},¬ ok p->(∀ b,ok b->H b=none)->Kp ok H12 (fun b=>b=p\/H b=none) H14:=fun h g=>(Kp.but b14 h).trans (Kp.weak fun b e=>.inr (g b e))
  have P14:=P12.mono (kk14 (fun e=>nf e.1) fun b e=>e.1)
  refine kg rules rfl hf H14 O14 ⟨dx,d,l,n,s,kk,D,⟨.inl rfl,p14⟩,P14.sws,P14.tps,P14.nms,P14.sts,R12.mono (kk14 n8 (O8.fr p8)),⟨.inr fD,?_⟩⟩
  rw [b14 D nDp];exact B12
theorem inV2 (x:Int):inV (.int x) [.int 0,.int (-1)]=(decide (x=0)||decide (x = -1)):=by
 unfold inV
 show ((0==x)||((-1==x)||false))=_
 rw [Bool.or_false]
 congr 1
 ·rw [Bool.beq_eq_decide_eq];exact decide_eq_decide.mpr ⟨Eq.symm,Eq.symm⟩
 ·rw [Bool.beq_eq_decide_eq];exact decide_eq_decide.mpr ⟨Eq.symm,Eq.symm⟩
theorem ak3 {f:Addr} {fd:FuncData} (Z:Au K t) (F:FunD K "_law_mix" "_law_mix" J4 f fd .none) (T:Tab P w K mg base 0 (gb_0 K t) bl):FnOk P w K mg base CX0 1 f fd Nt (Ek K t):=by
 refine F.okW0 as0 at8 T (aq8 K t) (fun vs H Q E h=>?_) (fun vs H Q E h=>?_)
 ·obtain⟨c,k,rfl,_⟩:=h;rfl
 ·obtain⟨c,k,rfl,hk,hk2,q⟩:=h
  have fin:∀ H',Same H H' -> ¬ (c % 2=0/\c / 2 ^ (27 * k+1).toNat≠0/\c / 2 ^ (27 * k+1).toNat ≠ -1) -> ∀ (D:Outs) (v:Option V),D.rt=Q ->
    (dSeq (dSet 3 (dBin Ar (dBin Cc (dBin (Ao K) (dBin Ar (dVar 0) (dC (.int 1000000007))) (dBin Cc (dC (.int 7919)) (dVar 1))) (dC (.int 48271))) (dC (.int 2147483647))))
 (dSeq (dSet 3 (dBin Ar (dBin Cc (dVar 3) (dVar 3)) (dC (.int 2147483629))))
 (dSeq (dRet (dBin Ar (dBin Cc (dVar 3) (dBin (Ao K) (dVar 3) (dC (.int 3)))) (dC (.int 2147483587)))) Ad))) D [some (.int c),some (.int k),some (.int (c / 2 ^ (27 * k+1).toNat)),v] H':=by
   intro H' S hn D v hD
   have q:=q H' S
   unfold mixF at q
   rw [if_neg hn] at q
   have b1:0<=(c % 1000000007+7919 * k) * 48271 % 2147483647/\(c % 1000000007+7919 * k) * 48271 % 2147483647<2147483647:=⟨Int.emod_nonneg _ (by decide),Int.emod_lt_of_pos _ (by decide)⟩
   refine⟨by decide,.inl ⟨by decide,by decide⟩,.inr ⟨by decide,by decide⟩,by decide,?_⟩
   dsimp only at q
   generalize (c % 1000000007+7919 * k) * 48271 % 2147483647=n at b1 q ⊢
   have b2:0<=n * n % 2147483629/\n * n % 2147483629<2147483629:=⟨Int.emod_nonneg _ (by decide),Int.emod_lt_of_pos _ (by decide)⟩
   refine⟨.inl ⟨by omega,by omega⟩,by decide,?_⟩
   generalize n * n % 2147483629=m at b2 q ⊢
   refine⟨.inl ⟨by omega,by omega⟩,by decide,?_⟩
   rw [hD]
   exact q
  refine⟨.inl ⟨by decide,by decide⟩,by omega,by decide,?_⟩
  refine ite2 (fun e1=>?_) (fun e1=>?_)
  ·have e1:c % 2=0:=by simpa using e1
   refine⟨by decide,fun T hT=>.inl ⟨T,_,rfl,.inr (SqT.of Ab),rfl,rfl,?_⟩⟩
   have S:=Same.upd (o:=.tup [.int 0,.int (-1)]) hT
   show if (!inV (.int (c / 2 ^ (27 * k+1).toNat)) [.int 0,.int (-1)])=true then _ else _
   rw [inV2]
   refine ite2 (fun e2=>?_) (fun e2=>?_)
   ·have e2:c / 2 ^ (27 * k+1).toNat≠0/\c / 2 ^ (27 * k+1).toNat ≠ -1:=by simpa using e2
    have q:=q _ S
    unfold mixF at q
    rw [if_pos ⟨e1,e2⟩] at q
    exact q
   ·refine fin _ S (fun z=>e2 ?_) _ _ rfl
    simp [z.2.1,z.2.2]
  ·exact fin _ (Same.refl _) (fun z=>e1 (by simp [z.1])) _ _ rfl
abbrev lettersS:Str := "abcdefghijklmnopqrstuvwxyz"
theorem Uu:lettersS.cps.toList=(List.range 26).map (97 + ·):=by decide +kernel
theorem Lq {i:Int} (h0:0<=i) (h:i<26):atI lettersS.cps.toList i=some (97+i.toNat):=by
 have e:i=((i.toNat:Nat):Int):=by omega
 rw [e,Int.toNat_natCast]
 refine Bs ?_
 rw [Uu,List.getElem?_map,List.getElem?_range (by omega)]
 rfl
theorem Km (x:Int):0<=Builtin.bitAnd x 134217727:=by
 by_cases hx:0<=x
 ·rw [PyProof.Rows.bitAnd_pp hx (by decide)];exact Int.natCast_nonneg _
 ·rw [PyProof.Rows.bitAnd_np hx (by decide)]
  have:=Nat.and_le_left (n:=(134217727:Int).toNat) (m:=(Builtin.bitNot x).toNat)
  have e:((134217727:Int).toNat:Int)=134217727:=rfl
  omega
theorem Qt (c k:Int):0<=mixF c k:=by
 unfold mixF
 split
 ·exact Km _
 ·exact Int.emod_nonneg _ (by decide)
theorem Gd (l:List Nat):Txt.join (Str.ofString "") (l.map fun k=>(⟨#[k]⟩:Str))=⟨l.toArray⟩:=by
 show Builtin.Str.glued (Str.ofString "") _=_
 rw [StrLaws.glued_eq_join,show Str.ofString "" = (⟨#[]⟩:Str) from by decide +kernel]
 exact PyProof.Rows.join_ones l
theorem Hs (l:List Nat):((l.map fun k=>(⟨#[k]⟩:Str)).map (·.length)).sum+(l.map fun k=>(⟨#[k]⟩:Str)).length * (Str.ofString "").length=l.length:=by
 rw [show (Str.ofString "").length=0 from by decide +kernel,Nat.mul_zero,Nat.add_zero]
 induction l with
 | nil=>rfl
 | cons a l ih=>rw [List.map_cons,List.map_cons,List.sum_cons,ih,List.length_cons,show (⟨#[a]⟩:Str).length=1 from rfl,Nat.add_comm]
theorem Om {E:EK} {te:DE} {n:Nat} {g:Nat->Nat} {rest:St} {H:Hp} {R:Hp->Addr->Prop} (hn:n<=8) (he:∀ (j:Nat) (H1:Hp) (Q1:VK),j<n->(∀ H2,Same H1 H2->Q1 (.str ⟨#[g j]⟩) H2)->te (some (.int (j:Int))::rest) H1 Q1 E)
  (k:∀ D H',Same H H'->H D=none->H' D=some (.lst ((((List.range n).map g).map fun c=>(⟨#[c]⟩:Str)).map V.str))->R H' D):∀ D,H D=none->CmpW (Itr 0 n) (gdN 0) dYes te D (fun H'=>R H' D) (none::rest) (upd H D (.lst [])) E:=by
 intro D hD
 refine C7 (D8 0 n) (fun m σ H'=>(∃ v,σ=v::rest)/\Same H H'/\H' D=some (.lst ((((List.range m).map g).map fun c=>(⟨#[c]⟩:Str)).map V.str))) ⟨⟨_,rfl⟩,Same.upd hD,Ab⟩ (fun _ _ _ _ _=>True.intro) ?_ ?_
 ·rintro m x σ H1 hx ⟨⟨v,rfl⟩,S1,eD⟩
  obtain⟨hm,rfl⟩:=Hc hx
  refine (he m H1 _ hm fun H2 S2=>⟨_,S2 _ _ eD,?_,⟨_,rfl⟩,(S1.trans S2).set hD,?_⟩)
  ·rw [List.length_map,List.length_map,List.length_map,List.length_range]
   exact Nat.lt_of_lt_of_le (show m<8 by omega) (by decide)
  ·rw [Ab,List.range_succ,List.map_append,List.map_append,List.map_append];rfl
 ·rintro σ H1 ⟨_,S1,eD⟩
  rw [Ci] at eD
  exact k D H1 S1 hD eD
def sgA (c:Int) (j:Nat):Nat:=97+(mixF c (2+(j:Int)) % 26).toNat
def lenA (n:Int) (k:Nat):Nat:=(1+(n / 192+3 * (k:Int)) % 8).toNat
def Mc (c n:Int) (k:Nat):Str:=⟨(((List.range 8).map (sgA c)).take (lenA n k)).toArray⟩
def sgB (c n:Int) (k j:Nat):Nat:=97+((mixF c (2+(j:Int))+5 * (k:Int) * (if decide ((j:Int)=n / 8 % (1+n % 8))=true then 1 else 0)) % 26).toNat
def wdB (c n:Int) (k:Nat):Str:=⟨((List.range (1+n % 8).toNat).map (sgB c n k)).toArray⟩
theorem Jj {i:Int} (h0:0<=i) (h:i<26):B5 (97+i.toNat)=true:=by
 unfold B5
 simp
 omega
theorem Rl {l:List Nat} {g:Nat->Nat} (h:∀ j,B5 (g j)=true):(l.map g).all B5=true:=by rw [List.all_map,List.all_eq_true];exact fun _ _=>h _
theorem okA (c n:Int) (k:Nat):okW (Mc c n k)/\(Mc c n k).length=lenA n k:=by
 have hl:1<=lenA n k/\lenA n k<=8:=by unfold lenA;omega
 have e:(Mc c n k).length=lenA n k:=by
  show (((List.range 8).map (sgA c)).take (lenA n k)).toArray.size=_
  rw [List.size_toArray,List.length_take,List.length_map,List.length_range]
  omega
 refine⟨⟨by omega,by omega,?_⟩,e⟩
 show ((((List.range 8).map (sgA c)).take (lenA n k)).toArray.toList).all B5=true
 rw [List.all_eq_true]
 intro x hx
 have hx:x∈((List.range 8).map (sgA c)).take (lenA n k):=by simpa using hx
 exact List.all_eq_true.mp (Rl (l:=List.range 8) (g:=sgA c) fun j=>Jj (Int.emod_nonneg _ (by decide)) (Int.emod_lt_of_pos _ (by decide))) x (List.mem_of_mem_take hx)
theorem okB (c n:Int) (k:Nat) (hn:0<=n):okW (wdB c n k):=by
 have e:(wdB c n k).length=(1+n % 8).toNat:=by
  show ((List.range (1+n % 8).toNat).map (sgB c n k)).toArray.size=_
  rw [List.size_toArray,List.length_map,List.length_range]
 refine⟨by omega,by omega,?_⟩
 show (((List.range (1+n % 8).toNat).map (sgB c n k)).toArray.toList).all B5=true
 exact Rl (l:=List.range _) (g:=sgB c n k) fun j=>Jj (Int.emod_nonneg _ (by decide)) (Int.emod_lt_of_pos _ (by decide))
theorem Hq {f:Nat->Str} {m:Nat} (hm:m<=5) (h:∀ i j,i<5->j<5->f i=f j->i=j):((List.range m).map f).Nodup:=by
 refine List.pairwise_iff_getElem.mpr fun i j hi hj hij=>?_
 rw [List.length_map,List.length_range] at hi hj
 rw [List.getElem_map,List.getElem_map,List.getElem_range,List.getElem_range]
 intro e
 have:=h i j (by omega) (by omega) e
 omega
theorem ndA (c n:Int) {m:Nat} (hm:m<=5):((List.range m).map (Mc c n)).Nodup:=Hq hm fun i j hi hj e=>by
 have h:=congrArg Str.length e
 rw [(okA c n i).2,(okA c n j).2] at h
 unfold lenA at h
 omega
theorem ndB (c n:Int) (hn:0<=n) {m:Nat} (hm:m<=5):((List.range m).map (wdB c n)).Nodup:=Hq hm fun i j hi hj e=>by
 have h:(List.range (1+n % 8).toNat).map (sgB c n i)=(List.range (1+n % 8).toNat).map (sgB c n j):=by
  have:=congrArg (fun z:Str=>z.cps.toList) e
  exact this
 have ha:0<=n / 8 % (1+n % 8)/\n / 8 % (1+n % 8)<1+n % 8:=⟨Int.emod_nonneg _ (by omega),Int.emod_lt_of_pos _ (by omega)⟩
 have h2:=congrArg (fun l:List Nat=>l[(n / 8 % (1+n % 8)).toNat]?) h
 have hr:(n / 8 % (1+n % 8)).toNat<(1+n % 8).toNat:=by omega
 simp only [List.getElem?_map,List.getElem?_range hr,Option.map_some,Option.some.injEq] at h2
 unfold sgB at h2
 have ea:(((n / 8 % (1+n % 8)).toNat:Nat):Int)=n / 8 % (1+n % 8):=by omega
 rw [ea,decide_eq_true rfl,if_pos rfl] at h2
 generalize mixF c (2+n / 8 % (1+n % 8))=x at h2
 omega
theorem aj7 {f:Addr} {fd:FuncData} (Z:Au K t) (F:FunD K "_law_words" "_law_words" Jy f fd .none) (T:Tab P w K mg base 1 (gb_1 K t) bl):FnOk P w K mg base CX0 2 f fd Nl (J8 K t):=by
 refine F.okW0 ar4 at0 T (aq2 K t) (fun vs H Q E h=>?_) (fun vs H Q E h=>?_)
 ·obtain⟨c,n,rfl,_⟩:=h;rfl
 ·obtain⟨c,m,rfl,hm,k⟩:=h
  refine⟨c,1,rfl,by decide,by decide,fun H1 S1=>?_⟩
  have hn:=Qt c 1
  have big:(100:Nat)<=sizeLine:=by decide
  generalize mixF c 1=n at hn ⊢
  refine⟨⟨by decide,by decide⟩,by decide,ite2 (fun _=>?_) (fun _=>?_)⟩
  ·refine⟨rfl,⟨by decide,by decide⟩,?_⟩
   refine Om (n:=8) (g:=sgA c) (rest:=[some (.int c),some (.str lettersS)]) (by decide) (fun j H2 Q1 hj q=>?_) fun D H2 S2 hD eD=>?_
   ·refine⟨c,2+(j:Int),rfl,by omega,by omega,fun H3 S3=>⟨by decide,by decide,_,Lq (Int.emod_nonneg _ (by decide)) (Int.emod_lt_of_pos _ (by decide)),q H3 S3⟩⟩
   ·refine⟨_,D,_,rfl,rfl,SqL.of eD,?_,?_⟩
    ·rw [Hs,List.length_map,List.length_range];decide
    rw [Gd]
    refine⟨⟨by omega,by omega⟩,?_⟩
    intro L hL
    rw [Int.toNat_natCast]
    have S12:=S1.trans S2
    have fL:=S12.free hL
    refine C7 (D8 0 m) (fun i σ H'=>(∃ v,σ=[v,some (.str ⟨((List.range 8).map (sgA c)).toArray⟩),some (.int n)])/\Same H2 H'/\H' L=some (.lst (((List.range i).map (Mc c n)).map V.str))) ⟨⟨_,rfl⟩,Same.upd hL,Ab⟩ (fun _ _ _ _ _=>True.intro) ?_ ?_
    ·rintro i x σ H3 hx ⟨⟨v,rfl⟩,S3,eL⟩
     obtain⟨hi,rfl⟩:=Hc hx
     refine⟨⟨by decide,by decide⟩,.inl ⟨by decide,by decide⟩,by decide,(show 8<=sizeLine by decide),_,eL,?_,⟨_,rfl⟩,S3.set hL,?_⟩
     ·rw [List.length_map,List.length_map,List.length_range]
      omega
     ·have es:Txt.slice ⟨((List.range 8).map (sgA c)).toArray⟩ none (some (1+(n / 192+3 * (i:Int)) % 8))=Mc c n i:=by
       have hb:0<=1+(n / 192+3 * (i:Int)) % 8/\1+(n / 192+3 * (i:Int)) % 8<=8:=by omega
       have e:=eq_of_beq (PyProof.Rows.slice_closes_to (x:=⟨((List.range 8).map (sgA c)).toArray⟩) (j:=1+(n / 192+3 * (i:Int)) % 8) ⟨hb.1,hb.2⟩)
       rw [e,Int.sub_zero]
       rfl
      rw [Ab,es,List.range_succ,List.map_append,List.map_append]
      rfl
    ·rintro σ H3 ⟨_,S3,eL⟩
     rw [Ci] at eL
     refine k H3 L _ (S12.trans S3) fL eL (by simp) (ndA c n hm) fun z hz=>?_
     obtain⟨i,_,rfl⟩:=List.mem_map.mp hz
     exact (okA c n i).1
  ·refine⟨by decide,⟨by decide,by decide⟩,by omega,by decide,fun L hL=>⟨⟨by omega,by omega⟩,?_⟩⟩
   have fL:=S1.free hL
   show ForW (Itr 0 ((m:Int)).toNat) _ _ _ [some (.int c),some (.int (m:Int)),some (.str lettersS),some (.int n),none,none,some (.int (1+n % 8)),some (.int (n / 8 % (1+n % 8))),some (.ref L),none] _
   rw [Int.toNat_natCast]
   refine B9 (D8 0 m) (fun i σ H'=>(∃ v5 v9,σ=[some (.int c),some (.int (m:Int)),some (.str lettersS),some (.int n),none,v5,some (.int (1+n % 8)),some (.int (n / 8 % (1+n % 8))),some (.ref L),v9])/\Same H1 H'/\H' L=some (.lst (((List.range i).map (wdB c n)).map V.str))) ⟨⟨_,_,rfl⟩,Same.upd hL,Ab⟩ (fun _ _ _ _ _=>True.intro) ?_ ?_
   ·rintro i x σ H2 hx ⟨⟨v5,v9,rfl⟩,S2,eL⟩
    obtain⟨hi,rfl⟩:=Hc hx
    refine⟨⟨by omega,by omega⟩,?_⟩
    refine Om (n:=(1+n % 8).toNat) (g:=sgB c n i) (rest:=[some (.int (n / 8 % (1+n % 8))),some (.int c),some (.int (i:Int)),some (.str lettersS)]) (by omega) (fun j H3 Q1 hj q=>?_) fun D H3 S3 hD eD=>?_
    ·refine⟨c,2+(j:Int),rfl,by omega,by omega,fun H4 S4=>⟨.inl ⟨by decide,by decide⟩,.inl ⟨by omega,by omega⟩,by decide,by decide,_,Lq (Int.emod_nonneg _ (by decide)) (Int.emod_lt_of_pos _ (by decide)),q H4 S4⟩⟩
    ·have nDL:D≠L:=(Ae eL hD).symm
     refine⟨.inl ⟨rfl,_,SqL.of (S3 _ _ eL)⟩,rfl,_,D,_,rfl,rfl,SqL.of eD,?_,?_⟩
     ·rw [Hs,List.length_map,List.length_range];omega
     rw [Gd]
     refine⟨L,_,_,rfl,rfl,S3 _ _ eL,?_,⟨_,_,rfl⟩,(S2.trans S3).set hL,?_⟩
     ·rw [List.length_map,List.length_map,List.length_range]
      omega
     ·rw [Ab,List.range_succ,List.map_append,List.map_append]
      rfl
   ·rintro σ H2 ⟨⟨v5,v9,rfl⟩,S2,eL⟩
    rw [Ci] at eL
    refine .inl (k H2 L _ (S1.trans S2) fL eL (by simp) (ndB c n hn hm) fun z hz=>?_)
    obtain⟨i,_,rfl⟩:=List.mem_map.mp hz
    exact okB c n i hn
theorem SwL.up {H H1 H2:Hp} {ls:Addr} {ds:List (((Str×List Str)×Addr)×Addr)} (h:SwL H H1 ls ds) (S:Same H1 H2):SwL H H2 ls ds:=⟨S _ _ h.at_,fun x hx=>S _ _ (h.tup x hx),fun x hx=>S _ _ (h.lst x hx),h.ne⟩
theorem SwL.snoc {H H1:Hp} {ls:Addr} {ds:List (((Str×List Str)×Addr)×Addr)} (h:SwL H H1 ls ds) {e:Str×List Str} {la ta:Addr} (ht:H1 ta=some (.tup [.str e.1,.ref la])) (hl:H1 la=some (lstO e.2)) (nl:la≠ls) (fl:H la=none) :
  SwL H (upd H1 ls (.lst ((ds.map fun x=>V.ref x.2)++[.ref ta]))) ls (ds++[((e,la),ta)]):=by
 have nt:∀ {a:Addr} {xs:List V},H1 a=some (.tup xs)->a≠ls:=fun q z=>by rw [z,h.at_] at q;cases q
 refine⟨by rw [Ab,List.map_append];rfl,fun x hx=>?_,fun x hx=>?_,fun x hx=>?_⟩
 ·rcases List.mem_append.mp hx with hx|hx
  ·rw [Af (nt (h.tup x hx))];exact h.tup x hx
  ·have:x=((e,la),ta):=by simpa using hx
   subst this
   rw [Af (nt ht)];exact ht
 ·rcases List.mem_append.mp hx with hx|hx
  ·rw [Af (h.ne x hx).1];exact h.lst x hx
  ·have:x=((e,la),ta):=by simpa using hx
   subst this
   rw [Af nl];exact hl
 ·rcases List.mem_append.mp hx with hx|hx
  ·exact h.ne x hx
  ·have:x=((e,la),ta):=by simpa using hx
   subst this
   exact⟨nl,fl⟩
theorem Q0 (sw:Sw) (e:Str×List Str):A8 (sw++[e])=A8 sw * e.2.length:=by unfold A8;rw [List.foldl_append];rfl
theorem ax0 {f:Addr} {fd:FuncData} (Z:Au K t) (F:FunD K "_law_switches" "_law_switches" s_zl f fd .none) (T:Tab P w K mg base 2 (gb_2 K t) bl):FnOk P w K mg base CX0 3 f fd P_zl (Y0 K t):=by
 refine F.okW0 a43 a86 T (a17 K t) (fun vs H Q E h=>?_) (fun vs H Q E h=>?_)
 ·obtain⟨c,m,rfl,_⟩:=h;rfl
 ·obtain⟨c,m,rfl,hm,hm2,k⟩:=h
  refine⟨c,5,rfl,Nat.le_refl 5,fun H1 lw ws S1 flw elw lws ndw okw=>⟨by decide,fun ls hls=>?_⟩⟩
  have fls:=S1.free hls
  have nwl:lw≠ls:=Ae elw hls
  have S2:=S1.trans (Same.upd (o:=.lst []) hls)
  have elw2:upd H1 ls (.lst []) lw=some (lstO ws):=by rw [Af nwl];exact elw
  have L2:SwL H (upd H1 ls (.lst [])) ls []:=⟨Ab,fun x hx=>(by cases hx),fun x hx=>(by cases hx),fun x hx=>(by cases hx)⟩
  generalize upd H1 ls (.lst [])=H2 at S2 elw2 L2 ⊢
  refine⟨c,20,rfl,by decide,by decide,fun H3 S3=>⟨by decide,⟨by omega,by omega⟩,?_⟩⟩
  have hN:1<=(1+mixF c 20 % 5).toNat/\(1+mixF c 20 % 5).toNat<=5:=by omega
  generalize (1+mixF c 20 % 5).toNat=N at hN ⊢
  refine B9 (D8 0 N) (fun i σ H'=>∃ ds:List (((Str×List Str)×Addr)×Addr),(∃ v5 v6,σ=[some (.int c),some (.int m),some (.ref lw),some (.ref ls),some (.int (A8 (ds.map (·.1.1)):Nat)),v5,v6])/\Same H H'/\H' lw=some (lstO ws)/\SwL H H' ls ds /\
    (ds.map (·.1.1.1)).Sublist (ws.take i)/\(∀ x∈ds,Dd x.1.1.2)/\(A8 (ds.map (·.1.1)):Int)<=m/\(i=0->ds=[])/\(1<=i->ds≠[]))
   ⟨[],⟨_,_,rfl⟩,S2.trans S3,S3 _ _ elw2,L2.up S3,List.Sublist.refl _,fun x hx=>(by cases hx),(show ((1:Nat):Int)<=m by omega),fun _=>rfl,fun h=>(by omega)⟩ (fun _ _ _ _ _=>True.intro) ?_ ?_
  ·rintro i x σ H4 hx ⟨ds,⟨v5,v6,rfl⟩,S4,elw4,L4,sub,oks,pm,z0,z1⟩
   obtain⟨hi,rfl⟩:=Hc hx
   have hp0:1<=A8 (ds.map (·.1.1)):=B3 (Nat.le_refl 1) (fun y hy=>by obtain⟨x,hx,rfl⟩:=List.mem_map.mp hy;exact oks x hx)
   refine⟨c,21+(i:Int),rfl,by omega,by omega,fun H5 S5=>⟨by decide,?_⟩⟩
   have hs:2<=2+mixF c (21+(i:Int)) % 3/\2+mixF c (21+(i:Int)) % 3<=4:=by omega
   have L5:=L4.up S5
   have elw5:=S5 _ _ elw4
   have S45:=S4.trans S5
   have rest:∀ sz:Int,2<=sz->sz<=4->(i=0->(A8 (ds.map (·.1.1)):Int) * sz<=m) -> ∀ D:Outs,D.nx=(fun σ H'=>∃ ds:List (((Str×List Str)×Addr)×Addr),(∃ v5 v6,σ=[some (.int c),some (.int m),some (.ref lw),some (.ref ls),some (.int (A8 (ds.map (·.1.1)):Nat)),v5,v6])/\Same H H'/\H' lw=some (lstO ws)/\SwL H H' ls ds /\
     (ds.map (·.1.1.1)).Sublist (ws.take (i+1))/\(∀ x∈ds,Dd x.1.1.2)/\(A8 (ds.map (·.1.1)):Int)<=m/\(i+1=0->ds=[])/\(1<=i+1->ds≠[])) ->
     (dSeq (dIf (dTst (dBin rLeD (dBin Cc (dVar 4) (dVar 6)) (dVar 1))) (dSeq (dSet 4 (dBin Cc (dVar 4) (dVar 6)))
   (dSeq (Eu (dMt (rMt K [⟨"list", "list.append", Dl⟩]) (dVar 3) (Aa (dTup (Aa (dBin (rIxD K) (dVar 2) (dVar 5)) (Aa (dFn (spE (J8 K t) []) (Aa (dBin (Ao K) (dBin (Ao K) (dVar 0) (dVar 5)) (dC (.int 1))) (Aa (dVar 6) dNil))) dNil))) dNil)))
   Ad)) Ad) Ad) D [some (.int c),some (.int m),some (.ref lw),some (.ref ls),some (.int (A8 (ds.map (·.1.1)):Nat)),some (.int (i:Int)),some (.int sz)] H5:=by
    intro sz h2 h4 hz D hD
    have cm:CMul (A8 (ds.map (·.1.1)):Nat) sz:=.inr ⟨by omega,by omega⟩
    refine⟨cm,ite2 (fun e=>⟨cm,?_⟩) (fun e=>?_)⟩
    ·have e:((A8 (ds.map (·.1.1)):Nat):Int) * sz<=m:=by simpa using e
     have hiw:i<ws.length:=by omega
     refine⟨.inl ⟨rfl,_,SqL.of L5.at_⟩,_,_,.inl (SqL.of elw5),Bs (j:=i) (by rw [List.getElem?_map,List.getElem?_eq_getElem hiw];rfl),?_⟩
     refine⟨c+(i:Int)+1,sz.toNat,by rw [show ((sz.toNat:Nat):Int)=sz by omega];rfl,by omega,fun H6 la ss S6 fla ela lss nds okss=>⟨(show 2<=sizeLine by decide),fun ta hta=>?_⟩⟩
     have nla:la≠ls:=(Ae L5.at_ fla).symm
     have ST:=Same.upd (o:=.tup [.str ws[i],.ref la]) hta
     have et:upd H6 ta (.tup [.str ws[i],.ref la]) ta=some (.tup [.str ws[i],.ref la]):=Ab
     generalize upd H6 ta (.tup [.str ws[i],.ref la])=H7 at ST et ⊢
     have L7:=L5.up (S6.trans ST)
     have fl0:H la=none:=S45.free fla
     have lds:ds.length<=5:=by
      have:=sub.length_le
      rw [List.length_map,List.length_take] at this
      omega
     refine⟨ls,_,_,rfl,rfl,L7.at_,?_,?_⟩
     ·rw [List.length_map];exact Nat.lt_of_le_of_lt lds (by decide)
     show D.nx _ _
     rw [hD]
     have pe:((A8 ((ds++[(((ws[i],ss),la),ta)]).map (·.1.1)):Nat):Int)=(A8 (ds.map (·.1.1)):Nat) * sz:=by
      rw [List.map_append,show [(((ws[i],ss),la),ta)].map (fun x:((Str×List Str)×Addr)×Addr=>x.1.1)=[(ws[i],ss)] from rfl,Q0,Int.natCast_mul,lss,show ((sz.toNat:Nat):Int)=sz by omega]
     refine⟨ds++[(((ws[i],ss),la),ta)],⟨_,_,congrArg (fun z=>[some (V.int c),some (V.int m),some (V.ref lw),some (V.ref ls),some (V.int z),some (V.int (i:Int)),some (V.int sz)]) pe.symm⟩,(S45.trans (S6.trans ST)).set fls,?_,L7.snoc et (ST _ _ ela) nla fl0,?_,?_,by rw [pe];exact e,fun h=>(by omega),fun _ h=>by simp at h⟩
     ·rw [Af nwl];exact (S6.trans ST) _ _ elw5
     ·rw [List.map_append,List.take_add_one,List.getElem?_eq_getElem hiw]
      exact sub.append (List.Sublist.refl _)
     ·intro x hx
      rcases List.mem_append.mp hx with hx|hx
      ·exact oks x hx
      ·have:x=(((ws[i],ss),la),ta):=by simpa using hx
       subst this
       exact⟨⟨okss,nds,by rw [lss];omega⟩,by rw [lss];omega,by rw [lss];omega⟩
    ·have e:¬ ((A8 (ds.map (·.1.1)):Nat):Int) * sz<=m:=by simpa using e
     show D.nx _ _
     rw [hD]
     have hi0:i≠0:=fun z=>e (hz z)
     refine⟨ds,⟨_,_,rfl⟩,S45,elw5,L5,sub.trans (List.take_sublist_take_left (by omega)),oks,pm,fun h=>(by omega),fun _=>z1 (by omega)⟩
   refine⟨.inr ⟨by omega,by omega⟩,ite2 (fun e=>?_) (fun e=>?_)⟩
   ·refine rest 2 (by decide) (by decide) (fun hz=>?_) _ (by rfl)
    rw [z0 hz]
    show ((1:Nat):Int) * 2<=m
    omega
   ·refine rest (2+mixF c (21+(i:Int)) % 3) hs.1 hs.2 (fun hz=>?_) _ (by rfl)
    rw [z0 hz]
    show ((1:Nat):Int) * (2+mixF c (21+(i:Int)) % 3)<=m
    omega
  ·rintro σ H4 ⟨ds,⟨v5,v6,rfl⟩,S4,elw4,L4,sub,oks,pm,z0,z1⟩
   rw [Ci] at sub z0 z1
   have sub2:=sub.trans (List.take_sublist N ws)
   have hl:=sub2.length_le
   rw [List.length_map] at hl
   have e1:(ds.map (·.1.1)).map (·.1)=ds.map (·.1.1.1):=by rw [List.map_map];rfl
   refine .inl (k H4 ls (ds.map (·.1.1)) S4 ⟨ds,rfl,⟨trivial,L4.at_⟩,fun x hx=>⟨⟨trivial,L4.tup x hx⟩,trivial,L4.lst x hx⟩⟩ ⟨?_,?_,?_,?_,?_⟩)
   ·rw [List.length_map]
    exact List.length_pos_iff.mpr (z1 hN.1)
   ·rw [List.length_map];omega
   ·rw [e1];exact ndw.sublist sub2
   ·intro y hy
    obtain⟨x,hx,rfl⟩:=List.mem_map.mp hy
    exact⟨okw _ (sub2.subset (List.mem_map.mpr ⟨x,hx,rfl⟩)),oks x hx⟩
   ·omega
theorem ak0 {f:Addr} {fd:FuncData} (Z:Au K t) (F:FunD K "_law_rows" "_law_rows" J1 f fd .none) (T:Tab P w K mg base 0 (gb_0 K t) bl):FnOk P w K mg base CX0 1 f fd Np (Nd K t):=by
 refine F.okW0 ar7 at5 T (aq5 K t) (fun vs H Q E h=>?_) (fun vs H Q E h=>?_)
 ·obtain⟨l,sw,rfl,_⟩:=h;rfl
 ·obtain⟨l,sw,rfl,⟨ds,ed,⟨_,ol⟩,hd⟩,hw,k⟩:=h
  refine⟨(show 0<=sizeLine by decide),fun r0 h0=>⟨(show 1<=sizeLine by decide),fun l0 hl0=>?_⟩⟩
  have Sr:=Same.upd (o:=.lst []) h0
  have Sl:=Same.upd (o:=.lst [.ref r0]) hl0
  have S0:=Sr.trans Sl
  have er:upd (upd H r0 (.lst [])) l0 (.lst [.ref r0]) r0=some (lstO []):=Sl _ _ Ab
  have el:upd (upd H r0 (.lst [])) l0 (.lst [.ref r0]) l0=some (.lst [.ref r0]):=Ab
  have len:(ds.map fun x=>V.ref x.2).length=sw.length:=by rw [<- ed];simp
  generalize upd (upd H r0 (.lst [])) l0 (.lst [.ref r0])=H0 at S0 er el ⊢
  refine .inl ⟨⟨_,S0.seqL (SqL.of ol)⟩,?_⟩
  have T0:Pz any H0 l0 (Ai (sw.take 0)):=⟨[([],r0)],rfl,⟨trivial,el⟩,fun x hx=>by
   have:x=([],r0):=by simpa using hx
   subst this
   exact⟨trivial,er⟩⟩
  refine B9 (Bl (ds.map fun x=>V.ref x.2)) (fun i σ H'=>(∃ l1 v2 v3 v4 v5 v6,σ=[some (.ref l),some (.ref l1),v2,v3,v4,v5,v6]/\Pz any H' l1 (Ai (sw.take i)))/\Same H0 H') ⟨⟨_,_,_,_,_,_,rfl,T0⟩,Same.refl _⟩ (fun i σ H' _ q=>(S0.trans q.2).seqL (SqL.of ol)) ?_ ?_
  ·rintro i x σ H1 hx ⟨⟨l1,v2,v3,v4,v5,v6,rfl,⟨es,ee,⟨_,el1⟩,he⟩⟩,S1⟩
   obtain⟨⟨⟨e,la⟩,ta⟩,hi,rfl⟩:=Am hx
   have hi2:sw[i]? = some e:=by rw [<- ed,List.getElem?_map,hi];rfl
   obtain⟨⟨_,h1⟩,_,h2⟩:=hd _ (List.mem_of_getElem? hi)
   have S01:=S0.trans S1
   have hoke:=hw.sets e (List.mem_of_getElem? hi2)
   refine⟨_,SqT.of (S01 _ _ h1),rfl,by decide,fun l2 hl2=>.inl ⟨⟨_,(Same.upd hl2).seqL (SqL.of el1)⟩,?_⟩⟩
   have Sl2:=Same.upd (o:=.lst []) hl2
   have lenr:es.length=(Ai (sw.take i)).length:=by rw [<- ee];simp
   have few:(Ai (sw.take i)).length<=256:=by rw [Gh];exact Nat.le_trans (L6 hw i) hw.2.2.2.2
   have rl:∀ r∈Ai (sw.take i),r.length<=100:=fun r hr=>by
    have h1:=(Gj (sw:=sw.take i) (fun x hx=>hw.sets x (List.mem_of_mem_take hx))).2.1 r hr
    rw [h1,List.length_take]
    have:=hw.2.1
    omega
   refine B9 (Bl (es.map fun x=>V.ref x.2)) (fun j σ H'=>(∃ v5 v6,σ=[some (.ref l),some (.ref l1),some (.str e.1),some (.ref la),some (.ref l2),v5,v6])/\Same H1 H' /\ ∃ fs:List (List Str×Addr),fs.map (·.1)=Cm ((Ai (sw.take i)).take j) e /\
     H' l2=some (.lst (fs.map fun x=>.ref x.2)) /\ ∀ x∈fs,x.2≠l2/\H' x.2=some (lstO x.1))
    ⟨⟨_,_,rfl⟩,Sl2,[],rfl,Ab,fun x hx=>by cases hx⟩ (fun j σ H' _ q=>q.2.1.seqL (SqL.of el1)) ?_ ?_
   ·rintro j y σ H2 hy ⟨⟨v5,v6,rfl⟩,S2,fs,efs,e2l,hf⟩
    obtain⟨⟨r,ra⟩,hj,rfl⟩:=Am hy
    have hj2:(Ai (sw.take i))[j]? = some r:=by rw [<- ee,List.getElem?_map,hj];rfl
    obtain⟨_,hra⟩:=he _ (List.mem_of_getElem? hj)
    have rlr:=rl r (List.mem_of_getElem? hj2)
    refine .inl ⟨⟨_,SqL.of ((S01.trans S2) _ _ h2)⟩,?_⟩
    refine B9 (Bl (e.2.map V.str)) (fun m σ H'=>(∃ v6,σ=[some (.ref l),some (.ref l1),some (.str e.1),some (.ref la),some (.ref l2),some (.ref ra),v6])/\Same H1 H' /\ ∃ gs:List (List Str×Addr),gs.map (·.1)=Cm ((Ai (sw.take i)).take j) e++(e.2.take m).map (fun z=>r++[z]) /\
      H' l2=some (.lst (gs.map fun x=>.ref x.2)) /\ ∀ x∈gs,x.2≠l2/\H' x.2=some (lstO x.1))
     ⟨⟨_,rfl⟩,S2,fs,by rw [efs];simp,e2l,hf⟩ (fun m σ H' _ q=>(S01.trans q.2.1).seqL (SqL.of h2)) ?_ ?_
    ·rintro m u σ H3 hu ⟨⟨v6,rfl⟩,S3,gs,egs,e3l,hg⟩
     obtain⟨z,hz,rfl⟩:=Am hu
     refine⟨.inl ⟨rfl,_,SqL.of e3l⟩,(show 1<=sizeLine by decide),fun q hq=>.inl ⟨ra,q,_,_,rfl,rfl,(Same.upd hq) _ _ (S3 _ _ hra),Ab,?_,fun u hu=>?_⟩⟩
     ·rw [List.length_map]
      exact Nat.le_trans (show r.length+1<=101 by omega) (by decide)
     have Sq:=Same.upd (o:=.lst [.str z]) hq
     have Su:=Same.upd (o:=.lst (r.map V.str++[.str z])) hu
     have eu:upd (upd H3 q (.lst [.str z])) u (.lst (r.map V.str++[.str z])) u=some (lstO (r++[z])):=by rw [Ab,lstO,List.map_append];rfl
     have S34:=Sq.trans Su
     have nul:u≠l2:=(Ae (Sq _ _ e3l) hu).symm
     generalize upd (upd H3 q (.lst [.str z])) u (.lst (r.map V.str++[.str z]))=H4 at S34 eu ⊢
     have e4l:=S34 _ _ e3l
     have lg:gs.length<=2000:=by
      have:=congrArg List.length egs
      rw [List.length_map,List.length_append,Hg,List.length_map,List.length_take,List.length_take] at this
      have h4:=hoke.2.2
      have:min j (Ai (sw.take i)).length * e.2.length<=256 * 4:=Nat.mul_le_mul (by omega) h4
      omega
     refine⟨l2,_,_,rfl,rfl,e4l,by rw [List.length_map];exact Nat.lt_of_le_of_lt lg (by decide),⟨_,rfl⟩,(S3.trans S34).set hl2,gs++[(r++[z],u)],?_,?_,?_⟩
     ·rw [List.map_append,egs,C6 hz,List.append_assoc];rfl
     ·rw [Ab,List.map_append];rfl
     ·intro x hx
      rcases List.mem_append.mp hx with hx|hx
      ·exact⟨(hg x hx).1,by rw [Af (hg x hx).1];exact S34 _ _ (hg x hx).2⟩
      ·have:x=(r++[z],u):=by simpa using hx
       subst this
       exact⟨nul,by rw [Af nul];exact eu⟩
    ·rintro σ H3 ⟨⟨v6,rfl⟩,S3,gs,egs,e3l,hg⟩
     rw [List.length_map,List.take_length,<- L9 hj2] at egs
     exact .inl ⟨⟨_,_,rfl⟩,S3,gs,egs,e3l,hg⟩
   ·rintro σ H2 ⟨⟨v5,v6,rfl⟩,S2,fs,efs,e2l,hf⟩
    rw [List.length_map,lenr,List.take_length] at efs
    refine .inl ⟨⟨_,_,_,_,_,_,rfl,fs,?_,⟨trivial,e2l⟩,fun x hx=>⟨trivial,(hf x hx).2⟩⟩,S1.trans S2⟩
    rw [efs]
    exact (Da hi2 _ _).symm
  ·rintro σ H1 ⟨⟨l1,v2,v3,v4,v5,v6,rfl,T1⟩,S1⟩
   rw [len,List.take_length] at T1
   exact .inl (k _ l1 (S0.trans S1) T1)
theorem Xb (z:Str) (l:List Str):inV (.str z) (l.map V.str)=decide (z∈l):=by
 unfold inV
 rw [List.any_map,Bool.eq_iff_iff,decide_eq_true_iff,List.any_eq_true]
 constructor
 ·rintro⟨y,hy,e⟩
  have e:(y==z)=true:=e
  rw [<- eq_of_beq e]
  exact hy
 ·intro h
  exact⟨z,h,beq_self_eq_true z⟩
theorem ai7 {sw:Sw} {n:Nat} {e:Str×List Str} {z:Str} (h:((Ai sw)[n]?.bind fun r=>r[Cu sw e.1]?)=some z):hitB sw n e=decide (z∈e.2):=by
 unfold hitB hasB
 rw [h,Bool.eq_iff_iff,decide_eq_true_iff,List.any_eq_true]
 constructor
 ·rintro⟨y,hy,q⟩
  have q:some z=some y:=by simpa using q
  rw [Option.some.inj q]
  exact hy
 ·exact fun hz=>⟨z,hz,by simp⟩
theorem Z6 {sw:Sw} {n i:Nat} {r:List Str} {x e:Str×List Str} {z:Str} (nd:(sw.map (·.1)).Nodup) (hn:(Ai sw)[n]? = some r) (hi:sw[i]? = some x) (ee:e.1=x.1) (hz:r[i]? = some z):hitB sw n e=decide (z∈e.2):=by
 refine ai7 ?_
 rw [ee,Gf hi nd,hn]
 exact hz
theorem Tk {sw:Sw} {n:Nat} {r:List Str} (hw:okSw sw) (hn:(Ai sw)[n]? = some r):r.length=sw.length:=(Gj hw.sets).2.1 r (List.mem_of_getElem? hn)
theorem aj8 {f:Addr} {fd:FuncData} (Z:Au K t) (F:FunD K "_law_hits" "_law_hits" Jz f fd .none) (T:Tab P w K mg base 0 (gb_0 K t) bl):FnOk P w K mg base CX0 1 f fd Nm (Nc K t):=by
 refine F.okW0 ar5 at3 T (aq3 K t) (fun vs H Q E h=>?_) (fun vs H Q E h=>?_)
 ·obtain⟨d,l,a,n,r,sw,rule,rfl,_⟩:=h;rfl
 ·obtain⟨d,l,a,n,r,sw,rule,rfl,⟨es,ee,⟨_,od⟩,he⟩,⟨ds,ed,⟨_,ol⟩,hd⟩,hw,hb,ha,hn,k⟩:=h
  have nds:=hw.2.2.1
  have len:ds.length=sw.length:=by rw [<- ed];simp
  refine .inl ⟨⟨_,SqL.of ol⟩,?_⟩
  refine Gc (Fh (ds.map fun x=>V.ref x.2)) (fun i σ H'=>(∃ v3 v4,σ=[some (.ref d),some (.ref l),some (.ref a),v3,v4])/\Same H H' /\ ∀ (j:Nat) x e,j<i->sw[j]? = some x->e∈rule->e.1=x.1->hitB sw n e=true) ⟨⟨_,_,rfl⟩,Same.refl _,fun j x e hj=>by omega⟩ (fun i σ H' _ q=>q.2.1.seqL (SqL.of ol)) ?_ ?_
  ·rintro i x y T σ H1 hx hT ⟨⟨v3,v4,rfl⟩,S1,pre⟩
   obtain⟨⟨⟨x',la⟩,ta⟩,hi,rfl,rfl⟩:=Ib hx
   have hi2:sw[i]? = some x':=by rw [<- ed,List.getElem?_map,hi];rfl
   obtain⟨⟨_,h1⟩,_,h2⟩:=hd _ (List.mem_of_getElem? hi)
   have ST:=Same.upd (o:=.tup [.int (i:Int),.ref ta]) hT
   refine⟨_,SqT.of Ab,rfl,?_⟩
   have S2:=S1.trans ST
   generalize upd H1 T (.tup [.int (i:Int),.ref ta])=H2 at S2 ⊢
   have qt:=SqT.of (K:=K) (S2 _ _ h1)
   refine⟨_,.str x'.1,.inr qt,rfl,.inr ⟨_,DGet.k (k:=.inr x'.1) (S2 _ _ od),?_⟩⟩
   by_cases hin:x'.1∈rule.map (·.1)
   ·obtain⟨e,hee,en⟩:=List.mem_map.mp hin
    rw [<- ee] at hee
    obtain⟨⟨e',le⟩,hes,rfl⟩:=List.mem_map.mp hee
    obtain⟨j,hj⟩:=List.mem_iff_getElem?.mp hes
    have hv:valV (es.map kR) (.inr x'.1)=some (.ref le):=by
     rw [<- en]
     exact Cj (Ef ee hb.2.1) (by rw [List.getElem?_map,hj];rfl)
    rw [hv]
    have hir:i<r.length:=by rw [Tk hw hn];exact Aj hi2
    have hz:r[i]? = some r[i]:=List.getElem?_eq_getElem hir
    have hh:=Z6 (e:=e') nds hn hi2 en hz
    have el:=S2 _ _ (he _ hes).2
    refine⟨_,.str r[i],.inl (SqL.of (S2 _ _ ha)),Bs (j:=i) (by rw [List.getElem?_map,hz];rfl),_,.str x'.1,.inr qt,rfl,.ref le,.inl ⟨_,.inr x'.1,.inl (S2 _ _ od),rfl,hv.symm⟩,.inl ⟨le,_,rfl,.inl (SqL.of el),rfl,Gx _,?_⟩⟩
    rw [Xb,<- hh]
    have em:e'∈rule:=by rw [<- ee];exact hee
    cases hc:hitB sw n e' with
    | true=>
     refine⟨⟨_,_,rfl⟩,S2,fun j x e hj hx2 hm en2=>?_⟩
     by_cases ej:j=i
     ·subst ej
      rw [hi2] at hx2
      cases hx2
      have:e=e':=by
       obtain⟨a1,q1⟩:=List.mem_iff_getElem?.mp hm
       obtain⟨a2,q2⟩:=List.mem_iff_getElem?.mp em
       have l1:=Aj q1
       have l2:=Aj q2
       rw [List.getElem?_eq_getElem l1] at q1
       rw [List.getElem?_eq_getElem l2] at q2
       have:=(List.getElem_inj (i:=a1) (j:=a2) (h₀:=by rw [List.length_map];exact l1) (h₁:=by rw [List.length_map];exact l2) hb.2.1).mp (by rw [List.getElem_map,List.getElem_map,Option.some.inj q1,Option.some.inj q2,en2,en])
       subst this
       exact (Option.some.inj q1).symm.trans (Option.some.inj q2)
      rw [this];exact hc
     ·exact pre j x e (by omega) hx2 hm en2
    | false=>
     have nb:inB sw rule n=false:=by
      unfold inB
      rw [List.all_eq_false]
      exact⟨e',em,by rw [hc];decide⟩
     have:=k H2 S2
     rw [nb] at this
     exact this
   ·have hv:valV (es.map kR) (.inr x'.1)=none:=by
     refine B0 fun q=>hin ?_
     rw [Ed,ee] at q
     obtain⟨y,hy,e⟩:=List.mem_map.mp q
     cases e
     exact hy
    rw [hv]
    refine⟨⟨_,_,rfl⟩,S2,fun j x e hj hx2 hm en2=>?_⟩
    by_cases ej:j=i
    ·subst ej
     rw [hi2] at hx2
     cases hx2
     exact absurd (List.mem_map.mpr ⟨e,hm,en2⟩) hin
    ·exact pre j x e (by omega) hx2 hm en2
  ·rintro σ H1 ⟨⟨v3,v4,rfl⟩,S1,pre⟩
   rw [Ba,List.length_map,len] at pre
   have yes:inB sw rule n=true:=by
    unfold inB
    rw [List.all_eq_true]
    intro e hm
    obtain⟨_,_,x,hx,ex,_⟩:=hb.2.2 e hm
    obtain⟨j,hj⟩:=List.mem_iff_getElem?.mp hx
    exact pre j x e (Aj hj) hj hm ex.symm
   have:=k H1 S1
   rw [yes] at this
   exact .inl this
def Lz (n:Int) (ss:List Str) (m:Nat):List Str:=(List.range m).filterMap fun k=>if Builtin.bitAnd (n / 3 / 2 ^ k) 1=1 then ss[k]? else none
theorem G9 {n:Int} {ss:List Str} {m:Nat} {z:Str} (h:ss[m]? = some z):Lz n ss (m+1)=Lz n ss m++(if Builtin.bitAnd (n / 3 / 2 ^ m) 1=1 then [z] else []):=by
 unfold Lz
 rw [List.range_succ,List.filterMap_append]
 congr 1
 rw [List.filterMap_cons,List.filterMap_nil]
 by_cases hb:Builtin.bitAnd (n / 3 / 2 ^ m) 1=1
 ·rw [if_pos hb,if_pos hb,h]
 ·rw [if_neg hb,if_neg hb]
theorem Jt (n:Int) (ss:List Str):∀ m,m<=ss.length->(Lz n ss m).Sublist (ss.take m)
 | 0,_=>List.Sublist.refl _
 | m+1,h=>by
  have hm:ss[m]? = some ss[m]:=List.getElem?_eq_getElem (by omega)
  rw [G9 hm,List.take_add_one,hm]
  refine (Jt n ss m (by omega)).append ?_
  split
  ·exact List.Sublist.refl _
  ·exact List.nil_sublist _
theorem Vg (n:Int) (ss:List Str):(E4 n ss).Sublist ss:=by
 have:=Jt n ss ss.length (Nat.le_refl _)
 rwa [List.take_length] at this
theorem Fs {c:Int} {sw:Sw} {j:Nat} {x:Str×List Str} (h:sw[j]? = some x):Em c sw (j+1)=Em c sw j++(entF c j x).toList:=by
 unfold Em
 rw [List.range_succ,List.filterMap_append]
 congr 1
 rw [List.filterMap_cons,List.filterMap_nil,h,Option.bind_some]
 cases entF c j x <;> rfl
theorem Wo {c:Int} {j:Nat} {x e:Str×List Str} (h:entF c j x=some e):e.1=x.1/\e.2≠[]/\e.2.Sublist x.2:=by
 unfold entF at h
 split at h
 ·rename_i hh
  cases h
  exact⟨rfl,hh.2,Vg _ _⟩
 ·cases h
theorem Dn (c:Int) (sw:Sw):∀ j,j<=sw.length->((Em c sw j).map (·.1)).Sublist ((sw.take j).map (·.1))
 | 0,_=>List.Sublist.refl _
 | j+1,h=>by
  have hj:sw[j]? = some sw[j]:=List.getElem?_eq_getElem (by omega)
  rw [Fs hj,List.take_add_one,hj,List.map_append,List.map_append]
  refine (Dn c sw j (by omega)).append ?_
  cases e:entF c j sw[j] with
  | none=>exact List.nil_sublist _
  | some q=>
   show [q.1].Sublist [sw[j].1]
   rw [(Wo e).1]
   exact List.Sublist.refl _
theorem Vs {c:Int} {sw:Sw} {j:Nat} {e:Str×List Str} (h:e∈Em c sw j):∃ i x,sw[i]? = some x/\entF c i x=some e:=by
 unfold Em at h
 obtain⟨i,_,q⟩:=List.mem_filterMap.mp h
 cases hx:sw[i]? with
 | none=>rw [hx] at q;cases q
 | some x=>rw [hx] at q;exact⟨i,x,hx,q⟩
theorem ai3 {sw:Sw} {x e:Str×List Str} (hw:okSw sw) (hx:x∈sw) (h:e.1=x.1/\e.2≠[]/\e.2.Sublist x.2):B1 sw e:=by
 have ox:=hw.sets x hx
 refine⟨h.2.1,⟨fun z hz=>ox.1.1 z (h.2.2.subset hz),ox.1.2.1.sublist h.2.2,?_⟩,x,hx,h.1.symm,fun z hz=>h.2.2.subset hz⟩
 have:=h.2.2.length_le
 have:=ox.2.2
 omega
theorem Wq {xs:List V} {i:Nat} {x y:V} (h:(Dr 0 xs)[i]? = some (x,y)):x=.int (i:Int)/\xs[i]? = some y:=by
 have hi:=Aj h
 rw [Ba] at hi
 have:=Cn (k:=0) (List.getElem?_eq_getElem hi)
 rw [h,Nat.zero_add] at this
 cases this
 exact⟨rfl,List.getElem?_eq_getElem hi⟩
theorem Zf {sw:Sw} (hw:okSw sw) (c:Int):So sw (Nj c sw):=by
 have s:=Dn c sw sw.length (Nat.le_refl _)
 rw [List.take_length] at s
 refine⟨?_,hw.2.2.1.sublist s,fun e he=>?_⟩
 ·have:=s.length_le
  rw [List.length_map,List.length_map] at this
  have:=hw.2.1
  unfold Nj
  omega
 ·obtain⟨i,x,hx,q⟩:=Vs he
  exact ai3 hw (List.mem_of_getElem? hx) (Wo q)
theorem ay4 {f:Addr} {fd:FuncData} (Z:Au K t) (F:FunD K "_law_terms" "_law_terms" s_zz f fd .none) (T:Tab P w K mg base 1 (gb_1 K t) bl):FnOk P w K mg base CX0 2 f fd P_zz (Y8 K t):=by
 refine F.okW0 a57 ba0 T (a31 K t) (fun vs H Q E h=>?_) (fun vs H Q E h=>?_)
 ·obtain⟨c,l,sw,rfl,_⟩:=h;rfl
 ·obtain⟨c,l,sw,rfl,⟨ds,ed,⟨_,ol⟩,hd⟩,hw,k⟩:=h
  have len:ds.length=sw.length:=by rw [<- ed];simp
  have l5:=hw.2.1
  intro d hd0
  refine .inl (.inl ⟨⟨_,(Same.upd hd0).seqL (SqL.of ol)⟩,?_⟩)
  have S0:=Same.upd (o:=.dK []) hd0
  have e0:upd H d (.dK []) d=some (.dK []):=Ab
  show ForW (Ite K l) _ _ _ [some (.int c),some (.ref l),some (.ref d),none,none,none,none] (upd H d (.dK []))
  generalize upd H d (.dK [])=H0 at S0 e0 ⊢
  refine Gc (Fh (ds.map fun x=>V.ref x.2)) (fun i σ H'=>(∃ v3 v4 v5 v6,σ=[some (.int c),some (.ref l),some (.ref d),v3,v4,v5,v6])/\Same H H' /\ ∃ es:List ((Str×List Str)×Addr),es.map (·.1)=Em c sw i/\H' d=some (.dK (es.map kR))/\(∀ x∈es,H x.2=none/\H' x.2=some (lstO x.1.2))/\(es.map (·.2)).Nodup)
   ⟨⟨_,_,_,_,rfl⟩,S0,[],rfl,e0,(fun x hx=>by cases hx),List.nodup_nil⟩ (fun i σ H' _ q=>q.2.1.seqL (SqL.of ol)) ?_ ?_
  ·rintro i x y T σ H1 hx hT ⟨⟨v3,v4,v5,v6,rfl⟩,S1,es,ee,e1,he,nd⟩
   obtain⟨⟨⟨x',la⟩,ta⟩,hi,rfl,rfl⟩:=Ib hx
   have hi2:sw[i]? = some x':=by rw [<- ed,List.getElem?_map,hi];rfl
   have il:=Aj hi2
   obtain⟨⟨_,h1⟩,_,h2⟩:=hd _ (List.mem_of_getElem? hi)
   have h2:H la=some (lstO x'.2):=h2
   have o4:=(hw.sets x' (List.mem_of_getElem? hi2)).2.2
   have ST:=Same.upd (o:=.tup [.int (i:Int),.ref ta]) hT
   refine⟨_,SqT.of Ab,rfl,?_⟩
   generalize upd H1 T (.tup [.int (i:Int),.ref ta])=H2 at ST ⊢
   refine⟨c,10+(i:Int),rfl,by omega,by omega,fun H3 S3=>?_⟩
   have S13:=ST.trans S3
   have S03:=S1.trans S13
   have hent:entF c i x'=if mixF c (10+(i:Int)) % 3=0/\E4 (mixF c (10+(i:Int))) x'.2≠[] then some (x'.1,E4 (mixF c (10+(i:Int))) x'.2) else none:=rfl
   generalize mixF c (10+(i:Int))=N at hent ⊢
   refine⟨_,.ref la,.inr (SqT.of (S03 _ _ h1)),rfl,.inl ⟨⟨_,SqL.of (S03 _ _ h2)⟩,fun D hD=>?_⟩⟩
   refine Rs (Fh (x'.2.map V.str)) (fun m σ H'=>(∃ v0 v1,σ=[v0,v1,some (.int N)])/\Same H3 H'/\H' D=some (lstO (Lz N x'.2 m))) ⟨⟨_,_,rfl⟩,Same.upd hD,Ab⟩ (fun m σ H' _ q=>(S03.trans q.2.1).seqL (SqL.of h2)) ?_ ?_
   ·rintro m u y T2 σ H4 hx4 hT2 ⟨⟨v0,v1,rfl⟩,S4,eD⟩
    obtain⟨rfl,hy⟩:=Wq hx4
    obtain⟨z,hz,rfl⟩:=Am hy
    have ST2:=Same.upd (o:=.tup [.int (m:Int),.str z]) hT2
    refine⟨_,SqT.of Ab,rfl,⟨by decide,by decide⟩,by omega,?_⟩
    have ml:=Aj hz
    have pl:(Lz N x'.2 m).length<=4:=by
     have:=(Jt N x'.2 m (by omega)).length_le
     rw [List.length_take] at this
     omega
    by_cases hb:Builtin.bitAnd (N / 3 / 2 ^ m) 1=1
    ·refine Di (decide_eq_true (by rw [Int.toNat_natCast];exact hb)) ?_
     refine⟨_,ST2 _ _ eD,by rw [List.length_map];exact Nat.lt_of_le_of_lt pl (by decide),⟨_,_,rfl⟩,(S4.trans ST2).set hD,?_⟩
     rw [Ab,lstO,G9 hz,if_pos hb,List.map_append];rfl
    ·refine Dh (decide_eq_false (by rw [Int.toNat_natCast];exact hb)) ?_
     refine⟨⟨_,_,rfl⟩,S4.trans ST2,?_⟩
     rw [G9 hz,if_neg hb,List.append_nil]
     exact ST2 _ _ eD
   ·rintro σ H4 ⟨_,S4,eD⟩
    rw [Ba,List.length_map] at eD
    have eD:H4 D=some (lstO (E4 N x'.2)):=eD
    have S14:=S13.trans S4
    have S04:=S1.trans S14
    have fD:H D=none:=S03.free hD
    have stay:∀ H5,Same H1 H5->entF c i x'=none->(∃ v3 v4 v5 v6,[some (V.int c),some (.ref l),some (.ref d),some (.int (i:Int)),some (.ref ta),some (.int N),some (.ref D)]=[some (.int c),some (.ref l),some (.ref d),v3,v4,v5,v6])/\Same H H5 /\ ∃ es:List ((Str×List Str)×Addr),es.map (·.1)=Em c sw (i+1)/\H5 d=some (.dK (es.map kR))/\(∀ x∈es,H x.2=none/\H5 x.2=some (lstO x.1.2))/\(es.map (·.2)).Nodup:=fun H5 S5 hn=>
     ⟨⟨_,_,_,_,rfl⟩,S1.trans S5,es,by rw [Fs hi2,hn,ee];simp,S5 _ _ e1,fun x hx=>⟨(he x hx).1,S5 _ _ (he x hx).2⟩,nd⟩
    refine⟨by decide,?_⟩
    by_cases h3:N % 3=0
    ·refine Di (decide_eq_true h3) ?_
     refine⟨(show 0<=sizeLine by decide),fun q hq=>.inl ⟨D,q,_,_,rfl,rfl,SqL.of ((Same.upd hq) _ _ eD),SqL.of Ab,Gx _,rfl,?_⟩⟩
     have Sq:=Same.upd (o:=.lst []) hq
     generalize upd H4 q (.lst [])=H5 at Sq ⊢
     have S15:=S14.trans Sq
     by_cases hp:E4 N x'.2=[]
     ·rw [hp]
      exact stay H5 S15 (by rw [hent,if_neg (fun z=>z.2 hp)])
     ·refine Di (by rw [Gb (by rw [List.length_map];intro z;exact hp (List.length_eq_zero_iff.mp z))];rfl) ?_
      have hs:entF c i x'=some (x'.1,E4 N x'.2):=by rw [hent,if_pos ⟨h3,hp⟩]
      have nk:valV (es.map kR) (.inr x'.1)=none:=by
       refine B0 fun q=>?_
       rw [Ed,ee] at q
       obtain⟨y,hy,e⟩:=List.mem_map.mp q
       cases e
       have hm:=(Dn c sw i (by omega)).subset hy
       rw [List.map_take] at hm
       exact Kb hw.2.2.1 (show (sw.map (·.1))[i]? = some x'.1 by rw [List.getElem?_map,hi2];rfl) hm
      have el:es.length<=5:=by
       have:=(Dn c sw i (by omega)).length_le
       rw [<- ee,List.length_map,List.length_map,List.length_map,List.length_take] at this
       omega
      have e5D:=Sq _ _ eD
      have ndD:d≠D:=Ae (S13 _ _ e1) hD
      refine⟨_,_,.inr (SqT.of ((S1.trans S15) _ _ h1)),rfl,_,DPut.k (k:=.inr x'.1) (S15 _ _ e1) (by rw [List.length_map];exact Nat.lt_of_le_of_lt el (by decide)),?_⟩
      rw [Ii (e:=(x'.1,E4 N x'.2)) nk]
      refine⟨⟨_,_,_,_,rfl⟩,(S1.trans S15).set hd0,es++[((x'.1,E4 N x'.2),D)],?_,Ab,fun x hx=>?_,?_⟩
      ·rw [List.map_append,ee,Fs hi2,hs];rfl
      ·rcases List.mem_append.mp hx with hx|hx
       ·obtain⟨a1,a2⟩:=he x hx
        exact⟨a1,by rw [Af (fun z=>by rw [z,e1] at a2;cases a2)];exact S15 _ _ a2⟩
       ·have:x=((x'.1,E4 N x'.2),D):=by simpa using hx
        subst this
        exact⟨fD,by rw [Af (Ne.symm ndD)];exact e5D⟩
      ·rw [List.map_append]
       refine List.nodup_append.mpr ⟨nd,by simp,fun a ha b hb e=>?_⟩
       have:b=D:=by simpa using hb
       obtain⟨x,hx,rfl⟩:=List.mem_map.mp ha
       have:=S13 _ _ (he x hx).2
       rw [e,‹b=D›,hD] at this
       cases this
    ·refine Dh (decide_eq_false h3) ?_
     exact stay H4 S14 (by rw [hent,if_neg (fun z=>h3 z.1)])
  ·rintro σ H1 ⟨⟨v3,v4,v5,v6,rfl⟩,S1,es,ee,e1,he,nd⟩
   rw [Ba,List.length_map,len] at ee
   exact .inl (k H1 d S1 ⟨es,ee,⟨hd0,e1⟩,he,nd⟩)
theorem K7:∀ r:List Str,deps (r.map strD)=0
 | []=>rfl
 | z::r=>by rw [List.map_cons,deps,K7 r];rfl
def Vz (sw:Sw) (rules:List Sw) (H:Hp) (a:Addr) (ls:List (Nat×Addr)):Prop:=H a=some (.lst (ls.map fun x=>.ref x.2)) /\ ∀ x∈ls,∃ row,(Ai sw)[x.1]? = some row/\H x.2=some (lstO row) /\ ∀ r∈rules,inB sw r x.1=false
theorem Fo {sw:Sw} {rules:List Sw} {H:Hp}:∀ {ls:List (Nat×Addr)},(∀ x∈ls,∃ row,(Ai sw)[x.1]? = some row/\H x.2=some (lstO row) /\ ∀ r∈rules,inB sw r x.1=false) -> ∃ ds,AtL K H ds (ls.map fun x=>V.ref x.2)/\ds.length=ls.length/\deps ds<=1
 | [],_=>⟨[],Bb,rfl,by decide⟩
 | x::ls,h=>by
  obtain⟨row,_,e,_⟩:=h x List.mem_cons_self
  obtain⟨ds,a,b,c⟩:=Fo fun y hy=>h y (List.mem_cons_of_mem _ hy)
  refine⟨.lst (row.map strD)::ds,Av (C2 (SqL.of e)) a,by rw [List.length_cons,List.length_cons,b],?_⟩
  have d1:dep (.lst (row.map strD))=1:=by rw [dep,K7]
  rw [deps,d1]
  exact Nat.max_le.mpr ⟨Nat.le_refl _,c⟩
theorem ar2 {sw:Sw} {n:Nat} {row:List Str} (hw:okSw sw) (h:(Ai sw)[n]? = some row):row≠[]:=fun e=>by
 have:=Tk hw h
 rw [e] at this
 have:=hw.1
 simp at *
 omega
theorem Ov {α:Type} {row:List Str} {gs:List (α×Addr)} (h:row≠[]):(lstO row)≠.lst (gs.map fun x=>V.ref x.2):=fun e=>by
 cases row with
 | nil=>exact h rfl
 | cons z r=>
  cases gs with
  | nil=>simp [lstO] at e
  | cons g gs=>
   simp only [lstO,List.map_cons] at e
   injection e with e
   injection e with e _
   cases e
theorem Ul {sw:Sw} {rules:List Sw} {n:Nat} (hn:n<(Ai sw).length) (h:∀ r∈rules,inB sw r n=false):Cz sw rules≠0:=by
 have bit:(Ja sw rules).testBit n=true:=by
  rw [G0,decide_eq_true hn,Bool.true_and]
  have:(rules.any fun r=>(boxN sw r).testBit n)=false:=by
   rw [List.any_eq_false]
   intro r hr
   rw [Iu,decide_eq_true hn,Bool.true_and]
   have:=h r hr
   unfold inB at this
   rw [show (r.all fun e=>e.2.any fun z=>hasB (Ai sw) (Cu sw e.1) z n)=r.all (hitB sw n) from rfl,this]
   decide
  rw [this]
  rfl
 rw [Gz]
 intro q
 have q:Ja sw rules=0:=by omega
 rw [q,Nat.zero_testBit] at bit
 cases bit
theorem RuleNd.ruleAt {ok:Addr->Prop} {H:Hp} {d:Addr} {rule:Sw} (h:RuleNd ok H d rule):RuleAt ok H d rule:=by
 obtain⟨ds,a,b,c,_⟩:=h
 exact⟨ds,a,b,c⟩
theorem K9 {α:Type} {l:List α} {m:Nat} {x:α} {p:α->Bool} (h:l[m]? = some x):(l.take (m+1)).filter p=(l.take m).filter p++(if p x=true then [x] else []):=by
 rw [List.take_add_one,h,Option.toList_some,List.filter_append]
 congr 1
 cases e:p x <;> simp [e]
theorem ay3 {f:Addr} {fd:FuncData} (Z:Au K t) (F:FunD K "_law_rules" "_law_rules" s_zy f fd .none) (T:Tab P w K mg base 2 (gb_2 K t) bl):FnOk P w K mg base CX0 3 f fd P_zy (Y7 K t):=by
 refine F.okW0 a56 a99 T (a30 K t) (fun vs H Q E h=>?_) (fun vs H Q E h=>?_)
 ·obtain⟨c,l,sw,rfl,_⟩:=h;rfl
 ·obtain⟨c,l,sw,rfl,hsw,hw,k⟩:=h
  refine⟨(show 0<=sizeLine by decide),fun kk hkk=>?_⟩
  have S0:=Same.upd (o:=.lst []) hkk
  have ek0:upd H kk (.lst []) kk=some (.lst []):=Ab
  generalize upd H kk (.lst [])=H0 at S0 ek0 ⊢
  refine⟨l,sw,rfl,hsw.mono (Kp.same S0),hw,fun H1 r S1 ⟨rs,er,⟨_,orr⟩,hr⟩=>?_⟩
  refine⟨c,1,rfl,by decide,by decide,fun H2 S2=>⟨by decide,?_⟩⟩
  have S02:=S0.trans (S1.trans S2)
  have hM:0<=mixF c 1 % 4/\mixF c 1 % 4<4:=by omega
  refine⟨⟨by omega,by omega⟩,?_⟩
  have few:=hw.len
  have pos:=hw.pos
  refine B9 (D8 0 (mixF c 1 % 4).toNat) (fun i σ H'=>∃ (gs:List (Sw×Addr)) (ls:List (Nat×Addr)) (lf:Addr),(∃ v4 v5 v6,σ=[some (.int c),some (.ref l),some (.ref kk),some (.ref lf),v4,v5,v6])/\Same H H'/\H' kk=some (.lst (gs.map fun x=>.ref x.2))/\(∀ x∈gs,RuleAt (fun a=>H a=none/\a≠kk) H' x.2 x.1)/\(∀ r∈gs.map (·.1),Dc sw r)/\gs.length<=i /\
    Vz sw (gs.map (·.1)) H' lf ls/\ls≠[]/\ls.length<=256) ?_ (fun _ _ _ _ _=>True.intro) ?_ ?_
  ·refine⟨[],(List.range (Ai sw).length).zip (rs.map (·.2)),r,⟨_,_,_,rfl⟩,S02,(S1.trans S2) _ _ ek0,(fun x hx=>by cases hx),(fun x hx=>by cases hx),Nat.le_refl _,⟨?_,fun x hx=>?_⟩,?_,?_⟩
   ·have lr:rs.length=(Ai sw).length:=by rw [<- er,List.length_map]
    rw [S2 _ _ orr]
    have e2:((List.range (Ai sw).length).zip (rs.map (·.2))).map (·.2)=rs.map (·.2):=List.map_snd_zip (by rw [List.length_map,List.length_range];omega)
    have:(((List.range (Ai sw).length).zip (rs.map (·.2))).map fun x=>V.ref x.2)=rs.map fun x=>V.ref x.2:=by
     rw [show (((List.range (Ai sw).length).zip (rs.map (·.2))).map fun x=>V.ref x.2)=(((List.range (Ai sw).length).zip (rs.map (·.2))).map (·.2)).map V.ref by rw [List.map_map];rfl,e2,List.map_map]
     rfl
    rw [this]
   ·obtain⟨j,hj,e⟩:=List.mem_iff_getElem.mp hx
    have e2:((List.range (Ai sw).length).zip (rs.map (·.2)))[j]? = some x:=by rw [List.getElem?_eq_getElem hj,e]
    obtain⟨x1,x2⟩:=x
    rw [List.getElem?_zip_eq_some] at e2
    obtain⟨e3,e4⟩:=e2
    obtain⟨⟨row,ra⟩,hra,rfl⟩:=Am e4
    have:x1=j:=by
     have hl:=Aj e3
     rw [List.getElem?_eq_getElem hl,List.getElem_range] at e3
     exact (Option.some.inj e3).symm
    subst this
    exact⟨row,by rw [<- er,List.getElem?_map,hra];rfl,S2 _ _ (hr _ (List.mem_of_getElem? hra)).2,fun r hr=>by cases hr⟩
   ·intro e
    have:=congrArg List.length e
    rw [List.length_zip,List.length_range,List.length_map,List.length_nil] at this
    have lr:rs.length=(Ai sw).length:=by rw [<- er,List.length_map]
    omega
   ·rw [List.length_zip,List.length_range];omega
  ·rintro i x σ H3 hx ⟨gs,ls,lf,⟨v4,v5,v6,rfl⟩,S3,ek,hg,okg,gl,⟨elf,hls⟩,lne,l256⟩
   obtain⟨hi,rfl⟩:=Hc hx
   refine⟨.inl ⟨by decide,by decide⟩,c+101 * (i:Int),l,sw,rfl,hsw.mono (Kp.same S3),hw,fun H4 d S4 R4=>?_⟩
   have hb:=Zf hw (c+101 * (i:Int))
   generalize Nj (c+101 * (i:Int)) sw=rule at R4 hb
   obtain⟨es,ee,⟨fd,od⟩,he,nd⟩:=id R4
   have S04:=S3.trans S4
   refine .inl ⟨⟨_,SqL.of (S4 _ _ elf)⟩,fun D hD=>?_⟩
   refine C7 (Bl (ls.map fun x=>V.ref x.2)) (fun m σ H'=>(∃ v,σ=[v,some (.ref d),some (.ref l)])/\Same H4 H'/\H' D=some (.lst (((ls.take m).filter fun x=>!inB sw rule x.1).map fun x=>.ref x.2))) ⟨⟨_,rfl⟩,Same.upd hD,Ab⟩ (fun m σ H' _ q=>(S4.trans q.2.1).seqL (SqL.of elf)) ?_ ?_
   ·rintro m x σ H5 hx5 ⟨⟨v,rfl⟩,S5,eD⟩
    obtain⟨⟨n,ra⟩,hm,rfl⟩:=Am hx5
    obtain⟨row,hrow,era,_⟩:=hls _ (List.mem_of_getElem? hm)
    have S45:=S4.trans S5
    refine⟨d,l,ra,n,row,sw,rule,rfl,R4.ruleAt.mono ((Kp.same S5).trans Kp.any),hsw.mono (Kp.same (S3.trans S45)),hw,hb,S45 _ _ era,hrow,fun H6 S6=>?_⟩
    have fs:=K9 (p:=fun x:Nat×Addr=>!inB sw rule x.1) hm
    cases hc:inB sw rule n with
    | true=>
     have hc':(!inB sw rule (n,ra).1)=false:=by show (!inB sw rule n)=false;rw [hc];rfl
     rw [hc',if_neg Bool.false_ne_true,List.append_nil] at fs
     exact⟨⟨_,rfl⟩,S5.trans S6,by rw [fs];exact S6 _ _ eD⟩
    | false=>
     have hc':(!inB sw rule (n,ra).1)=true:=by show (!inB sw rule n)=true;rw [hc];rfl
     rw [hc',if_pos rfl] at fs
     refine⟨_,S6 _ _ eD,?_,⟨_,rfl⟩,(S5.trans S6).set hD,?_⟩
     ·rw [List.length_map]
      have:=List.length_filter_le (fun x:Nat×Addr=>!inB sw rule x.1) (ls.take m)
      rw [List.length_take] at this
      exact Nat.lt_of_le_of_lt (show _<=256 by omega) (by decide)
     ·rw [Ab,fs,List.map_append];rfl
   ·rintro σ H5 ⟨_,S5,eD⟩
    rw [List.length_map,List.take_length] at eD
    have S45:=S4.trans S5
    have S05:=S3.trans S45
    have hle:=List.length_filter_le (fun x:Nat×Addr=>!inB sw rule x.1) ls
    have hms:∀ x∈ls.filter (fun x=>!inB sw rule x.1),∃ row,(Ai sw)[x.1]? = some row/\H5 x.2=some (lstO row) /\ ∀ r∈gs.map (·.1)++[rule],inB sw r x.1=false:=fun x hx=>by
     obtain⟨hx1,hx2⟩:=List.mem_filter.mp hx
     obtain⟨row,a1,a2,a3⟩:=hls x hx1
     refine⟨row,a1,S45 _ _ a2,fun r hr=>?_⟩
     rcases List.mem_append.mp hr with h|h
     ·exact a3 r h
     ·have:r=rule:=by simpa using h
      rw [this];simpa using hx2
    generalize ls.filter (fun x=>!inB sw rule x.1)=ms at eD hle hms
    have stay:∀ H6,Same H5 H6 -> ∃ (gs:List (Sw×Addr)) (ls:List (Nat×Addr)) (lf':Addr),(∃ v4 v5 v6,[some (V.int c),some (.ref l),some (.ref kk),some (.ref lf),some (.int (i:Int)),some (.ref d),some (.ref D)]=[some (.int c),some (.ref l),some (.ref kk),some (.ref lf'),v4,v5,v6])/\Same H H6/\H6 kk=some (.lst (gs.map fun x=>.ref x.2))/\(∀ x∈gs,RuleAt (fun a=>H a=none/\a≠kk) H6 x.2 x.1)/\(∀ r∈gs.map (·.1),Dc sw r)/\gs.length<=i+1 /\
      Vz sw (gs.map (·.1)) H6 lf' ls/\ls≠[]/\ls.length<=256:=fun H6 S6=>
     ⟨gs,ls,lf,⟨_,_,_,rfl⟩,S05.trans S6,(S45.trans S6) _ _ ek,fun x hx=>(hg x hx).mono (Kp.same (S45.trans S6)),okg,by omega,⟨(S45.trans S6) _ _ elf,fun x hx=>by obtain⟨row,a1,a2,a3⟩:=hls x hx;exact⟨row,a1,(S45.trans S6) _ _ a2,a3⟩⟩,lne,l256⟩
    intro q hq
    refine .inl (.inr (.inr (.inr (.inl ⟨_,.inl ((Same.upd hq) _ _ (S5 _ _ od)),.inl Ab,?_⟩))))
    have Sq:=Same.upd (o:=.dK []) hq
    generalize upd H5 q (.dK [])=H6 at Sq ⊢
    by_cases hr0:rule=[]
    ·have:es=[]:=by rw [hr0] at ee;exact List.map_eq_nil_iff.mp ee
     subst this
     exact stay H6 Sq
    have ene:(es.map kR).isEmpty=false:=by
     cases es with
     | nil=>exact absurd ee.symm hr0
     | cons e es=>rfl
    refine Di (by rw [ene];rfl) ?_
    obtain⟨ds,at1,dl,dd⟩:=Fo (K:=K) hms
    refine⟨(show 0<=sizeLine by decide),fun q2 hq2=>.inr (.inl ⟨.lst ds,.lst [],Ea (SqL.of (((Sq.trans (Same.upd hq2))) _ _ eD)) ?_,Ea (SqL.of Ab) Bb,?_,?_⟩)⟩
    ·obtain⟨ds2,at2,dl2,dd2⟩:=Fo (K:=K) (H:=upd H6 q2 (.lst [])) (sw:=sw) (rules:=gs.map (·.1)++[rule]) (ls:=ms) fun x hx=>by obtain⟨row,a1,a2,a3⟩:=hms x hx;exact⟨row,a1,(Sq.trans (Same.upd hq2)) _ _ a2,a3⟩
     exact Bn (Sq.trans (Same.upd hq2)) at1
    ·rw [dep];omega
    have Sq2:=Same.upd (o:=.lst []) hq2
    generalize upd H6 q2 (.lst [])=H7 at Sq2 ⊢
    have S57:=Sq.trans Sq2
    by_cases hm0:ms=[]
    ·have:ds=[]:=List.length_eq_zero_iff.mp (by rw [dl,hm0];rfl)
     rw [this]
     exact stay H7 S57
    have dne:deq (.lst ds) (.lst [])=false:=by
     cases ds with
     | nil=>exact absurd (List.length_eq_zero_iff.mp dl.symm) hm0
     | cons e es=>rfl
    refine Di (by rw [dne];rfl) ?_
    have S47:=S5.trans S57
    have S37:=S45.trans S57
    have S07:=S05.trans S57
    have ek7:=S37 _ _ ek
    have ko:Kp (fun a=>H a=none/\a≠kk) H7 (fun a=>H a=none/\a≠kk) (upd H7 kk (.lst ((gs.map fun x=>V.ref x.2)++[.ref d]))):=Kp.off (fun e=>e.2 rfl)
    have nDk:D≠kk:=(Ae (S4 _ _ ek) hD).symm
    refine⟨.inl ⟨rfl,_,SqL.of ek7⟩,kk,_,_,rfl,rfl,ek7,?_,?_⟩
    ·rw [List.length_map];exact Nat.lt_of_le_of_lt (show gs.length<=3 by omega) (by decide)
    refine⟨gs++[(rule,d)],ms,D,⟨_,_,_,rfl⟩,S07.set hkk,by rw [Ab,List.map_append];rfl,fun x hx=>?_,fun r hr=>?_,by rw [List.length_append];show gs.length+1<=_;omega,⟨by rw [Af nDk];exact S57 _ _ eD,fun x hx=>?_⟩,hm0,by omega⟩
    ·rcases List.mem_append.mp hx with hx|hx
     ·exact (hg x hx).mono ((Kp.same S37).trans ko)
     ·have:x=(rule,d):=by simpa using hx
      subst this
      exact R4.ruleAt.mono (((Kp.weak fun a h=>⟨S3.free h,(Ae ek h).symm⟩).trans (Kp.same S47)).trans ko)
    ·rw [List.map_append] at hr
     rcases List.mem_append.mp hr with h|h
     ·exact okg r h
     ·have:r=rule:=by simpa using h
      subst this
      exact⟨hr0,by have:=hb.1;omega,hb.2.1,hb.2.2⟩
    ·obtain⟨row,a1,a2,a3⟩:=hms x hx
     have nx:x.2≠kk:=fun z=>by
      have e1:=S57 _ _ a2
      rw [z,ek7] at e1
      exact Ov (gs:=gs) (ar2 hw a1) (Option.some.inj e1).symm
     rw [List.map_append]
     exact⟨row,a1,by rw [Af nx];exact S57 _ _ a2,a3⟩
  ·rintro σ H3 ⟨gs,ls,lf,⟨v4,v5,v6,rfl⟩,S3,ek,hg,okg,gl,⟨elf,hls⟩,lne,l256⟩
   rw [Ci] at gl
   cases ls with
   | nil=>exact absurd rfl lne
   | cons x ls=>
    obtain⟨row,a1,_,a3⟩:=hls x List.mem_cons_self
    exact .inl (k H3 kk (gs.map (·.1)) S3 ⟨gs,rfl,⟨hkk,ek⟩,fun x hx=>(hg x hx).mono (Kp.weak fun a h=>h.1)⟩ okg (by rw [List.length_map];omega) (Ul (Aj a1) a3))
def gN (sw:Sw) (rules:List Sw):Nat->Nat
 | 0=>0
 | n+1=>if (rules.any fun r=>inB sw r n)=true then gN sw rules n else gN sw rules n ||| 2 ^ n
theorem W0 (sw:Sw) (rules:List Sw):∀ N k,(gN sw rules N).testBit k=(decide (k<N) && !rules.any fun r=>inB sw r k)
 | 0,k=>by simp [gN]
 | N+1,k=>by
  have ih:=W0 sw rules N k
  unfold gN
  by_cases h:N=k
  ·subst h
   rw [decide_eq_false (Nat.lt_irrefl N),Bool.false_and] at ih
   cases e:(rules.any fun r=>inB sw r N) with
   | false=>rw [if_neg Bool.false_ne_true,Nat.testBit_or,Nat.testBit_two_pow,ih];simp
   | true=>rw [if_pos rfl,ih];simp
  ·have d:decide (k<N+1)=decide (k<N):=decide_eq_decide.mpr (by omega)
   rw [d]
   cases e:(rules.any fun r=>inB sw r N) with
   | false=>rw [if_neg Bool.false_ne_true,Nat.testBit_or,Nat.testBit_two_pow,ih,decide_eq_false h,Bool.or_false]
   | true=>rw [if_pos rfl,ih]
theorem Z3 (sw:Sw) (rules:List Sw):((gN sw rules (Ai sw).length:Nat):Int)=Cz sw rules:=by
 rw [Gz]
 congr 1
 refine Nat.eq_of_testBit_eq fun k=>?_
 rw [W0,G0]
 by_cases h:k<(Ai sw).length
 ·rw [decide_eq_true h,Bool.true_and,Bool.true_and]
  congr 1
  congr 1
  funext r
  rw [Iu,decide_eq_true h,Bool.true_and]
  rfl
 ·rw [decide_eq_false h,Bool.false_and,Bool.false_and]
theorem SwL.swIn {H H':Hp} {ls:Addr} {ds:List (((Str×List Str)×Addr)×Addr)} (h:SwL H H' ls ds):SwIn any H' ls (ds.map (·.1.1)):=⟨ds,rfl,⟨trivial,h.at_⟩,fun x hx=>⟨⟨trivial,h.tup x hx⟩,trivial,h.lst x hx⟩⟩
theorem ax8 {f:Addr} {fd:FuncData} (Z:Au K t) (F:FunD K "_law_copied" "_law_copied" s_zt f fd .none) (T:Tab P w K mg base 0 (gb_0 K t) bl):FnOk P w K mg base CX0 1 f fd P_zt (Pq K t):=by
 refine F.okW0 a51 a94 T (a25 K t) (fun vs H Q E h=>?_) (fun vs H Q E h=>?_)
 ·obtain⟨l,sw,rfl,_⟩:=h;rfl
 ·obtain⟨l,sw,rfl,⟨ds,ed,⟨_,ol⟩,hd⟩,hw,k⟩:=h
  have len:(ds.map fun x=>V.ref x.2).length=sw.length:=by rw [<- ed];simp
  refine .inl ⟨⟨_,SqL.of ol⟩,fun D hD=>?_⟩
  refine C7 (Bl (ds.map fun x=>V.ref x.2)) (fun m σ H'=>(∃ v0 v1,σ=[v0,v1])/\Same H H' /\ ∃ es:List (((Str×List Str)×Addr)×Addr),es.map (·.1.1)=sw.take m/\SwL H H' D es/\(es.map (·.1.2)).Nodup)
   ⟨⟨_,_,rfl⟩,Same.upd hD,[],rfl,⟨Ab,fun x hx=>(by cases hx),fun x hx=>(by cases hx),fun x hx=>(by cases hx)⟩,List.nodup_nil⟩ (fun m σ H' _ q=>q.2.1.seqL (SqL.of ol)) ?_ ?_
  ·rintro m x σ H5 hx ⟨⟨v0,v1,rfl⟩,S5,es,ee,L1,nd⟩
   obtain⟨⟨⟨e,la⟩,ta⟩,hi,rfl⟩:=Am hx
   have hi2:sw[m]? = some e:=by rw [<- ed,List.getElem?_map,hi];rfl
   obtain⟨⟨_,h1⟩,_,h2⟩:=hd _ (List.mem_of_getElem? hi)
   refine⟨_,SqT.of (S5 _ _ h1),rfl,⟨_,.inl (SqL.of (S5 _ _ h2)),fun lb hlb=>⟨(show 2<=sizeLine by decide),fun tb htb=>?_⟩⟩⟩
   have Sb:=Same.upd (o:=lstO e.2) hlb
   have eb:upd H5 lb (lstO e.2) lb=some (lstO e.2):=Ab
   have fb:=S5.free hlb
   have nb:lb≠D:=(Ae L1.at_ hlb).symm
   have St:=Same.upd (o:=.tup [.str e.1,.ref lb]) htb
   have et:upd (upd H5 lb (lstO e.2)) tb (.tup [.str e.1,.ref lb]) tb=some (.tup [.str e.1,.ref lb]):=Ab
   have S6:=Sb.trans St
   have eb2:=St _ _ eb
   show ∃ ys,upd (upd H5 lb (lstO e.2)) tb (.tup [.str e.1,.ref lb]) D=some (.lst ys)/\_
   generalize upd (upd H5 lb (lstO e.2)) tb (.tup [.str e.1,.ref lb])=H6 at S6 et eb2 ⊢
   have L2:=L1.up S6
   refine⟨_,L2.at_,?_,⟨_,_,rfl⟩,(S5.trans S6).set hD,es++[((e,lb),tb)],?_,L2.snoc et eb2 nb fb,?_⟩
   ·rw [List.length_map]
    have:=congrArg List.length ee
    rw [List.length_map,List.length_take] at this
    have:=hw.2.1
    exact Nat.lt_of_le_of_lt (show es.length<=5 by omega) (by decide)
   ·rw [List.map_append,ee,List.take_add_one,hi2];rfl
   ·rw [List.map_append,List.nodup_append]
    refine⟨nd,by simp,fun a ha b hb=>?_⟩
    have hb:b=lb:=by simpa using hb
    subst hb
    obtain⟨x,hx,rfl⟩:=List.mem_map.mp ha
    exact Ae (L1.lst x hx) hlb
  ·rintro σ Hh ⟨_,Sh,es,ee,Lh,nd⟩
   rw [len,List.take_length] at ee
   exact k Hh D es Sh hD ee Lh nd
theorem ax2 {f:Addr} {fd:FuncData} (Z:Au K t) (F:FunD K "_law_allowed" "_law_allowed" s_zn f fd .none) (T:Tab P w K mg base 1 (gb_1 K t) bl):FnOk P w K mg base CX0 2 f fd P_zn (Y2 K t):=by
 refine F.okW0 a45 a88 T (a19 K t) (fun vs H Q E h=>?_) (fun vs H Q E h=>?_)
 ·obtain⟨l,kk,sw,rules,rfl,_⟩:=h;rfl
 ·obtain⟨l,kk,sw,rules,rfl,hsw,hw,hR,hok,h8,k⟩:=h
  obtain⟨gs,eg,⟨_,okk⟩,hg⟩:=id hR
  have few:=hw.len
  have leng:(gs.map fun x=>V.ref x.2).length=rules.length:=by rw [<- eg];simp
  refine⟨l,sw,rfl,hsw,hw,fun H1 r S1 R1=>?_⟩
  obtain⟨rs,er,⟨_,orr⟩,hr⟩:=id R1
  have lenr:(rs.map fun x=>V.ref x.2).length=(Ai sw).length:=by rw [<- er];simp
  refine .inl ⟨⟨_,SqL.of orr⟩,?_⟩
  refine Gc (Fh (rs.map fun x=>V.ref x.2)) (fun n σ H'=>(∃ v3 v4,σ=[some (.ref l),some (.ref kk),some (.int (gN sw rules n:Nat)),v3,v4])/\Same H1 H') ⟨⟨_,_,rfl⟩,Same.refl _⟩ (fun i σ H' _ q=>q.2.seqL (SqL.of orr)) ?_ ?_
  ·rintro n x y T σ H2 hx hT ⟨⟨v3,v4,rfl⟩,S2⟩
   obtain⟨⟨row,ra⟩,hi,rfl,rfl⟩:=Ib hx
   have hi2:(Ai sw)[n]? = some row:=by rw [<- er,List.getElem?_map,hi];rfl
   have hn:=Aj hi2
   have era:H1 ra=some (lstO row):=(hr _ (List.mem_of_getElem? hi)).2
   have ST:=Same.upd (o:=.tup [.int (n:Int),.ref ra]) hT
   refine⟨_,SqT.of Ab,rfl,?_⟩
   have S3:=S2.trans ST
   generalize upd H2 T (.tup [.int (n:Int),.ref ra])=H3 at S3 ⊢
   have S03:=S1.trans S3
   refine .inl ⟨⟨_,S03.seqL (SqL.of okk)⟩,fun D hD=>?_⟩
   refine C7 (Bl (gs.map fun x=>V.ref x.2)) (fun m σ H'=>(∃ v,σ=[v,some (.ref ra),some (.ref l)])/\Same H3 H'/\H' D=some (.lst (((gs.take m).filter fun x=>inB sw x.1 n).map fun x=>.ref x.2))) ⟨⟨_,rfl⟩,Same.upd hD,Ab⟩ (fun m σ H' _ q=>(S03.trans q.2.1).seqL (SqL.of okk)) ?_ ?_
   ·rintro m x σ H5 hx5 ⟨⟨v,rfl⟩,S5,eD⟩
    obtain⟨⟨rule,da⟩,hm,rfl⟩:=Am hx5
    have hm2:rules[m]? = some rule:=by rw [<- eg,List.getElem?_map,hm];rfl
    have S05:=S03.trans S5
    refine⟨da,l,ra,n,row,sw,rule,rfl,(hg _ (List.mem_of_getElem? hm)).mono (Kp.same S05),hsw.mono (Kp.same S05),hw,(hok rule (List.mem_of_getElem? hm2)).2,S5 _ _ (S3 _ _ era),hi2,fun H6 S6=>?_⟩
    have fs:=K9 (p:=fun x:Sw×Addr=>inB sw x.1 n) hm
    cases hc:inB sw rule n with
    | true=>
     have hc':inB sw (rule,da).1 n=true:=hc
     rw [hc',if_pos rfl] at fs
     refine⟨_,S6 _ _ eD,?_,⟨_,rfl⟩,(S5.trans S6).set hD,by rw [Ab,fs,List.map_append];rfl⟩
     rw [List.length_map]
     have h1:=List.length_filter_le (fun x:Sw×Addr=>inB sw x.1 n) (gs.take m)
     rw [List.length_take] at h1
     rw [List.length_map] at leng
     exact Nat.lt_of_le_of_lt (show _<=8 by omega) (by decide)
    | false=>
     have hc':inB sw (rule,da).1 n=false:=hc
     rw [hc',if_neg Bool.false_ne_true,List.append_nil] at fs
     exact⟨⟨_,rfl⟩,S5.trans S6,by rw [fs];exact S6 _ _ eD⟩
   ·rintro σ H5 ⟨_,S5,eD⟩
    rw [leng,show rules.length=gs.length by rw [<- eg];simp,List.take_length] at eD
    refine⟨by decide,fun e0 he0=>?_⟩
    have Se:=Same.upd (o:=.lst []) he0
    have ee:upd H5 e0 (.lst []) e0=some (.lst []):=Ab
    have eD2:=Se _ _ eD
    generalize upd H5 e0 (.lst [])=H6 at Se ee eD2 ⊢
    have S16:=S3.trans (S5.trans Se)
    have g1:gN sw rules (n+1)=if (rules.any fun r=>inB sw r n)=true then gN sw rules n else gN sw rules n ||| 2 ^ n:=rfl
    have hany:(rules.any fun r=>inB sw r n) = !(gs.filter fun x=>inB sw x.1 n).isEmpty:=by
     rw [<- eg,List.any_map]
     cases hf:(gs.filter fun x=>inB sw x.1 n).isEmpty with
     | true=>
      rw [List.isEmpty_iff,List.filter_eq_nil_iff] at hf
      exact List.any_eq_false.mpr hf
     | false=>
      obtain⟨x,hx⟩:=List.exists_mem_of_ne_nil (gs.filter fun x=>inB sw x.1 n) (fun z=>by rw [z] at hf;cases hf)
      rw [List.mem_filter] at hx
      exact List.any_eq_true.mpr ⟨x,hx.1,hx.2⟩
    by_cases hf:(gs.filter fun x=>inB sw x.1 n)=[]
    ·rw [hf] at eD2 hany
     rw [hany] at g1
     refine .inl ⟨D,e0,[],[],rfl,rfl,SqL.of eD2,SqL.of ee,rfl,rfl,?_⟩
     refine⟨⟨by omega,by omega,by decide⟩,⟨_,_,congrArg (fun c=>[some (V.ref l),some (V.ref kk),some (V.int c),some (V.int (n:Int)),some (V.ref ra)]) ?_⟩,S16⟩
     rw [g1,Int.one_mul,Int.toNat_natCast,Ke,Fa]
     rfl
    ·have hne:(gs.filter fun x=>inB sw x.1 n).isEmpty=false:=by
      cases hq:(gs.filter fun x=>inB sw x.1 n) with
      | nil=>exact absurd hq hf
      | cons _ _=>rfl
     rw [hany,hne] at g1
     refine .inr (.inr (.inr (.inr (.inr (.inr ⟨_,_,SqL.of eD2,SqL.of ee,?_,?_⟩)))))
     ·rw [List.length_map]
      intro z
      exact hf (List.length_eq_zero_iff.mp z)
     ·refine iteF ?_
      exact⟨⟨_,_,congrArg (fun c:Nat=>[some (V.ref l),some (V.ref kk),some (V.int (c:Int)),some (V.int (n:Int)),some (V.ref ra)]) g1.symm⟩,S16⟩
  ·rintro σ H2 ⟨⟨v3,v4,rfl⟩,S2⟩
   rw [Ba,lenr,Z3]
   exact .inl (k H2 (S1.trans S2))
theorem Mv {H H1:Hp} {e C:Addr} {dx:Option Addr} (S:Same H H1) (h:FlO H e C dx):FlO H1 e C dx:=h.imp (fun q=>S _ _ q) fun q=>S _ _ q
theorem K2 (Z:Au K t) {v u:V} {e:Addr} {H:Hp} {D:Outs} (F:FlO H e t.c_zap none) (k:∀ H',Same H H'->D.nx [some v,some u,some .non,some (.str "bad"),none] H') :
  Gs K t.c_zap e [(t.c_zap,.as 4,(dSeq (dSet 3 (dBin (rIxD K) (dLst (Aa (dC (.str "bad")) (Aa (dC (.str "other")) dNil))) (dFn (fun vs H Q _=>rInt vs H Q) (Aa (dOrV K (dFn (fun vs H Q _=>(rIsi K) vs H Q) (Aa (dVar 4) (Aa (dC (.ref t.c_zaq)) dNil))) (Ev K (dFn (fun vs H Q _=>(rIsi K) vs H Q) (Aa (dVar 4) (Aa (dC (.ref t.c_zao)) dNil))))) dNil))))
  Ad)),(t.c_zaq,.as 4,(dSeq (dSet 3 (dBin (rIxD K) (dLst (Aa (dC (.str "none")) (Aa (dC (.str "other")) dNil))) (dFn (fun vs H Q _=>rInt vs H Q) (Aa (dOrV K (Ev K (dFn (fun vs H Q _=>(rIsi K) vs H Q) (Aa (dVar 4) (Aa (dC (.ref t.c_zao)) dNil)))) (Ev K (dFn (fun vs H Q _=>(rIsi K) vs H Q) (Aa (dVar 4) (Aa (dC (.ty "ValueError")) dNil))))) dNil))))
  Ad))] D [some v,some u,some .non,some (.str "made"),none] H:=by
 refine⟨true,Z.mpp,?_⟩
 refine⟨(show 2<=sizeLine by decide),fun l0 hl0=>?_⟩
 have S0:=Same.upd (o:=.lst [.str "bad", .str "other"]) hl0
 have e0:upd H l0 (.lst [.str "bad", .str "other"]) l0=some (.lst [.str "bad", .str "other"]):=Ab
 generalize upd H l0 (.lst [.str "bad", .str "other"])=H0 at S0 e0 ⊢
 refine .inl ⟨_,false,.exc rfl (.inl ⟨rfl,.inr (Mv S0 F)⟩) Z.ep rfl,Z.kpn,?_⟩
 refine .inl ⟨_,true,.exc rfl (.inl ⟨rfl,.inr (Mv S0 F)⟩) Z.ep rfl,Z.kpl,?_⟩
 exact⟨_,.str "bad", .inl (SqL.of e0),rfl,k H0 S0⟩
theorem P9 (Z:Au K t) {v u:V} {e:Addr} {H:Hp} {D:Outs} (F:FlO H e t.c_zaq none) (k:∀ H',Same H H'->D.nx [some v,some u,some .non,some (.str "none"),none] H') :
  Gs K t.c_zaq e [(t.c_zap,.as 4,(dSeq (dSet 3 (dBin (rIxD K) (dLst (Aa (dC (.str "bad")) (Aa (dC (.str "other")) dNil))) (dFn (fun vs H Q _=>rInt vs H Q) (Aa (dOrV K (dFn (fun vs H Q _=>(rIsi K) vs H Q) (Aa (dVar 4) (Aa (dC (.ref t.c_zaq)) dNil))) (Ev K (dFn (fun vs H Q _=>(rIsi K) vs H Q) (Aa (dVar 4) (Aa (dC (.ref t.c_zao)) dNil))))) dNil))))
  Ad)),(t.c_zaq,.as 4,(dSeq (dSet 3 (dBin (rIxD K) (dLst (Aa (dC (.str "none")) (Aa (dC (.str "other")) dNil))) (dFn (fun vs H Q _=>rInt vs H Q) (Aa (dOrV K (Ev K (dFn (fun vs H Q _=>(rIsi K) vs H Q) (Aa (dVar 4) (Aa (dC (.ref t.c_zao)) dNil)))) (Ev K (dFn (fun vs H Q _=>(rIsi K) vs H Q) (Aa (dVar 4) (Aa (dC (.ty "ValueError")) dNil))))) dNil))))
  Ad))] D [some v,some u,some .non,some (.str "made"),none] H:=by
 refine⟨false,Z.mnp,?_⟩
 refine⟨true,Z.pf.mn,?_⟩
 refine⟨(show 2<=sizeLine by decide),fun l0 hl0=>?_⟩
 have S0:=Same.upd (o:=.lst [.str "none", .str "other"]) hl0
 have e0:upd H l0 (.lst [.str "none", .str "other"]) l0=some (.lst [.str "none", .str "other"]):=Ab
 generalize upd H l0 (.lst [.str "none", .str "other"])=H0 at S0 e0 ⊢
 refine .inl ⟨_,true,.exc rfl (.inl ⟨rfl,.inr (Mv S0 F)⟩) Z.pf.en rfl,Z.knl,?_⟩
 refine⟨_,true,.exc rfl (.inl ⟨rfl,.inr (Mv S0 F)⟩) Z.pf.en rfl,Z.knv,?_⟩
 exact⟨_,.str "none", .inl (SqL.of e0),rfl,k H0 S0⟩
theorem NoSw.up {H H1:Hp} {v:V} (S:Same H H1) (h:NoSw K H v):NoSw K H1 v:=by
 rcases h with ⟨d,a,l⟩|⟨r,kvs,e,h⟩|⟨a,xs,ds,e,q,A,f,n⟩
 ·exact .inl ⟨d,Bi S a,l⟩
 ·exact .inr (.inl ⟨r,kvs,e,S _ _ h⟩)
 ·exact .inr (.inr ⟨a,xs,ds,e,S.seqL q,Bn S A,f,n⟩)
theorem Pr {H H1:Hp} (S:Same H H1):Sq2 H H1:=fun b o e _=>S _ _ e
theorem aj9 {f:Addr} {fd:FuncData} (Z:Au K t) (F:FunD K "_law_made" "_law_made" J0 f fd .none) (T:Tab P w K mg base 9 (gb_9 K t) bl):FnOk P w K mg base CX0 10 f fd Nn (J9 K t):=by
 refine F.okW0 ar6 at4 T (aq4 K t) (fun vs H Q E h=>?_) (fun vs H Q E h=>?_)
 ·obtain⟨v,u,bad,rfl,_⟩:=h;rfl
 ·obtain⟨v,u,bad,rfl,h⟩:=h
  refine fun p dx hp hd ne=>?_
  have S1:Same H (upd (upd H dx (.own p)) p (.ins t.c_zas dx [])):=fun b o e=>by rw [Af (Ae e hp),Af (Ae e hd)];exact e
  have ep:upd (upd H dx (.own p)) p (.ins t.c_zas dx []) p=some (.ins t.c_zas dx []):=Ab
  generalize upd (upd H dx (.own p)) p (.ins t.c_zas dx [])=H1 at S1 ep ⊢
  have np:∀ {b o},H b=some o->b≠p:=fun e=>Ae e hp
  have off:∀ {bd:Addr->Prop} {H2 H3:Hp},(∀ b,bd b->bad b)->OffP p bd H1 H2->Same H2 H3->OffB bad H H3:=fun {bd H2 H3} w O S=>⟨fun b o n e=>S _ _ (O.1 b o (np e) (fun z=>n (w b z)) (S1 _ _ e)),fun b o e=>(O.2 b o (np e) (S1 _ _ e)).imp (fun q=>S _ _ q) fun⟨kvs,q,e1,e2⟩=>⟨kvs,q,e1,S _ _ e2⟩⟩
  rcases h with ⟨hn,kb⟩|⟨a,sw,out,rfl,hsw,hw,hc,kg,kz,kn⟩
  ·refine⟨p,dx,v,u,rfl,ep,.inl ⟨hn.up S1,fun H2 e O F=>⟨e,rfl,t.c_zap,none,F,Z.ep,K2 Z F fun H3 S3=>?_⟩⟩⟩
   exact⟨(show 2<=sizeLine by decide),fun q hq=>kb _ q (off (fun b z=>z.elim) O (S3.trans (Same.upd hq))) Ab⟩
  ·have kp:Kp any H (· ≠ p) H1:=fun b o q=>⟨np q.2,S1 _ _ q.2⟩
   refine⟨p,dx,.ref a,u,rfl,ep,.inr ⟨a,sw,bad,out,rfl,hsw.mono kp,hw,hc.move (Pr S1) kp fun b kvs e=>S1 _ _ e,fun rules eo hf H2 O2 P2=>⟨rfl,?_⟩,fun rules eo hf H2 e O F=>⟨e,rfl,t.c_zaq,none,F,Z.pf.en,P9 Z F fun H3 S3=>?_⟩,fun eo H2 e O F=>⟨e,rfl,t.c_zap,none,F,Z.ep,K2 Z F fun H3 S3=>?_⟩⟩⟩
   ·have S2:Same H H2:=fun b o e=>O2 b o (np e) (S1 _ _ e)
    exact⟨(show 2<=sizeLine by decide),fun q hq=>kg rules eo hf _ q p (S2.trans (Same.upd hq)) ((P2.mono Kp.any).mono (Kp.same (Same.upd hq))) Ab⟩
   ·exact⟨(show 2<=sizeLine by decide),fun q hq=>kz rules eo hf _ q (off (fun b z=>z.elim) O (S3.trans (Same.upd hq))) Ab⟩
   ·exact⟨(show 2<=sizeLine by decide),fun q hq=>kn eo _ q (off (fun b z=>z) O (S3.trans (Same.upd hq))) Ab⟩
def cutD (D:Addr) (H:Hp):Hp:=fun b=>if b=D then none else H b
theorem Bc {D:Addr} {H:Hp}:Same (cutD D H) H:=fun b o e=>by
 unfold cutD at e
 split at e
 ·cases e
 ·exact e
theorem F9 {D:Addr} {H:Hp} {u:HO}:Same (cutD D H) (upd H D u):=fun b o e=>by
 unfold cutD at e
 split at e
 ·cases e
 ·rename_i n;rw [Af n];exact e
theorem Bu {D:Addr} {H H':Hp} (S:Same H H'):Same (cutD D H) (cutD D H'):=fun b o e=>by
 unfold cutD at e ⊢
 split at e
 ·cases e
 ·rename_i n;rw [if_neg n];exact S _ _ e
theorem Do {D b:Addr} {H:Hp} {o:HO} (n:b≠D) (e:H b=some o):cutD D H b=some o:=by unfold cutD;rw [if_neg n];exact e
def GD (K:PySem.W.Frag) (D:Addr) (H:Hp) (σ:St) (E:EK) (de:DE) (d:Dt):Prop:=∀ H1 (Q:VK),Same H H1->(∀ x H2,Same H1 H2->At K (cutD D H2) d x->Q x H2)->de σ H1 Q E
def GN (K:PySem.W.Frag) (D:Addr) (H:Hp) (σ:St) (E:EK) (de:DE) (d:Dt):Prop:=∀ H1 (Q:VK),Same H H1->(∀ x H2,Same H1 H2->At K (cutD D H2) d x->(∀ r,x=.ref r->H r=none)->Q x H2)->de σ H1 Q E
def GDs (K:PySem.W.Frag) (D:Addr) (H:Hp) (σ:St) (E:EK) (da:DA) (ds:List Dt):Prop:=∀ H1 (Q:List V->Hp->Prop),Same H H1->(∀ xs H2,Same H1 H2->AtL K (cutD D H2) ds xs->Q xs H2)->da σ H1 Q E
theorem GN.gd {D:Addr} {H:Hp} {σ:St} {E:EK} {de:DE} {d:Dt} (h:GN K D H σ E de d):GD K D H σ E de d:=fun H1 Q S q=>h H1 Q S fun x H2 S2 a _=>q x H2 S2 a
section
variable {D:Addr} {H:Hp} {σ:St} {E:EK} {oD:HO} {ss:List Str} {la:Addr} {i:Nat} {wd:Str}
theorem gn_c {v:V} (f:Bx v=true):GN K D H σ E (dC v) (.at_ v):=fun H1 Q S q=>q v H1 (Same.refl _) (Zs f) fun r e=>by subst e;cases f
theorem An:GDs K D H σ E dNil []:=fun H1 Q S q=>q [] H1 (Same.refl _) Bb
theorem Ag {de:DE} {da:DA} {d:Dt} {ds:List Dt} (h:GD K D H σ E de d) (g:GDs K D H σ E da ds):GDs K D H σ E (Aa de da) (d::ds):=fun H1 Q S q=>
 h H1 _ S fun x H2 S2 a=>g H2 _ (S.trans S2) fun xs H3 S3 b=>q (x::xs) H3 (S2.trans S3) (Av (Bi (Bu S3) a) b)
theorem G1 {v:V} {d:Dt} (h:∀ H1 (Q:VK),Q v H1->dVar i σ H1 Q E) (a:At K (cutD D H) d v):GD K D H σ E (dVar i) d:=fun H1 Q S q=>h _ _ (q v H1 (Same.refl _) (Bi (Bu S) a))
variable (hD:H D=some oD)
include hD
theorem Co {da:DA} {ds:List Dt} (g:GDs K D H σ E da ds) (l:ds.length<=1000):GN K D H σ E (dLst da) (.lst ds):=fun H1 Q S q=>g H1 _ S fun xs H2 S2 b=>⟨by rw [b.length];exact Nat.le_trans l (by decide),fun p hp=>
 q (.ref p) _ (S2.trans (Same.upd hp)) (Ea (SqL.of (Do (Ae (S2 _ _ (S _ _ hD)) hp).symm Ab)) (Bn (Bu (Same.upd hp)) b)) fun r e=>by cases e;exact S.free (S2.free hp)⟩
theorem Db {da:DA} {ds:List Dt} (g:GDs K D H σ E da ds) (l:ds.length<=1000):GN K D H σ E (dTup da) (.tup ds):=fun H1 Q S q=>g H1 _ S fun xs H2 S2 b=>⟨by rw [b.length];exact Nat.le_trans l (by decide),fun p hp=>
 q (.ref p) _ (S2.trans (Same.upd hp)) (Mh (SqT.of (Do (Ae (S2 _ _ (S _ _ hD)) hp).symm Ab)) (Bn (Bu (Same.upd hp)) b)) fun r e=>by cases e;exact S.free (S2.free hp)⟩
omit hD in
theorem N7 (n:Nat):cutV (ss.map V.str) none (some (n:Int))=(ss.take n).map V.str:=by
 unfold cutV
 rw [HT.sIx_none,HT.sIx_nat,List.length_map,List.drop_zero,<- List.map_take]
 congr 1
 rw [Nat.sub_zero]
 by_cases h:n<=ss.length
 ·rw [Nat.min_eq_left h]
 ·rw [Nat.min_eq_right (by omega),List.take_of_length_le (Nat.le_refl _),List.take_of_length_le (by omega)]
variable (h6:∀ H1 (Q:VK),Q (.ref la) H1->dVar i σ H1 Q E) (hl:H la=some (lstO ss))
include h6 hl
theorem Jc:GN K D H σ E (dFn (fun vs H Q _=>(Ej K) vs H Q) (Aa (dVar i) dNil)) (.tup (ss.map strD)):=fun H1 Q S q=>h6 _ _ ⟨_,.inl ⟨SqL.of (S _ _ hl),fun p hp=>
 q (.ref p) _ (Same.upd hp) (Zt (SqT.of (Do (Ae (S _ _ hD) hp).symm Ab))) fun r e=>by cases e;exact S.free hp⟩⟩
theorem R3:GN K D H σ E (dSl K (dVar i) Bh (Bv (dC (.int 1)))) (.lst ((ss.take 1).map strD)):=fun H1 Q S q=>h6 _ _ (.inl ⟨_,SqL.of (S _ _ hl),fun p hp=>by
 have ec:cutV (ss.map V.str) none (some 1)=(ss.take 1).map V.str:=N7 1
 rw [ec]
 exact q (.ref p) _ (Same.upd hp) (C2 (SqL.of (Do (Ae (S _ _ hD) hp).symm Ab))) fun r e=>by cases e;exact S.free hp⟩)
theorem R0 (h9:ss.length<=100):GN K D H σ E (dBin (Ao K) (dVar i) (dSl K (dVar i) Bh (Bv (dC (.int 1))))) (.lst ((ss++ss.take 1).map strD)):=fun H1 Q S q=>h6 _ _ (h6 _ _ (.inl ⟨_,SqL.of (S _ _ hl),fun p hp=>by
 have ec:cutV (ss.map V.str) none (some 1)=(ss.take 1).map V.str:=N7 1
 rw [ec]
 have Sp:=Same.upd (o:=lstO (ss.take 1)) hp
 have ep:upd H1 p (lstO (ss.take 1)) p=some (lstO (ss.take 1)):=Ab
 show Ao K (.ref la) (.ref p) (upd H1 p (lstO (ss.take 1))) Q
 generalize upd H1 p (lstO (ss.take 1))=H2 at Sp ep ⊢
 refine .inl ⟨la,p,_,_,rfl,rfl,Sp _ _ (S _ _ hl),ep,?_,fun p2 hp2=>?_⟩
 ·rw [List.length_map,List.length_map,List.length_take]
  exact Nat.le_trans (show _<=200 by omega) (by decide)
 ·have e2:cutD D (upd H2 p2 (.lst (ss.map V.str++(ss.take 1).map V.str))) p2=some (lstO (ss++ss.take 1)):=by
   rw [<- List.map_append]
   exact Do (Ae (Sp _ _ (S _ _ hD)) hp2).symm Ab
  exact q (.ref p2) _ (Sp.trans (Same.upd hp2)) (C2 (SqL.of e2)) fun r e=>by cases e;exact S.free (Sp.free hp2)⟩))
omit hD in
theorem W8 (h0:0<ss.length):GN K D H σ E (dBin (rIxD K) (dVar i) (dC (.int 0))) (strD (ss.getD 0 Str.empty)):=fun H1 Q S q=>h6 _ _ ⟨_,.str (ss.getD 0 Str.empty),.inl (SqL.of (S _ _ hl)),Bs (j:=0) (by rw [List.getElem?_map,List.getElem?_eq_getElem h0,List.getD_eq_getElem?_getD,List.getElem?_eq_getElem h0];rfl),q _ _ (Same.refl _) Ce fun r e=>by cases e⟩
end
theorem Z4 {D:Addr} {H:Hp} {σ:St} {E:EK} {wd:Str} (h5:∀ H1 (Q:VK),Q (.str wd) H1->dVar 5 σ H1 Q E) (hw:wd.length<=8):GN K D H σ E (dBin (Ao K) (dC (.str "A")) (dSl K (dVar 5) (Bv (dC (.int 1))) Bh)) (strD ("A" ++ Txt.slice wd (some 1) none)):=fun H1 Q S q=>by
 show dVar 5 σ H1 (fun x H2=>rSlD K x (some 1) none H2 fun y H3=>Ao K (.str "A") y H3 Q) E
 refine h5 _ _ ⟨Nat.le_trans hw (by decide),?_⟩
 have:=Txt.slice_le wd (some 1) none
 exact⟨Nat.le_trans (show (Str.ofString "A").length+(Txt.slice wd (some 1) none).length<=1+8 from Nat.add_le_add (by decide) (Nat.le_trans this hw)) (by decide),q _ _ (Same.refl _) Ce fun r e=>by cases e⟩
theorem Z5 {D:Addr} {H:Hp} {σ:St} {E:EK} {wd:Str} (h5:∀ H1 (Q:VK),Q (.str wd) H1->dVar 5 σ H1 Q E) (hw:wd.length<=8):GN K D H σ E (dBin (Ao K) (dSl K (dVar 5) Bh (Bv (dC (.int 1)))) (dC (.str "1"))) (strD (Txt.slice wd none (some 1) ++ "1")):=fun H1 Q S q=>by
 show dVar 5 σ H1 (fun x H2=>rSlD K x none (some 1) H2 fun y H3=>Ao K y (.str "1") H3 Q) E
 refine h5 _ _ ⟨Nat.le_trans hw (by decide),?_⟩
 have:=Txt.slice_le wd none (some 1)
 exact⟨Nat.le_trans (show (Txt.slice wd none (some 1)).length+(Str.ofString "1").length<=8+1 from Nat.add_le_add (Nat.le_trans this hw) (by decide)) (by decide),q _ _ (Same.refl _) Ce fun r e=>by cases e⟩
theorem Ie {D:Addr} {H:Hp} {σ:St} {E:EK} {da:DA} {ds:List Dt} {ix:DE} {i:Int} {z:Dt} (g:GDs K D H σ E da ds) (hi:∀ H1 (Q:VK),Q (.int i) H1->ix σ H1 Q E) (h0:0<=i) (hn:i<ds.length) (l:ds.length<=1000):GD K D H σ E (dBin (rIxD K) (dLst da) ix) (Bj ds i z):=fun H1 Q S q=>
 g H1 _ S fun xs H2 S2 b=>⟨by rw [b.length];exact Nat.le_trans l (by decide),fun p hp=>hi _ _ (by
  obtain⟨n,rfl⟩:∃ n:Nat,i=(n:Int):=⟨_,(Int.toNat_of_nonneg h0).symm⟩
  have hn:n<ds.length:=by omega
  obtain⟨y,hy,ha⟩:=Rm b (List.getElem?_eq_getElem hn)
  have e:Bj ds (n:Int) z=ds[n]:=by unfold Bj;rw [Int.toNat_natCast,List.getD_eq_getElem?_getD,List.getElem?_eq_getElem hn];rfl
  refine⟨_,y,.inl (SqL.of Ab),Bs (j:=n) hy,q y _ (S2.trans (Same.upd hp)) ?_⟩
  rw [e]
  exact Bi (Bu (Same.upd hp)) ha)⟩
theorem Lm {σ:St} {E:EK} {c m n:Int} {j:Nat} (hj:∀ H1 (Q:VK),Q (.int c) H1->dVar j σ H1 Q E) (h1:0<m/\m<1073741824) (h2:0<n):∀ H1 (Q:VK),Q (.int (c / m % n)) H1->dBin Ar (dBin A5 (dVar j) (dC (.int m))) (dC (.int n)) σ H1 Q E:=fun H1 Q q=>by
 show dVar j σ H1 (fun x H2=>A5 x (.int m) H2 fun y H3=>Ar y (.int n) H3 Q) E
 exact hj _ _ ⟨h1,h2,q⟩
theorem Mg {H:Hp}:∀ {ds:List Dt} {xs:List V} {i:Nat} {d:Dt} {x:V},AtL K H ds xs->At K H d x->AtL K H (ds.set i d) (xs.set i x)
 | [],xs,i,d,x,h,_=>by unfold AtL at h;subst h;rw [List.set_nil,List.set_nil];exact Bb
 | c::ds,xs,0,d,x,h,a=>by
  unfold AtL at h
  obtain⟨y,ys,rfl,h1,h2⟩:=h
  exact Av a h2
 | c::ds,xs,i+1,d,x,h,a=>by
  unfold AtL at h
  obtain⟨y,ys,rfl,h1,h2⟩:=h
  exact Av h1 (Mg h2 a)
theorem N1 {H:Hp}:∀ {n:Nat} {ds:List Dt} {xs:List V},AtL K H ds xs->AtL K H (ds.take n) (xs.take n)
 | 0,_,_,_=>Bb
 | n+1,[],_,h=>by unfold AtL at h;subst h;exact Bb
 | n+1,c::ds,xs,h=>by
  unfold AtL at h
  obtain⟨y,ys,rfl,h1,h2⟩:=h
  exact Av h1 (N1 h2)
theorem Al {a b:Option V} {m j:Int} {r:St} {tb rest:DS} {Du:Outs} {H:Hp} (n:m≠j) (h:rest Du (a::b::some (.int m)::r) H):dSeq (dIf (dTst (dBin (rEqD K false) (dVar 2) (dC (.int j)))) tb Ad) rest Du (a::b::some (.int m)::r) H:=Dh (decide_eq_false n) h
theorem C4 {a b:Option V} {m j:Int} {r:St} {tb rest:DS} {Du:Outs} {H:Hp} (n:m=j) (h:tb { Du with nx:=rest Du } (a::b::some (.int m)::r) H):dSeq (dIf (dTst (dBin (rEqD K false) (dVar 2) (dC (.int j)))) tb Ad) rest Du (a::b::some (.int m)::r) H:=Di (decide_eq_true n) h
end
theorem Cs {α:Type} {P:α->Prop} {l:List α} {i:Int} {z:α} (h:∀ x∈l,P x) (h0:0<=i) (hn:i<l.length):P (Bj l i z):=by
 obtain⟨n,rfl⟩:∃ n:Nat,i=(n:Int):=⟨_,(Int.toNat_of_nonneg h0).symm⟩
 have hn:n<l.length:=by omega
 have e:Bj l (n:Int) z=l[n]:=by unfold Bj;rw [Int.toNat_natCast,List.getD_eq_getElem?_getD,List.getElem?_eq_getElem hn];rfl
 rw [e]
 exact h _ (List.getElem_mem hn)
theorem Ct (c:Int) {n:Int} (h:0<n):0<=c % n/\c % n<n:=⟨Int.emod_nonneg _ (by omega),Int.emod_lt_of_pos _ h⟩
theorem Wy (a b:List Dt):C9 (a++b)=b.foldl E6 (C9 a):=List.foldl_append
theorem Wz {ds:List Dt} {d:Dt} (h:d∈ds) (n:swD d=none):C9 ds=none:=by
 obtain⟨a,b,rfl⟩:=List.append_of_mem h
 rw [Wy,List.foldl_cons]
 have:E6 (C9 a) d=none:=by
  cases C9 a with
  | none=>rfl
  | some s=>show (swD d).bind _=none;rw [n];rfl
 rw [this]
 exact Ds b
theorem Zc {ds:List Dt} {d:Dt} (h:d∈ds) (n:swD d=none):swOf ds=none:=by
 unfold swOf
 rw [Wz h n]
 split <;> rfl
def wdD:Dt->Str
 | .tup (.at_ (.str w)::_)=>w
 | _=>Str.empty
theorem Lb:∀ {ds:List Dt} {acc sw:Sw},ds.foldl E6 (some acc)=some sw->(acc.map (·.1)).Nodup->(sw.map (·.1)).Nodup/\sw.map (·.1)=acc.map (·.1)++ds.map wdD
 | [],acc,sw,h,nd=>by cases h;exact⟨nd,by simp⟩
 | d::ds,acc,sw,h,nd=>by
  rw [List.foldl_cons] at h
  cases hd:swD d with
  | none=>
   have:E6 (some acc) d=none:=by show (swD d).bind _=none;rw [hd];rfl
   rw [this,Ds] at h
   cases h
  | some e=>
   have hs:E6 (some acc) d=if e.1∈acc.map (·.1) then none else some (acc++[e]):=by show (swD d).bind _=_;rw [hd];rfl
   by_cases hk:e.1∈acc.map (·.1)
   ·rw [hs,if_pos hk,Ds] at h
    cases h
   ·rw [hs,if_neg hk] at h
    have ed:=(Pt hd).1
    obtain⟨a,b⟩:=Lb h (by rw [List.map_append,List.nodup_append];exact⟨nd,by simp,fun x hx y hy z=>hk (by
      have hy:y=e.1:=by simpa using hy
      rw [<- hy,<- z]
      exact hx)⟩)
    refine⟨a,?_⟩
    rw [b,List.map_append,List.map_cons,List.append_assoc,ed]
    rfl
theorem Ra {ds:List Dt} (h:¬ (ds.map wdD).Nodup):swOf ds=none:=by
 unfold swOf
 split
 ·cases hf:C9 ds with
  | none=>rfl
  | some sw=>
   obtain⟨a,b⟩:=Lb (acc:=[]) hf List.nodup_nil
   rw [b] at a
   exact absurd a h
 ·rfl
theorem Gm {z:Str} {X:Dt} (h:As z=false):swD (.tup [strD z,X])=none:=by
 unfold swD
 split
 ·rename_i w ds q
  cases q
  cases Az ds with
  | none=>rfl
  | some l=>simp only [h,Bool.false_and,Bool.false_eq_true,if_false]
 ·rfl
theorem Tt {w:Str} {ds:List Dt} (h:∀ l,Az ds=some l->((l.all As&&decide l.Nodup)&&(decide (2<=l.length)&&decide (l.length<=4)))=false):swD (.tup [strD w,.lst ds])=none:=by
 show (match Az ds with|some l=>if (As w&&(l.all As&&decide l.Nodup)&&(decide (2<=l.length)&&decide (l.length<=4)))=true then some (w,l) else none|none=>none)=none
 cases e:Az ds with
 | none=>rfl
 | some l=>
  show (if (As w&&(l.all As&&decide l.Nodup)&&(decide (2<=l.length)&&decide (l.length<=4)))=true then some (w,l) else none)=none
  rw [Bool.and_assoc,h l e,Bool.and_false]
  rfl
theorem D5 {w:Str} {l:List Str} (h:((l.all As&&decide l.Nodup)&&(decide (2<=l.length)&&decide (l.length<=4)))=false):swD (.tup [strD w,.lst (l.map strD)])=none:=Tt fun l' e=>by
 rw [D2] at e
 cases e
 exact h
theorem Ma:∀ {ds:List Dt} {d:Dt},d∈ds->(∀ z,d≠strD z)->Az ds=none
 | d'::ds,d,h,n=>by
  rcases List.mem_cons.mp h with rfl|h
  ·unfold Az
   split
   ·rename_i q;cases q
   ·rename_i z r q;cases q;exact absurd rfl (n z)
   ·rfl
  ·have:=Ma h n
   unfold Az
   split
   ·rename_i q;cases q
   ·rename_i z r q;cases q;rw [this];rfl
   ·rfl
theorem Kl {z:Str} {c:Nat} (h:c∈z.cps.toList) (n:B5 c=false):As z=false:=by
 unfold As
 have:z.cps.toList.all B5=false:=by
  rw [List.all_eq_false]
  exact⟨c,h,by rw [n];decide⟩
 rw [this,Bool.and_false]
theorem Hz:∀ {ds:List Dt} {n:Nat},(∀ d∈ds,dep d<=n)->deps ds<=n
 | [],_,_=>Nat.zero_le _
 | d::ds,n,h=>Nat.max_le.mpr ⟨h d List.mem_cons_self,Hz fun x hx=>h x (List.mem_cons_of_mem _ hx)⟩
theorem Bq (l:List Str):dep (.lst (l.map strD))<=1:=by rw [dep];have:=Iy (f:=strD) Ax l;omega
theorem Oa (l:List Str):dep (.tup (l.map strD))<=1:=by rw [dep];have:=Iy (f:=strD) Ax l;omega
theorem C3 {ds:List Dt} {n:Nat} (h:∀ d∈ds,dep d<=n):dep (.tup ds)<=n+1:=by rw [dep];exact Nat.succ_le_succ (Hz h)
theorem Fc {ds:List Dt} {n:Nat} (h:∀ d∈ds,dep d<=n):dep (.lst ds)<=n+1:=by rw [dep];exact Nat.succ_le_succ (Hz h)
theorem Mt (x:Str×List Str):dep (swT x)<=2:=C3 fun d hd=>by
 have hd:d=strD x.1\/d=.lst (x.2.map strD):=by simpa using hd
 rcases hd with rfl|rfl
 ·exact Nat.le_trans (Ax _) (by decide)
 ·exact Bq _
theorem mem_set {α:Type} {l:List α} {i:Nat} {x y:α} (h:y∈l.set i x):y∈l\/y=x:=by
 rcases List.mem_or_eq_of_mem_set h with h|h
 ·exact .inl h
 ·exact .inr h
theorem To {sw:Sw} {k:Nat} {d:Dt} (hw:okSw sw) (hk:k<sw.length) (hd:swD d=none) (hf:fitD d) (hp:dep d<=10):(∀ e∈(sw.map swT).set k d,fitD e)/\swOf ((sw.map swT).set k d)=none/\dep (.lst ((sw.map swT).set k d))<=30:=by
 refine⟨fun e he=>?_,Zc (d:=d) (List.mem_set (by rw [List.length_map];exact hk) d) hd,Nat.le_trans (Fc (n:=10) fun e he=>?_) (by decide)⟩
 ·rcases mem_set he with h|rfl
  ·obtain⟨x,hx,rfl⟩:=List.mem_map.mp h
   exact Mu (hw.2.2.2.1 x hx).1 (hw.2.2.2.1 x hx).2
  ·exact hf
 ·rcases mem_set he with h|rfl
  ·obtain⟨x,hx,rfl⟩:=List.mem_map.mp h
   exact Nat.le_trans (Mt x) (by decide)
  ·exact hp
theorem B2 {l:List Str} (h:l.length<=29) (hz:∀ z∈l,z.length<=1000):fewD (.lst (l.map strD)):=⟨by rw [List.length_map];exact h,fun d hd=>by
 obtain⟨z,hz',rfl⟩:=List.mem_map.mp hd
 exact hz z hz'⟩
section
variable {P:Program} {w:World} {K:PySem.W.Frag} {mg:Str->Option Value} {base:Heap} {t:Adr}
def HandN (K:PySem.W.Frag) (D:Addr) (H0 H:Hp) (v:V):Th->Prop
 | .inl kds=>deps (kds.map (·.2))<=30/\(∀ r,v=.ref r->H0 r=none) /\ ∃ r kvs,v=.ref r/\H r=some (.dK kvs)/\kvs.map (·.1)=kds.map (·.1)/\AtL K (cutD D H) (kds.map (·.2)) (kvs.map (·.2))
 | .inr d=>dep d<=30/\(∀ r,v=.ref r->H0 r=none)/\At K (cutD D H) d v
theorem HandN.up {D:Addr} {H0 H H1:Hp} {v:V} (S:Same H H1):∀ {th:Th},HandN K D H0 H v th->HandN K D H0 H1 v th
 | .inl _,⟨a,b,r,kvs,e,h,q,l⟩=>⟨a,b,r,kvs,e,S _ _ h,q,Bn (Bu S) l⟩
 | .inr _,⟨a,b,h⟩=>⟨a,b,Bi (Bu S) h⟩
theorem HandN.hand {D:Addr} {H0 H:Hp} {v:V}:∀ {th:Th},HandN K D H0 H v th->HandD K H v th
 | .inl _,⟨a,_,r,kvs,e,h,q,l⟩=>⟨a,r,kvs,e,.inl h,q,Bn Bc l⟩
 | .inr _,⟨a,_,h⟩=>⟨a,Bi Bc h⟩
def GH (K:PySem.W.Frag) (D:Addr) (H:Hp) (σ:St) (E:EK) (de:DE) (th:Th):Prop:=∀ H1 (Q:VK),Same H H1->(∀ x H2,Same H1 H2->HandN K D H H2 x th->Q x H2)->de σ H1 Q E
def au2 (K:PySem.W.Frag) (D:Addr) (H H2:Hp) (xs:List V) (ths:List Th):Prop:=xs.length=ths.length /\ ∀ (i:Nat) x th,xs[i]? = some x->ths[i]? = some th->HandN K D H H2 x th
def GHs (K:PySem.W.Frag) (D:Addr) (H:Hp) (σ:St) (E:EK) (da:DA) (ths:List Th):Prop:=∀ H1 (Q:List V->Hp->Prop),Same H H1->(∀ xs H2,Same H1 H2->au2 K D H H2 xs ths->Q xs H2)->da σ H1 Q E
section
variable {D:Addr} {H:Hp} {σ:St} {E:EK} {oD:HO}
theorem Dv {de:DE} {d:Dt} (h:GN K D H σ E de d) (l:dep d<=30):GH K D H σ E de (.inr d):=fun H1 Q S q=>h H1 Q S fun x H2 S2 a f=>q x H2 S2 ⟨l,f,a⟩
theorem Rz:GHs K D H σ E dNil []:=fun H1 Q S q=>q [] H1 (Same.refl _) ⟨rfl,fun i x th e=>by simp at e⟩
theorem Bz {de:DE} {da:DA} {th:Th} {ths:List Th} (h:GH K D H σ E de th) (g:GHs K D H σ E da ths):GHs K D H σ E (Aa de da) (th::ths):=fun H1 Q S q=>
 h H1 _ S fun x H2 S2 a=>g H2 _ (S.trans S2) fun xs H3 S3 b=>q (x::xs) H3 (S2.trans S3) ⟨by rw [List.length_cons,List.length_cons,b.1],fun i y th' e1 e2=>by
  cases i with
  | zero=>simp at e1 e2;subst e1 e2;exact a.up S3
  | succ i=>rw [List.getElem?_cons_succ] at e1 e2;exact b.2 i y th' e1 e2⟩
theorem Ry {da:DA} {ths:List Th} {ix:DE} {i:Int} {z:Th} (g:GHs K D H σ E da ths) (hi:∀ H1 (Q:VK),Q (.int i) H1->ix σ H1 Q E) (h0:0<=i) (hn:i<ths.length) (l:ths.length<=1000):GH K D H σ E (dBin (rIxD K) (dLst da) ix) (Bj ths i z):=fun H1 Q S q=>
 g H1 _ S fun xs H2 S2 b=>⟨by rw [b.1];exact Nat.le_trans l (by decide),fun p hp=>hi _ _ (by
  obtain⟨n,rfl⟩:∃ n:Nat,i=(n:Int):=⟨_,(Int.toNat_of_nonneg h0).symm⟩
  have hn:n<ths.length:=by omega
  have hx:n<xs.length:=by rw [b.1];exact hn
  have e:Bj ths (n:Int) z=ths[n]:=by unfold Bj;rw [Int.toNat_natCast,List.getD_eq_getElem?_getD,List.getElem?_eq_getElem hn];rfl
  refine⟨_,xs[n],.inl (SqL.of Ab),Bs (j:=n) (List.getElem?_eq_getElem hx),q _ _ (S2.trans (Same.upd hp)) ?_⟩
  rw [e]
  exact (b.2 n _ _ (List.getElem?_eq_getElem hx) (List.getElem?_eq_getElem hn)).up (Same.upd hp))⟩
variable (hD:H D=some oD)
include hD
theorem ai4:GH K D H σ E Et (.inl []):=fun H1 Q S q p hp=>.inl (q (.ref p) _ (Same.upd hp) ⟨Nat.zero_le _,fun r e=>by cases e;exact S.free hp,p,[],rfl,Ab,rfl,Bb⟩)
theorem B4 {kd vd:DE} {k:Key} {d:Dt} (hk:∀ H1 (Q:VK),Q (kV k) H1->kd σ H1 Q E) (hv:GD K D H σ E vd d) (l:dep d<=30):GH K D H σ E (Cf [(kd,vd)]) (.inl [(k,d)]):=by
 intro H1 Q S q p hp
 have S1:=Same.upd (o:=.dK []) hp
 have e1:upd H1 p (.dK []) p=some (.dK []):=Ab
 have np:p≠D:=(Ae (S _ _ hD) hp).symm
 refine hk _ _ (hv _ _ (S.trans S1) fun x H2 S2 a=>?_)
 refine⟨S2 _ _ e1,[(k,x)],rfl,Nat.le_of_ble_eq_true rfl,?_⟩
 refine q _ _ ((S1.trans S2).set hp) ⟨by show max (dep d) 0<=30;omega,fun r e=>by cases e;exact S.free hp,p,[(k,x)],rfl,Ab,rfl,Av ?_ Bb⟩
 refine (Ka (H:=cutD D H2) (r:=p) (kvs:=[]) (Do np (S2 _ _ e1)) fun b u n e=>?_).at a
 unfold cutD at e ⊢
 split at e
 ·cases e
 ·rename_i nb;rw [if_neg nb,Af n];exact e
end
theorem gn_s {D:Addr} {H:Hp} {σ:St} {E:EK} {z:Str}:GN K D H σ E (dC (.str z)) (strD z):=gn_c rfl
theorem ar1 {D:Addr} {H:Hp} {σ:St} {de:DE} {th:Th} {Du:Outs} (h:GH K D H σ (Du.ex σ) de th) (k:∀ x H2,Same H H2->HandN K D H H2 x th->Du.rt x H2):dSeq (dRet de) Ad Du σ H:=h H _ (Same.refl _) k
theorem Ip {D:Addr} {H:Hp} {σ:St} {de:DE} {d:Dt} {g:DG} {Du:Outs} (h:GD K D H σ (Du.ex σ) de d) (k:∀ x H2,Same H H2->At K (cutD D H2) d x->g x σ H2 Du.nx):dSeq (dAsg de g) Ad Du σ H:=h H _ (Same.refl _) k
theorem Sj {x y:Str} {a b:Nat} (h:x.length<=a) (h':y.length<=b):(x++y).length<=a+b:=by
 show (x.cps++y.cps).size<=a+b
 rw [Array.size_append]
 exact Nat.add_le_add h h'
theorem U3 {x y:Str} {c:Nat} (h:c∈x.cps.toList):c∈(x++y).cps.toList:=by
 show c∈(x.cps++y.cps).toList
 rw [Array.toList_append]
 exact List.mem_append_left _ h
theorem U4 {x y:Str} {c:Nat} (h:c∈y.cps.toList):c∈(x++y).cps.toList:=by
 show c∈(x.cps++y.cps).toList
 rw [Array.toList_append]
 exact List.mem_append_right _ h
theorem R8 {n k:Nat} (h:k<n):ixN n (k:Int)=some k:=by unfold ixN;rw [if_pos (by omega),if_pos (by omega)];rfl
theorem Wa {H:Hp}:∀ {ds:List Dt} {xs:List V},xs.length=ds.length->(∀ (i:Nat) x d,xs[i]? = some x->ds[i]? = some d->At K H d x)->AtL K H ds xs
 | [],[],_,_=>Bb
 | [],_::_,l,_=>by simp at l
 | _::_,[],l,_=>by simp at l
 | d::ds,x::xs,l,q=>Av (q 0 x d rfl rfl) (Wa (by simpa using l) fun i y d' e e'=>q (i+1) y d' (by rw [List.getElem?_cons_succ];exact e) (by rw [List.getElem?_cons_succ];exact e'))
theorem Ix {L:Addr} {H:Hp} {o:HO}:Same (cutD L H) (cutD L (upd H L o)):=fun b u e=>by
 unfold cutD at e ⊢
 split at e
 ·cases e
 ·rename_i n;rw [if_neg n,Af n];exact e
theorem Oi {c:Nat} {ls:List Dt} (h:fewD (.lst ls)):fitD (.tup [strD ⟨#[c]⟩,.lst ls]):=by
 intro e he
 have:e=strD ⟨#[c]⟩\/e=.lst ls:=by simpa only [List.mem_cons,List.not_mem_nil,or_false] using he
 rcases this with rfl|rfl
 ·exact⟨(show 1<=1000 by decide),trivial⟩
 ·exact⟨trivial,h⟩
theorem Iw {H:Hp} {E:EK} {z:Str} {da:DA} {ls:List Dt} {R:Hp->Prop} {L:Addr} (hL:H L=none) (hz:z.length<=100) (g:∀ H1 σ,H1 L≠none->GDs K L H1 σ E da ls) (hls:ls.length<=1000)
  (k:∀ H' xs,Same H H'->H' L=some (.lst xs)->AtL K H' (z.cps.toList.map fun c=>.tup [strD ⟨#[c]⟩,.lst ls]) xs->R H') :
  CmpW (Its z) (gdN 0) dYes (dTup (Aa (dVar 0) (Aa (dLst da) dNil))) L R [none] (upd H L (.lst [])) E:=by
 have es:Dq z=z.cps.toList.map fun c=>V.str ⟨#[c]⟩:=by unfold Dq;simp
 refine C7 (Zp z) (fun m σ H'=>(∃ v,σ=[v])/\Same H H' /\ ∃ xs,H' L=some (.lst xs)/\AtL K (cutD L H') ((z.cps.toList.take m).map fun c=>.tup [strD ⟨#[c]⟩,.lst ls]) xs) ⟨⟨_,rfl⟩,Same.upd hL,[],Ab,Bb⟩ (fun _ _ _ _ _=>True.intro) ?_ ?_
 ·rintro m x σ H1 hx ⟨⟨v,rfl⟩,S1,xs,eL,A⟩
  rw [es] at hx
  obtain⟨c,hc,rfl⟩:=Am hx
  have lx:=A.length
  rw [List.length_map,List.length_take] at lx
  have key:GN K L H1 [some (.str ⟨#[c]⟩)] E (dTup (Aa (dVar 0) (Aa (dLst da) dNil))) (.tup [strD ⟨#[c]⟩,.lst ls]):=Db eL (Ag (G1 (i:=0) (σ:=[some (.str ⟨#[c]⟩)]) (v:=.str ⟨#[c]⟩) (d:=strD ⟨#[c]⟩) (fun _ _ q=>q) Ce) (Ag (Co eL (g H1 _ (by rw [eL];exact fun z=>nomatch z)) hls).gd An)) (Nat.le_of_ble_eq_true rfl)
  refine key H1 (fun v1 H5=>∃ ys,H5 L=some (.lst ys)/\ys.length<sizeLine/\(∃ v2,[some (V.str ⟨#[c]⟩)]=[v2])/\Same H (upd H5 L (.lst (ys++[v1]))) /\ ∃ xs,upd H5 L (.lst (ys++[v1])) L=some (.lst xs)/\AtL K (cutD L (upd H5 L (.lst (ys++[v1])))) ((z.cps.toList.take (m+1)).map fun c=>.tup [strD ⟨#[c]⟩,.lst ls]) xs) (Same.refl _) fun x H2 S2 a _=>?_
  refine⟨_,S2 _ _ eL,?_,⟨_,rfl⟩,(S1.trans S2).set hL,_,Ab,?_⟩
  ·have:z.cps.toList.length=z.length:=by simp [Str.length]
   exact Nat.lt_of_le_of_lt (show xs.length<=100 by omega) (by decide)
  ·rw [List.take_add_one,hc,List.map_append]
   exact Me (Bn Ix (Bn (Bu S2) A)) (Av (Bi Ix a) Bb)
 ·rintro σ H1 ⟨_,S1,xs,eL,A⟩
  rw [es,List.length_map,List.take_length] at A
  exact k H1 xs S1 eL (Bn Bc A)
theorem Q8 {l D la ta:Addr} {c:Int} {m k:Nat} {wd:Str} {ss:List Str} {sw:Sw} {H0 H:Hp} {Du:Outs} {es:List (((Str×List Str)×Addr)×Addr)} (hw:okSw sw) (ek:(c % (sw.length:Int)).toNat=k) (hk:sw[k]? = some (wd,ss)) (S:Same H0 H) (fD:H0 D=none) (L:SwL H0 H D es) (ee:es.map (·.1.1)=sw) (he:es[k]? = some (((wd,ss),la),ta)) (nd:(es.map (·.1.2)).Nodup) (hm:m<9)
  (fin:∀ H' v,Same H0 H'->NoSw K H' v->HandD K H' v (Cv sw c m)->Du.rt v H') :
  (dSeq (dIf (dTst (dBin (rEqD K false) (dVar 2) (dC (.int 0)))) (dSeq (dRet (dBin (rIxD K) (dLst (Aa (dC .non) (Aa (dC (.int 5)) (Aa (dC (.str "ab")) (Aa (dTup (Aa (dTup (Aa (dC (.str "a")) (Aa (dLst (Aa (dC (.str "b")) (Aa (dC (.str "c")) dNil))) dNil))) dNil)) (Aa (Cf [((dC (.str "a")),(dLst (Aa (dC (.str "b")) (Aa (dC (.str "c")) dNil))))]) (Aa (dLst dNil) dNil))))))) (dBin Ar (dBin A5 (dVar 1) (dC (.int 5))) (dC (.int 6)))))
  Ad) Ad)
 (dSeq (dIf (dTst (dBin (rEqD K false) (dVar 2) (dC (.int 1)))) (dSeq (dAsg (dBin (rIxD K) (dLst (Aa (dLst (Aa (dVar 5) (Aa (dVar 6) dNil))) (Aa (dTup (Aa (dVar 5) dNil)) (Aa (dTup (Aa (dVar 5) (Aa (dVar 6) (Aa (dVar 6) dNil)))) (Aa (dVar 5) (Aa (dC .non) dNil)))))) (dBin Ar (dBin A5 (dVar 1) (dC (.int 5))) (dC (.int 5)))) (By K (dVar 3) (dVar 4)))
  Ad) Ad)
 (dSeq (dIf (dTst (dBin (rEqD K false) (dVar 2) (dC (.int 2)))) (dSeq (dAsg (dTup (Aa (dBin (rIxD K) (dLst (Aa (dC (.str "")) (Aa (dBin (Ao K) (dC (.str "A")) (dSl K (dVar 5) (Bv (dC (.int 1))) Bh)) (Aa (dBin (Ao K) (dSl K (dVar 5) Bh (Bv (dC (.int 1)))) (dC (.str "1"))) (Aa (dC (.str "abcdefghi")) (Aa (dC .non) (Aa (dC (.int 3)) (Aa (dTup (Aa (dVar 5) dNil)) dNil)))))))) (dBin Ar (dBin A5 (dVar 1) (dC (.int 5))) (dC (.int 7)))) (Aa (dVar 6) dNil))) (By K (dVar 3) (dVar 4)))
  Ad) Ad)
 (dSeq (dIf (dTst (dBin (rEqD K false) (dVar 2) (dC (.int 3)))) (dSeq (dAsg (dTup (Aa (dVar 5) (Aa (dBin (rIxD K) (dLst (Aa (dFn (fun vs H Q _=>(Ej K) vs H Q) (Aa (dVar 6) dNil)) (Aa (dC (.str "ab")) (Aa (dC .non) (Aa (dLst dNil) (Aa (dSl K (dVar 6) Bh (Bv (dC (.int 1)))) (Aa (dBin (Ao K) (dVar 6) (dSl K (dVar 6) Bh (Bv (dC (.int 1))))) dNil))))))) (dBin Ar (dBin A5 (dVar 1) (dC (.int 5))) (dC (.int 6)))) dNil))) (By K (dVar 3) (dVar 4)))
  Ad) Ad)
 (dSeq (dIf (dTst (dBin (rEqD K false) (dVar 2) (dC (.int 4)))) (dSeq (dSet 7 (dBin Ar (dBin A5 (dVar 1) (dC (.int 5))) (dFn (fun vs H Q _=>(rLen K) vs H Q) (Aa (dVar 6) dNil))))
  (dSeq (dAsg (dBin (rIxD K) (dLst (Aa (dC (.str "")) (Aa (dC (.str "A")) (Aa (dC (.str "abcdefghi")) (Aa (dC (.int 1)) (Aa (dC .non) (Aa (dLst (Aa (dC (.str "a")) dNil)) (Aa (dBin (rIxD K) (dVar 6) (dBin Pd (dVar 7) (dC (.int 1)))) dNil)))))))) (dBin Ar (dBin A5 (dVar 1) (dC (.int 25))) (dC (.int 7)))) (By K (dVar 6) (dVar 7)))
  Ad)) Ad)
 (dSeq (dIf (dTst (dBin (rEqD K false) (dVar 2) (dC (.int 5)))) (dSeq (Eu (dMt (rMt K [⟨"list", "list.insert", Gg⟩]) (dVar 3) (Aa (dBin Ar (dBin A5 (dVar 1) (dC (.int 5))) (dBin (Ao K) (dFn (fun vs H Q _=>(rLen K) vs H Q) (Aa (dVar 3) dNil)) (dC (.int 1)))) (Aa (dTup (Aa (dVar 5) (Aa (dLst (Aa (dC (.str "x")) (Aa (dC (.str "y")) dNil))) dNil))) dNil))))
  Ad) Ad)
 (dSeq (dIf (dTst (dBin (rEqD K false) (dVar 2) (dC (.int 6)))) (dSeq (dRet (Bt [none] (iVal K (dC (.str "abcdef"))) (gdN 0) dYes (dTup (Aa (dVar 0) (Aa (dLst (Aa (dC (.str "x")) (Aa (dC (.str "y")) dNil))) dNil)))))
  Ad) Ad)
 (dSeq (dIf (dTst (dBin (rEqD K false) (dVar 2) (dC (.int 7)))) (dSeq (dRet (Bt [none] (iVal K (dSl K (dC (.str "abcde")) Bh (Bv (dC (.int 5))))) (gdN 0) dYes (dTup (Aa (dVar 0) (Aa (dLst (Aa (dC (.str "w")) (Aa (dC (.str "x")) (Aa (dC (.str "y")) (Aa (dC (.str "z")) dNil))))) dNil)))))
  Ad) Ad)
 (dSeq (dIf (dTst (dBin (rEqD K false) (dVar 2) (dC (.int 8)))) (dSeq (dAsg (dTup (Aa (dVar 5) (Aa (dLst (Aa (dC (.str "v")) (Aa (dC (.str "w")) (Aa (dC (.str "x")) (Aa (dC (.str "y")) (Aa (dC (.str "z")) dNil)))))) dNil))) (By K (dVar 3) (dVar 4)))
  Ad) Ad)
 (dSeq (dRet (dVar 3))
 Ad)))))))))) Du [some (.ref l),some (.int c),some (.int (m:Int)),some (.ref D),some (.int (k:Int)),some (.str wd),some (.ref la),none] H:=by
 have kl:=Aj hk
 have hmem:=List.mem_of_getElem? hk
 have how:=(hw.2.2.2.1 _ hmem).1
 have hos:=(hw.2.2.2.1 _ hmem).2
 have how:okW wd:=how
 have hos:Dd ss:=hos
 have w8:wd.length<=8:=how.2.1
 have hes:=List.mem_of_getElem? he
 have hla:H la=some (lstO ss):=L.lst _ hes
 have nla:la≠D:=(L.ne _ hes).1
 have ntD:∀ {a xs},H a=some (.tup xs)->a≠D:=fun q z=>by rw [z,L.at_] at q;cases q
 have hA:AtL K (cutD D H) (sw.map swT) (es.map fun x=>V.ref x.2):=by
  have:=Gn (K:=K) (H:=cutD D H) (ok:=any) (ds:=es) fun x hx=>⟨⟨trivial,Do (ntD (L.tup x hx)) (L.tup x hx)⟩,trivial,Do (L.ne x hx).1 (L.lst x hx)⟩
  rw [ee] at this
  exact this
 have aL:At K (cutD D H) (.lst (ss.map strD)) (.ref la):=C2 (SqL.of (Do nla hla))
 have lenE:(es.map fun x=>V.ref x.2).length=sw.length:=by rw [<- ee];simp
 have eg:sw.getD k (Str.empty,[])=(wd,ss):=by rw [List.getD_eq_getElem?_getD,hk];rfl
 have fewL:fewD (.lst (ss.map strD)):=B2 (by have:=hos.2.2;omega) fun z hz=>Nat.le_trans (hos.1.1 z hz).2.1 (by decide)
 have shW:Cp (strD wd):=Nat.le_trans w8 (by decide)
 have mk:∀ {ds:List Dt} {xs:List V} {H2:Hp},Same H H2->AtL K (upd H2 D (.lst xs)) ds xs->(∀ e∈ds,fitD e)->swOf ds=none->dep (.lst ds)<=30->Cv sw c m=.inr (.lst ds)->Du.rt (.ref D) (upd H2 D (.lst xs)):=fun {ds xs H2} S2 a f n l e=>by
  refine fin _ _ ((S.trans S2).set fD) (.inr (.inr ⟨D,xs,ds,rfl,SqL.of Ab,a,f,n⟩)) ?_
  rw [e]
  exact⟨l,Ea (SqL.of Ab) a⟩
 have sto:∀ {d:Dt} {x:V} {H2:Hp} {N:Hp->Prop},Same H H2->At K (cutD D H2) d x->swD d=none->fitD d->dep d<=10->Cv sw c m=.inr (.lst ((sw.map swT).set k d))->(Du.rt (.ref D) (upd H2 D (.lst ((es.map fun x=>V.ref x.2).set k x)))->N (upd H2 D (.lst ((es.map fun x=>V.ref x.2).set k x))))->Yk (.ref D) (.int (k:Int)) x H2 N:=fun {d x H2 N} S2 a n f l e hN=>by
  obtain⟨b1,b2,b3⟩:=To hw kl n f l
  exact .inl ⟨_,k,S2 _ _ L.at_,R8 (by rw [lenE];exact kl),hN (mk S2 (Bn F9 (Mg (Bn (Bu S2) hA) a)) b1 b2 b3 e)⟩
 have v5:∀ {E:EK} H1 (Q:VK),Q (.str wd) H1->dVar 5 [some (.ref l),some (.int c),some (.int (m:Int)),some (.ref D),some (.int (k:Int)),some (.str wd),some (.ref la),none] H1 Q E:=fun _ _ q=>q
 have v6:∀ {E:EK} H1 (Q:VK),Q (.ref la) H1->dVar 6 [some (.ref l),some (.int c),some (.int (m:Int)),some (.ref D),some (.int (k:Int)),some (.str wd),some (.ref la),none] H1 Q E:=fun _ _ q=>q
 have v1:∀ {E:EK} H1 (Q:VK),Q (.int c) H1->dVar 1 [some (.ref l),some (.int c),some (.int (m:Int)),some (.ref D),some (.int (k:Int)),some (.str wd),some (.ref la),none] H1 Q E:=fun _ _ q=>q
 have gw:∀ {E:EK},GD K D H [some (.ref l),some (.int c),some (.int (m:Int)),some (.ref D),some (.int (k:Int)),some (.str wd),some (.ref la),none] E (dVar 5) (strD wd):=G1 v5 Ce
 have gl:∀ {E:EK},GD K D H [some (.ref l),some (.int c),some (.int (m:Int)),some (.ref D),some (.int (k:Int)),some (.str wd),some (.ref la),none] E (dVar 6) (.lst (ss.map strD)):=G1 v6 aL
 rcases (show m=0\/m=1\/m=2\/m=3\/m=8\/m=5\/m=4\/m=6\/m=7 by omega) with rfl|rfl|rfl|rfl|rfl|rfl|rfl|rfl|rfl
 ·refine C4 rfl ?_
  have b:=Ct (c / 5) (n:=6) (by decide)
  refine ar1 (D:=D) (Ry (z:=.inr (.at_ .non)) (Bz (Dv (gn_c rfl) (by decide)) (Bz (Dv (gn_c rfl) (by decide)) (Bz (Dv gn_s (by decide)) (Bz (Dv (Db L.at_ (Ag (Db L.at_ (Ag gn_s.gd (Ag (Co L.at_ (Ag gn_s.gd (Ag gn_s.gd An)) (by decide)).gd An)) (by decide)).gd An) (by decide)) (by decide)) (Bz (B4 L.at_ (k:=.inr "a") (fun _ _ q=>q) (Co L.at_ (Ag gn_s.gd (Ag gn_s.gd An)) (by decide)).gd (by decide)) (Bz (Dv (Co L.at_ An (by decide)) (by decide)) Rz)))))) (Lm v1 (by decide) (by decide)) b.1 b.2 (by decide)) fun x H2 S2 h2=>?_
  refine fin H2 x (S.trans S2) ?_ h2.hand
  revert h2
  refine Cs (P:=fun th=>HandN K D H H2 x th->NoSw K H2 x) (fun th hth h2=>?_) b.1 b.2
  have hth:th=.inr (.at_ .non)\/th=.inr (.at_ (.int 5))\/th=.inr (strD "ab")\/th=.inr (.tup [.tup [strD "a", .lst [strD "b", strD "c"]]])\/th=.inl [(.inr "a", .lst [strD "b", strD "c"])]\/th=.inr (.lst []):=by simpa using hth
  rcases hth with rfl|rfl|rfl|rfl|rfl|rfl
  ·exact .inl ⟨_,Bi Bc h2.2.2,fun l e=>by cases e⟩
  ·exact .inl ⟨_,Bi Bc h2.2.2,fun l e=>by cases e⟩
  ·exact .inl ⟨_,Bi Bc h2.2.2,fun l e=>by cases e⟩
  ·exact .inl ⟨_,Bi Bc h2.2.2,fun l e=>by cases e⟩
  ·obtain⟨_,_,r,kvs,e,h,_⟩:=h2
   exact .inr (.inl ⟨r,kvs,e,h⟩)
  ·have a:=Bi Bc h2.2.2
   unfold At at a
   obtain⟨a,xs,e,q,A⟩:=a
   exact .inr (.inr ⟨a,xs,[],e,q,A,(fun d hd=>by cases hd),rfl⟩)
 ·refine Al (by decide) (C4 rfl ?_)
  have b:=Ct (c / 5) (n:=5) (by decide)
  refine Ip (D:=D) (Ie (z:=.at_ .non) (Ag (Co L.at_ (Ag gw (Ag gl An)) (Nat.le_of_ble_eq_true rfl)).gd (Ag (Db L.at_ (Ag gw An) (Nat.le_of_ble_eq_true rfl)).gd (Ag (Db L.at_ (Ag gw (Ag gl (Ag gl An))) (Nat.le_of_ble_eq_true rfl)).gd (Ag gw (Ag (gn_c rfl).gd An))))) (Lm v1 (by decide) (by decide)) b.1 b.2 (Nat.le_of_ble_eq_true rfl)) fun x H2 S2 a=>?_
  refine sto S2 a ?_ ?_ ?_ ?_ fun q=>?_
  ·refine Cs (P:=fun d=>swD d=none) (fun d hd=>?_) b.1 b.2
   have hd:d=.lst [strD wd,.lst (ss.map strD)]\/d=.tup [strD wd]\/d=.tup [strD wd,.lst (ss.map strD),.lst (ss.map strD)]\/d=strD wd\/d=.at_ .non:=by simpa using hd
   rcases hd with rfl|rfl|rfl|rfl|rfl <;> rfl
  ·refine Cs (P:=fitD) (fun d hd=>?_) b.1 b.2
   have hd:d=.lst [strD wd,.lst (ss.map strD)]\/d=.tup [strD wd]\/d=.tup [strD wd,.lst (ss.map strD),.lst (ss.map strD)]\/d=strD wd\/d=.at_ .non:=by simpa using hd
   rcases hd with rfl|rfl|rfl|rfl|rfl
   ·trivial
   ·intro e he
    have:e=strD wd:=by simpa using he
    subst this
    exact⟨shW,trivial⟩
   ·intro e he
    have:e=strD wd\/e=.lst (ss.map strD):=by simpa using he
    rcases this with rfl|rfl
    ·exact⟨shW,trivial⟩
    ·exact⟨trivial,fewL⟩
   ·trivial
   ·trivial
  ·have d1:=Bq ss
   have d0:=Ax wd
   refine Cs (P:=fun d=>dep d<=10) (fun d hd=>?_) b.1 b.2
   have hd:d=.lst [strD wd,.lst (ss.map strD)]\/d=.tup [strD wd]\/d=.tup [strD wd,.lst (ss.map strD),.lst (ss.map strD)]\/d=strD wd\/d=.at_ .non:=by simpa using hd
   have two:∀ e,(e=strD wd\/e=.lst (ss.map strD))->dep e<=1:=fun e h=>by rcases h with rfl|rfl <;> omega
   rcases hd with rfl|rfl|rfl|rfl|rfl
   ·exact Nat.le_trans (Fc (n:=1) fun e he=>two e (by simpa using he)) (by decide)
   ·exact Nat.le_trans (C3 (n:=1) fun e he=>two e (.inl (by simpa using he))) (by decide)
   ·exact Nat.le_trans (C3 (n:=1) fun e he=>two e (by simpa using he)) (by decide)
   ·omega
   ·decide
  ·simp only [Cv,ek,eg]
  ·exact q
 ·refine Al (by decide) (Al (by decide) (C4 rfl ?_))
  have b:=Ct (c / 5) (n:=7) (by decide)
  have la1:("A" ++ Txt.slice wd (some 1) none:Str).length<=9:=Sj (by decide) (Nat.le_trans (Txt.slice_le wd (some 1) none) w8)
  have la2:(Txt.slice wd none (some 1) ++ "1" : Str).length<=9:=Sj (a:=8) (b:=1) (Nat.le_trans (Txt.slice_le wd none (some 1)) w8) (by decide)
  refine Ip (D:=D) (Db L.at_ (Ag (Ie (z:=.at_ .non) (Ag gn_s.gd (Ag (Z4 v5 w8).gd (Ag (Z5 v5 w8).gd (Ag gn_s.gd (Ag (gn_c rfl).gd (Ag (gn_c rfl).gd (Ag (Db L.at_ (Ag gw An) (Nat.le_of_ble_eq_true rfl)).gd An))))))) (Lm v1 (by decide) (by decide)) b.1 b.2 (Nat.le_of_ble_eq_true rfl)) (Ag gl An)) (Nat.le_of_ble_eq_true rfl)).gd fun x H2 S2 a=>?_
  have all:∀ {P:Dt->Prop},P (strD "")->P (strD ("A" ++ Txt.slice wd (some 1) none))->P (strD (Txt.slice wd none (some 1) ++ "1"))->P (strD "abcdefghi")->P (.at_ .non)->P (.at_ (.int 3))->P (.tup [strD wd])->P (Bj [strD "", strD ("A" ++ Txt.slice wd (some 1) none),strD (Txt.slice wd none (some 1) ++ "1"),strD "abcdefghi", .at_ .non,.at_ (.int 3),.tup [strD wd]] (c / 5 % 7) (.at_ .non)):=fun {P} h1 h2 h3 h4 h5 h6 h7=>Cs (P:=P) (fun d hd=>by
   have hd:d=strD "" \/ d=strD ("A" ++ Txt.slice wd (some 1) none)\/d=strD (Txt.slice wd none (some 1) ++ "1")\/d=strD "abcdefghi" \/ d=.at_ .non\/d=.at_ (.int 3)\/d=.tup [strD wd]:=by simpa using hd
   rcases hd with rfl|rfl|rfl|rfl|rfl|rfl|rfl <;> assumption) b.1 b.2
  refine sto S2 a ?_ ?_ ?_ ?_ fun q=>?_
  ·exact all (P:=fun d=>swD (.tup [d,.lst (ss.map strD)])=none) (Gm rfl) (Gm (Kl (c:=65) (U3 (by decide)) rfl)) (Gm (Kl (c:=49) (U4 (by decide)) rfl)) (Gm rfl) rfl rfl rfl
  ·intro e he
   have:e=Bj [strD "", strD ("A" ++ Txt.slice wd (some 1) none),strD (Txt.slice wd none (some 1) ++ "1"),strD "abcdefghi", .at_ .non,.at_ (.int 3),.tup [strD wd]] (c / 5 % 7) (.at_ .non)\/e=.lst (ss.map strD):=by simpa using he
   rcases this with rfl|rfl
   ·exact all (P:=fun d=>Cp d/\fewD d) ⟨(show (0:Nat)<=1000 by decide),trivial⟩ ⟨Nat.le_trans la1 (by decide),trivial⟩ ⟨Nat.le_trans la2 (by decide),trivial⟩ ⟨(show ("abcdefghi" : Str).length<=1000 by decide),trivial⟩ ⟨trivial,trivial⟩ ⟨trivial,trivial⟩ ⟨trivial,trivial⟩
   ·exact⟨trivial,fewL⟩
  ·refine Nat.le_trans (C3 (n:=5) fun e he=>?_) (by decide)
   have:e=Bj [strD "", strD ("A" ++ Txt.slice wd (some 1) none),strD (Txt.slice wd none (some 1) ++ "1"),strD "abcdefghi", .at_ .non,.at_ (.int 3),.tup [strD wd]] (c / 5 % 7) (.at_ .non)\/e=.lst (ss.map strD):=by simpa using he
   rcases this with rfl|rfl
   ·exact all (P:=fun d=>dep d<=5) (Nat.le_trans (Ax _) (by decide)) (Nat.le_trans (Ax _) (by decide)) (Nat.le_trans (Ax _) (by decide)) (Nat.le_trans (Ax _) (by decide)) (by decide) (by decide) (Nat.le_trans (C3 (n:=0) fun e he=>by
     have:e=strD wd:=by simpa using he
     subst this
     exact Ax _) (by decide))
   ·exact Nat.le_trans (Bq ss) (by decide)
  ·simp only [Cv,ek,eg]
  ·exact q
 ·refine Al (by decide) (Al (by decide) (Al (by decide) (C4 rfl ?_)))
  have b:=Ct (c / 5) (n:=6) (by decide)
  have h4:=hos.2.2
  refine Ip (D:=D) (Db L.at_ (Ag gw (Ag (Ie (z:=.at_ .non) (Ag (Jc L.at_ v6 hla).gd (Ag gn_s.gd (Ag (gn_c rfl).gd (Ag (Co L.at_ An (by decide)).gd (Ag (R3 L.at_ v6 hla).gd (Ag (R0 L.at_ v6 hla (by omega)).gd An)))))) (Lm v1 (by decide) (by decide)) b.1 b.2 (Nat.le_of_ble_eq_true rfl)) An)) (Nat.le_of_ble_eq_true rfl)).gd fun x H2 S2 a=>?_
  have all:∀ {P:Dt->Prop},P (.tup (ss.map strD))->P (strD "ab")->P (.at_ .non)->P (.lst [])->P (.lst ((ss.take 1).map strD))->P (.lst ((ss++ss.take 1).map strD))->P (Bj [.tup (ss.map strD),strD "ab", .at_ .non,.lst [],.lst ((ss.take 1).map strD),.lst ((ss++ss.take 1).map strD)] (c / 5 % 6) (.at_ .non)):=fun {P} h1 h2 h3 h4 h5 h6=>Cs (P:=P) (fun d hd=>by
   have hd:d=.tup (ss.map strD)\/d=strD "ab" \/ d=.at_ .non\/d=.lst []\/d=.lst ((ss.take 1).map strD)\/d=.lst ((ss++ss.take 1).map strD):=by simpa only [List.mem_cons,List.not_mem_nil,or_false] using hd
   rcases hd with rfl|rfl|rfl|rfl|rfl|rfl <;> assumption) b.1 b.2
  have ml:∀ z∈ss++ss.take 1,z.length<=1000:=fun z hz=>by
   have hz:z∈ss:=(List.mem_append.mp hz).elim id List.mem_of_mem_take
   exact Nat.le_trans (hos.1.1 z hz).2.1 (by decide)
  refine sto S2 a ?_ ?_ ?_ ?_ fun q=>?_
  ·refine all (P:=fun d=>swD (.tup [strD wd,d])=none) rfl rfl rfl (D5 (l:=[]) rfl) (D5 ?_) (D5 ?_)
   ·rw [List.length_take,Bool.and_comm,decide_eq_false (by omega)]
    rfl
   ·have:¬ (ss++ss.take 1).Nodup:=fun nd=>by
     have h2:=hos.2.1
     have h0:0<ss.length:=by omega
     rw [List.nodup_append] at nd
     exact nd.2.2 _ (List.getElem_mem h0) _ (by rw [List.mem_take_iff_getElem];exact⟨0,by omega,rfl⟩) rfl
    rw [decide_eq_false this,Bool.and_false]
    rfl
  ·intro e he
   have:e=strD wd\/e=Bj [.tup (ss.map strD),strD "ab", .at_ .non,.lst [],.lst ((ss.take 1).map strD),.lst ((ss++ss.take 1).map strD)] (c / 5 % 6) (.at_ .non):=by simpa only [List.mem_cons,List.not_mem_nil,or_false] using he
   rcases this with rfl|rfl
   ·exact⟨shW,trivial⟩
   ·exact all (P:=fun d=>Cp d/\fewD d) ⟨trivial,trivial⟩ ⟨(show ("ab" : Str).length<=1000 by decide),trivial⟩ ⟨trivial,trivial⟩ ⟨trivial,(show 0<=29 by decide),fun d hd=>by cases hd⟩ ⟨trivial,B2 (by rw [List.length_take];omega) fun z hz=>ml z (List.mem_append_right _ hz)⟩ ⟨trivial,B2 (by rw [List.length_append,List.length_take];omega) ml⟩
  ·refine Nat.le_trans (C3 (n:=5) fun e he=>?_) (by decide)
   have:e=strD wd\/e=Bj [.tup (ss.map strD),strD "ab", .at_ .non,.lst [],.lst ((ss.take 1).map strD),.lst ((ss++ss.take 1).map strD)] (c / 5 % 6) (.at_ .non):=by simpa only [List.mem_cons,List.not_mem_nil,or_false] using he
   rcases this with rfl|rfl
   ·exact Nat.le_trans (Ax _) (by decide)
   ·exact all (P:=fun d=>dep d<=5) (Nat.le_trans (Oa _) (by decide)) (Nat.le_trans (Ax _) (by decide)) (by decide) (by decide) (Nat.le_trans (Bq _) (by decide)) (Nat.le_trans (Bq _) (by decide))
  ·simp only [Cv,ek,eg]
  ·exact q
 ·refine Al (by decide) (Al (by decide) (Al (by decide) (Al (by decide) (Al (by decide) (Al (by decide) (Al (by decide) (Al (by decide) (C4 rfl ?_))))))))
  refine Ip (D:=D) (Db L.at_ (Ag gw (Ag (Co L.at_ (Ag gn_s.gd (Ag gn_s.gd (Ag gn_s.gd (Ag gn_s.gd (Ag gn_s.gd An))))) (by decide)).gd An)) (Nat.le_of_ble_eq_true rfl)).gd fun x H2 S2 a=>?_
  refine sto S2 a ?_ ?_ ?_ ?_ fun q=>?_
  ·exact D5 (l:=["v", "w", "x", "y", "z"]) (by decide)
  ·intro e he
   have:e=strD wd\/e=.lst [strD "v", strD "w", strD "x", strD "y", strD "z"]:=by simpa only [List.mem_cons,List.not_mem_nil,or_false] using he
   rcases this with rfl|rfl
   ·exact⟨shW,trivial⟩
   ·exact⟨trivial,B2 (l:=["v", "w", "x", "y", "z"]) (by decide) (by decide)⟩
  ·refine Nat.le_trans (C3 (n:=5) fun e he=>?_) (by decide)
   have:e=strD wd\/e=.lst [strD "v", strD "w", strD "x", strD "y", strD "z"]:=by simpa only [List.mem_cons,List.not_mem_nil,or_false] using he
   rcases this with rfl|rfl
   ·exact Nat.le_trans (Ax _) (by decide)
   ·exact Nat.le_trans (Bq ["v", "w", "x", "y", "z"]) (by decide)
  ·simp only [Cv,ek,eg]
  ·exact q
 ·refine Al (by decide) (Al (by decide) (Al (by decide) (Al (by decide) (Al (by decide) (C4 rfl ?_)))))
  refine⟨.inl ⟨rfl,_,SqL.of L.at_⟩,⟨by decide,by decide⟩,.inl ⟨_,.inl (SqL.of L.at_),?_⟩⟩
  rw [lenE]
  have b:=Ct (c / 5) (n:=(sw.length:Int)+1) (by omega)
  refine⟨by omega,?_⟩
  obtain⟨n,en⟩:∃ n:Nat,c / 5 % ((sw.length:Int)+1)=(n:Int):=⟨_,(Int.toNat_of_nonneg b.1).symm⟩
  have nl:n<=sw.length:=by omega
  refine (Db L.at_ (Ag gw (Ag (Co L.at_ (Ag gn_s.gd (Ag gn_s.gd An)) (by decide)).gd An)) (Nat.le_of_ble_eq_true rfl)) H _ (Same.refl _) fun x H2 S2 a _=>?_
  have h5:=hw.2.1
  refine⟨D,_,x,n,rfl,by rw [en],S2 _ _ L.at_,by rw [lenE];exact nl,by rw [lenE];exact Nat.lt_of_le_of_lt h5 (by decide),?_⟩
  have A2:=Bn (Bu S2) hA
  refine mk S2 (ds:=(sw.map swT).take n++.tup [strD wd,.lst [strD "x", strD "y"]]::(sw.map swT).drop n) (Me (Bn F9 (N1 A2)) (Av (Bi F9 a) (Bn F9 (N0 A2)))) (fun e he=>?_) (Ra fun nd'=>?_) ?_ ?_
  ·have:e∈sw.map swT\/e=.tup [strD wd,.lst [strD "x", strD "y"]]:=by
    rcases List.mem_append.mp he with h|h
    ·exact .inl (List.mem_of_mem_take h)
    ·rcases List.mem_cons.mp h with h|h
     ·exact .inr h
     ·exact .inl (List.mem_of_mem_drop h)
   rcases this with h|rfl
   ·obtain⟨y,hy,rfl⟩:=List.mem_map.mp h
    exact Mu (hw.2.2.2.1 y hy).1 (hw.2.2.2.1 y hy).2
   ·intro e he
    have:e=strD wd\/e=.lst [strD "x", strD "y"]:=by simpa only [List.mem_cons,List.not_mem_nil,or_false] using he
    rcases this with rfl|rfl
    ·exact⟨shW,trivial⟩
    ·exact⟨trivial,B2 (l:=["x", "y"]) (by decide) (by decide)⟩
  ·rw [List.map_append,List.map_cons] at nd'
   have np:=(List.perm_middle.nodup_iff).mp nd'
   rw [<- List.map_append,List.take_append_drop] at np
   refine (List.nodup_cons.mp np).1 ?_
   rw [List.map_map]
   exact List.mem_map.mpr ⟨(wd,ss),hmem,rfl⟩
  ·refine Nat.le_trans (Fc (n:=5) fun e he=>?_) (by decide)
   have:e∈sw.map swT\/e=.tup [strD wd,.lst [strD "x", strD "y"]]:=by
    rcases List.mem_append.mp he with h|h
    ·exact .inl (List.mem_of_mem_take h)
    ·rcases List.mem_cons.mp h with h|h
     ·exact .inr h
     ·exact .inl (List.mem_of_mem_drop h)
   rcases this with h|rfl
   ·obtain⟨y,hy,rfl⟩:=List.mem_map.mp h
    exact Nat.le_trans (Mt y) (by decide)
   ·refine Nat.le_trans (C3 (n:=2) fun e he=>?_) (by decide)
    have:e=strD wd\/e=.lst [strD "x", strD "y"]:=by simpa only [List.mem_cons,List.not_mem_nil,or_false] using he
    rcases this with rfl|rfl
    ·exact Nat.le_trans (Ax _) (by decide)
    ·exact Nat.le_trans (Bq ["x", "y"]) (by decide)
  ·simp only [Cv,ek,eg,en,Int.toNat_natCast]
 ·refine Al (by decide) (Al (by decide) (Al (by decide) (Al (by decide) (C4 rfl ?_))))
  refine⟨⟨by decide,by decide⟩,.inl ⟨_,.inl (SqL.of hla),?_⟩⟩
  rw [List.length_map]
  have h2:=hos.2.1
  have h4:=hos.2.2
  have bj:=Ct (c / 5) (n:=(ss.length:Int)) (by omega)
  refine⟨by omega,?_⟩
  obtain⟨j,ej⟩:∃ j:Nat,c / 5 % (ss.length:Int)=(j:Int):=⟨_,(Int.toNat_of_nonneg bj.1).symm⟩
  rw [ej]
  have jl:j<ss.length:=by omega
  have b:=Ct (c / 25) (n:=7) (by decide)
  have v1':∀ {E:EK} H1 (Q:VK),Q (.int c) H1->dVar 1 [some (.ref l),some (.int c),some (.int ((4:Nat):Int)),some (.ref D),some (.int (k:Int)),some (.str wd),some (.ref la),some (.int (j:Int))] H1 Q E:=fun _ _ q=>q
  have pl:(if j=0 then ss.length - 1 else j - 1)<ss.length:=by split <;> omega
  have pn:(if j=0 then ss.length - 1 else j - 1)≠j:=by split <;> omega
  have gi:∀ {E:EK},GD K la H [some (.ref l),some (.int c),some (.int ((4:Nat):Int)),some (.ref D),some (.int (k:Int)),some (.str wd),some (.ref la),some (.int (j:Int))] E (dBin (rIxD K) (dVar 6) (dBin Pd (dVar 7) (dC (.int 1)))) (strD (ss.getD (if j=0 then ss.length - 1 else j - 1) Str.empty)):=fun {E} H1 Q S1 q=>by
   refine⟨_,.str (ss.getD (if j=0 then ss.length - 1 else j - 1) Str.empty),.inl (SqL.of (S1 _ _ hla)),?_,q _ _ (Same.refl _) Ce⟩
   unfold atI
   have:ixN (ss.map V.str).length ((j:Int) - 1)=some (if j=0 then ss.length - 1 else j - 1):=by
    unfold ixN
    rw [List.length_map]
    by_cases h0:j=0
    ·subst h0
     rw [if_neg (by decide),if_pos (by omega),if_pos rfl]
     congr 1
     omega
    ·rw [if_pos (by omega),if_pos (by omega),if_neg h0]
     congr 1
     omega
   rw [this]
   show (ss.map V.str)[_]? = _
   rw [List.getElem?_map,List.getElem?_eq_getElem pl,List.getD_eq_getElem?_getD,List.getElem?_eq_getElem pl]
   rfl
  have all:∀ {P:Dt->Prop},P (strD "")->P (strD "A")->P (strD "abcdefghi")->P (.at_ (.int 1))->P (.at_ .non)->P (.lst [strD "a"])->P (strD (ss.getD (if j=0 then ss.length - 1 else j - 1) Str.empty))->P (Bj [strD "", strD "A", strD "abcdefghi", .at_ (.int 1),.at_ .non,.lst [strD "a"],strD (ss.getD (if j=0 then ss.length - 1 else j - 1) Str.empty)] (c / 25 % 7) (.at_ .non)):=fun {P} h1 h2 h3 h4 h5 h6 h7=>Cs (P:=P) (fun d hd=>by
   have hd:d=strD "" \/ d=strD "A" \/ d=strD "abcdefghi" \/ d=.at_ (.int 1)\/d=.at_ .non\/d=.lst [strD "a"]\/d=strD (ss.getD (if j=0 then ss.length - 1 else j - 1) Str.empty):=by simpa only [List.mem_cons,List.not_mem_nil,or_false] using hd
   rcases hd with rfl|rfl|rfl|rfl|rfl|rfl|rfl <;> assumption) b.1 b.2
  refine Ip (D:=la) (Ie (z:=.at_ .non) (Ag gn_s.gd (Ag gn_s.gd (Ag gn_s.gd (Ag (gn_c rfl).gd (Ag (gn_c rfl).gd (Ag (Co hla (Ag gn_s.gd An) (by decide)).gd (Ag gi An))))))) (Lm v1' (by decide) (by decide)) b.1 b.2 (Nat.le_of_ble_eq_true rfl)) fun x H2 S2 a=>?_
  refine .inl ⟨_,j,S2 _ _ hla,R8 (by rw [List.length_map];exact jl),?_⟩
  generalize hdd:Bj [strD "", strD "A", strD "abcdefghi", .at_ (.int 1),.at_ .non,.lst [strD "a"],strD (ss.getD (if j=0 then ss.length - 1 else j - 1) Str.empty)] (c / 25 % 7) (.at_ .non)=d at a
  have setz:∀ z:Str,((ss.map strD).set j (strD z))=(ss.set j z).map strD:=fun z=>by rw [List.map_set]
  have nw:∀ z:Str,As z=false->swD (.tup [strD wd,.lst ((ss.map strD).set j (strD z))])=none:=fun z hz=>by
   rw [setz]
   refine D5 ?_
   have:(ss.set j z).all As=false:=List.all_eq_false.mpr ⟨z,List.mem_set jl z,by rw [hz];decide⟩
   rw [this]
   rfl
  have nv:∀ v:Dt,(∀ z,v≠strD z)->swD (.tup [strD wd,.lst ((ss.map strD).set j v)])=none:=fun v hv=>Tt fun l' e=>by
   rw [Ma (List.mem_set (by rw [List.length_map];exact jl) v) hv] at e
   cases e
  have hsd:swD (.tup [strD wd,.lst ((ss.map strD).set j d)])=none:=by
   rw [<- hdd]
   refine all (P:=fun d=>swD (.tup [strD wd,.lst ((ss.map strD).set j d)])=none) (nw _ rfl) (nw _ rfl) (nw _ rfl) (nv _ fun z e=>by cases e) (nv _ fun z e=>by cases e) (nv _ fun z e=>by cases e) ?_
   rw [setz]
   refine D5 ?_
   have:¬ (ss.set j (ss.getD (if j=0 then ss.length - 1 else j - 1) Str.empty)).Nodup:=fun nd'=>by
    rw [List.getD_eq_getElem?_getD,List.getElem?_eq_getElem pl] at nd'
    have:=(List.getElem_inj (i:=j) (j:=if j=0 then ss.length - 1 else j - 1) (h₀:=by rw [List.length_set];exact jl) (h₁:=by rw [List.length_set];exact pl) nd').mp (by rw [List.getElem_set_self,List.getElem_set_ne (Ne.symm pn)];rfl)
    exact pn this.symm
   rw [decide_eq_false this,Bool.and_false]
   rfl
  have hfd:Cp d/\dep d<=5:=by
   rw [<- hdd]
   refine all (P:=fun d=>Cp d/\dep d<=5) ⟨(show (0:Nat)<=1000 by decide),by decide⟩ ⟨(show ("A" : Str).length<=1000 by decide),by decide⟩ ⟨(show ("abcdefghi" : Str).length<=1000 by decide),by decide⟩ ⟨trivial,by decide⟩ ⟨trivial,by decide⟩ ⟨trivial,by decide⟩ ⟨?_,Nat.le_trans (Ax _) (by decide)⟩
   rw [List.getD_eq_getElem?_getD,List.getElem?_eq_getElem pl]
   exact Nat.le_trans (hos.1.1 _ (List.getElem_mem pl)).2.1 (by decide)
  have memS:∀ e∈(ss.map strD).set j d,Cp e/\dep e<=5:=fun e he=>by
   rcases mem_set he with h|rfl
   ·obtain⟨z,hz,rfl⟩:=List.mem_map.mp h
    exact⟨Nat.le_trans (hos.1.1 z hz).2.1 (by decide),Nat.le_trans (Ax _) (by decide)⟩
   ·exact hfd
  have hfit:fitD (.tup [strD wd,.lst ((ss.map strD).set j d)]):=by
   intro e he
   have:e=strD wd\/e=.lst ((ss.map strD).set j d):=by simpa only [List.mem_cons,List.not_mem_nil,or_false] using he
   rcases this with rfl|rfl
   ·exact⟨shW,trivial⟩
   ·exact⟨trivial,by rw [List.length_set,List.length_map];omega,fun e he=>(memS e he).1⟩
  have hdep:dep (.tup [strD wd,.lst ((ss.map strD).set j d)])<=10:=by
   refine Nat.le_trans (C3 (n:=6) fun e he=>?_) (by decide)
   have:e=strD wd\/e=.lst ((ss.map strD).set j d):=by simpa only [List.mem_cons,List.not_mem_nil,or_false] using he
   rcases this with rfl|rfl
   ·exact Nat.le_trans (Ax _) (by decide)
   ·exact Fc fun e he=>(memS e he).2
  obtain⟨b1,b2,b3⟩:=To hw kl hsd hfit hdep
  have ntl:∀ {a' xs'},H a'=some (.tup xs')->a'≠la:=fun q z=>by rw [z,hla] at q;cases q
  have Sl:∀ b o,b≠la->H b=some o->upd H2 la (.lst ((ss.map V.str).set j x)) b=some o:=fun b o n e=>by rw [Af n];exact S2 _ _ e
  have eD3:=Sl D _ nla.symm L.at_
  have A3:AtL K (upd H2 la (.lst ((ss.map V.str).set j x))) ((sw.map swT).set k (.tup [strD wd,.lst ((ss.map strD).set j d)])) (es.map fun x=>V.ref x.2):=by
   refine Wa (by rw [List.length_set,List.length_map,List.length_map,<- ee,List.length_map]) fun i y dy hy hdy=>?_
   obtain⟨⟨⟨e,lb⟩,tb⟩,hi,rfl⟩:=Am hy
   have hmi:=List.mem_of_getElem? hi
   have ht:=Sl tb _ (ntl (L.tup _ hmi)) (L.tup _ hmi)
   by_cases ik:i=k
   ·subst ik
    rw [he] at hi
    cases hi
    rw [List.getElem?_set_self (by rw [List.length_map];exact kl)] at hdy
    cases hdy
    exact Mh (SqT.of ht) (Av Ce (Av (Ea (SqL.of Ab) (Mg Fy (Bi F9 a))) Bb))
   ·rw [List.getElem?_set_ne (Ne.symm ik),List.getElem?_map] at hdy
    have hs:sw[i]? = some e:=by rw [<- ee,List.getElem?_map,hi];rfl
    rw [hs] at hdy
    cases hdy
    have nlb:lb≠la:=fun z=>by
     have i1:=Aj hi
     have i2:=Aj he
     have:=(List.getElem_inj (i:=i) (j:=k) (h₀:=by rw [List.length_map];exact i1) (h₁:=by rw [List.length_map];exact i2) nd).mp (by
      rw [List.getElem_map,List.getElem_map]
      rw [List.getElem?_eq_getElem i1] at hi
      rw [List.getElem?_eq_getElem i2] at he
      rw [Option.some.inj hi,Option.some.inj he]
      exact z)
     exact ik this
    exact Mh (SqT.of ht) (Av Ce (Av (C2 (SqL.of (Sl lb _ nlb (L.lst _ hmi)))) Bb))
  refine fin _ _ ((S.trans S2).set (L.ne _ hes).2) (.inr (.inr ⟨D,_,_,rfl,SqL.of eD3,A3,b1,b2⟩)) ?_
  have es:Cv sw c 4=.inr (.lst ((sw.map swT).set k (.tup [strD wd,.lst ((ss.map strD).set j d)]))):=by
   rw [<- hdd]
   simp only [Cv,ek,eg,ej,Int.toNat_natCast]
  rw [es]
  exact⟨b3,Ea (SqL.of eD3) A3⟩
 ·refine Al (by decide) (Al (by decide) (Al (by decide) (Al (by decide) (Al (by decide) (Al (by decide) (C4 rfl ?_))))))
  intro L' hL'
  refine Iw (K:=K) (ls:=[strD "x", strD "y"]) hL' (by decide) (fun H1 σ _=>Ag gn_s.gd (Ag gn_s.gd An)) (by decide) fun H' xs S' eL' A'=>?_
  exact fin H' (.ref L') (S.trans S') (.inr (.inr ⟨L',xs,_,rfl,SqL.of eL',A',fun d hd=>by
    obtain⟨c',hc',rfl⟩:=List.mem_map.mp hd
    exact Oi (B2 (l:=["x", "y"]) (by decide) (by decide)),rfl⟩)) ⟨by decide,Ea (SqL.of eL') A'⟩
 ·refine Al (by decide) (Al (by decide) (Al (by decide) (Al (by decide) (Al (by decide) (Al (by decide) (Al (by decide) (C4 rfl ?_)))))))
  refine⟨by decide,fun L' hL'=>?_⟩
  refine Iw (K:=K) (ls:=[strD "w", strD "x", strD "y", strD "z"]) hL' (by decide) (fun H1 σ _=>Ag gn_s.gd (Ag gn_s.gd (Ag gn_s.gd (Ag gn_s.gd An)))) (by decide) fun H' xs S' eL' A'=>?_
  have A':AtL K H' ([97,98,99,100,101].map fun z:Nat=>.tup [strD ⟨#[z]⟩,.lst [strD "w", strD "x", strD "y", strD "z"]]) xs:=A'
  exact fin H' (.ref L') (S.trans S') (.inr (.inr ⟨L',xs,_,rfl,SqL.of eL',A',(fun d hd=>by
    obtain⟨c',hc',rfl⟩:=List.mem_map.mp hd
    exact Oi (B2 (l:=["w", "x", "y", "z"]) (by decide) (by decide))),rfl⟩)) ⟨by decide,Ea (SqL.of eL') A'⟩
end
section
variable {P:Program} {w:World} {K:PySem.W.Frag} {mg:Str->Option Value} {base:Heap} {t:Adr}
theorem av9 {f:Addr} {fd:FuncData} (Z:Au K t) (F:FunD K "_law_switches_spoilt" "_law_switches_spoilt" s_za f fd .none) (T:Tab P w K mg base 1 (gb_1 K t) bl):FnOk P w K mg base CX0 2 f fd P_za (Yu K t):=by
 refine F.okW0 a32 a75 T (a06 K t) (fun vs H Q E h=>?_) (fun vs H Q E h=>?_)
 ·obtain⟨l,c,m,sw,rfl,_⟩:=h;rfl
 ·obtain⟨l,c,m,sw,rfl,hm,hsw,hw,k⟩:=h
  refine⟨l,sw,rfl,hsw,hw,fun H1 D es S1 fD ee L nd=>?_⟩
  have lenE:(es.map fun x=>V.ref x.2).length=sw.length:=by rw [<- ee];simp
  have h1:=hw.1
  refine .inl ⟨_,.inl (SqL.of L.at_),?_⟩
  rw [lenE]
  have b:=Ct c (n:=(sw.length:Int)) (by omega)
  obtain⟨kk,ek⟩:∃ n:Nat,c % (sw.length:Int)=(n:Int):=⟨_,(Int.toNat_of_nonneg b.1).symm⟩
  have kl:kk<sw.length:=by omega
  have kl2:kk<es.length:=by rw [List.length_map] at lenE;omega
  obtain⟨⟨⟨⟨wd,ss⟩,la⟩,ta⟩,he⟩:∃ x,es[kk]? = some x:=⟨_,List.getElem?_eq_getElem kl2⟩
  have hk:sw[kk]? = some (wd,ss):=by rw [<- ee,List.getElem?_map,he];rfl
  refine⟨by omega,?_⟩
  rw [ek]
  refine⟨_,.ref ta,.inl (SqL.of L.at_),Bs (j:=kk) (by rw [List.getElem?_map,he];rfl),_,SqT.of (L.tup _ (List.mem_of_getElem? he)),rfl,?_⟩
  exact Q8 hw (by rw [ek];exact Int.toNat_natCast _) hk S1 fD L ee he nd hm fun H' v S n h=>k H' v S n h
def Sing (K:PySem.W.Frag) (D:Addr) (H H2:Hp) (v:V) (th:Th):Prop:=∃ a x,v=.ref a/\H2 a=some (.lst [x])/\HandN K D H H2 x th
def Sings (K:PySem.W.Frag) (D:Addr) (H H2:Hp) (xs:List V) (ths:List Th):Prop:=xs.length=ths.length /\ ∀ (i:Nat) x th,xs[i]? = some x->ths[i]? = some th->Sing K D H H2 x th
theorem Sing.up {D:Addr} {H H1 H2:Hp} {v:V} {th:Th} (S:Same H1 H2) (h:Sing K D H H1 v th):Sing K D H H2 v th:=by
 obtain⟨a,x,e,q,n⟩:=h
 exact⟨a,x,e,S _ _ q,n.up S⟩
theorem Sings.up {D:Addr} {H H1 H2:Hp} {xs:List V} {ths:List Th} (S:Same H1 H2) (h:Sings K D H H1 xs ths):Sings K D H H2 xs ths:=⟨h.1,fun i x th e1 e2=>(h.2 i x th e1 e2).up S⟩
theorem Sings.app {D:Addr} {H H1:Hp} {xs ys:List V} {ths ts:List Th} (h:Sings K D H H1 xs ths) (g:Sings K D H H1 ys ts):Sings K D H H1 (xs++ys) (ths++ts):=by
 refine⟨by rw [List.length_append,List.length_append,h.1,g.1],fun i x th e1 e2=>?_⟩
 by_cases hi:i<xs.length
 ·rw [List.getElem?_append_left hi] at e1
  rw [List.getElem?_append_left (h.1▸hi)] at e2
  exact h.2 i x th e1 e2
 ·have hi:xs.length<=i:=by omega
  rw [List.getElem?_append_right hi] at e1
  rw [List.getElem?_append_right (h.1▸hi),<- h.1] at e2
  exact g.2 _ x th e1 e2
def GSs (K:PySem.W.Frag) (D:Addr) (H:Hp) (σ:St) (E:EK) (da:DA) (ths:List Th):Prop:=∀ H1 (Q:List V->Hp->Prop),Same H H1->(∀ xs H2,Same H1 H2->Sings K D H H2 xs ths->Q xs H2)->da σ H1 Q E
theorem Mw {D:Addr} {H:Hp} {σ:St} {E:EK}:GSs K D H σ E dNil []:=fun H1 Q S q=>q [] H1 (Same.refl _) ⟨rfl,fun i x th e=>by simp at e⟩
theorem Bd {D:Addr} {H:Hp} {σ:St} {E:EK} {de:DE} {da:DA} {th:Th} {ths:List Th} (h:GH K D H σ E de th) (g:GSs K D H σ E da ths):GSs K D H σ E (Aa (dLst (Aa de dNil)) da) (th::ths):=fun H1 Q S q=>
 h H1 _ S fun x H2 S2 a=>⟨(show 1<=sizeLine by decide),fun p hp=>g _ _ (S.trans (S2.trans (Same.upd hp))) fun xs H3 S3 b=>q (.ref p::xs) H3 ((S2.trans (Same.upd hp)).trans S3) ⟨by rw [List.length_cons,List.length_cons,b.1],fun i y th' e1 e2=>by
  cases i with
  | zero=>simp at e1 e2;subst e1 e2;exact⟨p,x,rfl,S3 _ _ Ab,(a.up (Same.upd hp)).up S3⟩
  | succ i=>rw [List.getElem?_cons_succ] at e1 e2;exact b.2 i y th' e1 e2⟩⟩
def entK:Key×Dt->Option (Str×List Str)
 | (.inr w,.lst ds)=>(Az ds).map fun l=>(w,l)
 | _=>none
def okK:Key×Dt->Prop
 | (.inr _,.lst ds)=>ds.length<=29 /\ ∀ d∈ds,Cp d
 | (.inr _,_)=>True
 | (.inl i,_)=>0<=i
theorem Oh {ds:List Dt} {l:List Str} (h:ds.length<=29 /\ ∀ d∈ds,Cp d) (e:Az ds=some l):fewS l:=by
 obtain⟨_,rfl⟩:=D4 e
 exact⟨by have:=h.1;rwa [List.length_map] at this,fun z hz=>h.2 (strD z) (List.mem_map.mpr ⟨z,hz,rfl⟩)⟩
theorem au9 {H:Hp} {k:Key} {d:Dt} {x:V} (a:At K H d x) (o:okK (k,d)):EntV K H k x (entK (k,d)):=by
 cases k with
 | inl i=>
  have o:0<=i:=by cases d <;> exact o
  exact .inl ⟨i.toNat,by rw [Int.toNat_of_nonneg o]⟩
 | inr wd=>
  cases d with
  | at_ v=>exact .inr ⟨wd,rfl,_,a,rfl,trivial⟩
  | tup l=>exact .inr ⟨wd,rfl,_,a,rfl,trivial⟩
  | lst ds=>
   show EntV K H (.inr wd) x ((Az ds).map fun l=>(wd,l))
   cases e:Az ds with
   | none=>exact .inr ⟨wd,rfl,_,a,by show (match Az ds with|some l=>l.all As&&decide l.Nodup|none=>false)=false;rw [e],o⟩
   | some l=>
    unfold At at a
    obtain⟨b,xs,rfl,q,A⟩:=a
    have:=El A e
    subst this
    exact⟨rfl,Oh o e,b,rfl,q⟩
theorem au5 {D:Addr} {H0 H:Hp} {x:V} {kds:List (Key×Dt)} (h:HandN K D H0 H x (.inl kds)) (ok:∀ kd∈kds,okK kd) (nd:(kds.map (·.1)).Nodup) (l:kds.length<=100):∃ r kvs,x=.ref r/\BoxV K H r kvs (kds.map entK)/\(kds=[]->kvs=[]):=by
 obtain⟨_,_,r,kvs,rfl,hr,ek,A⟩:=h
 have len:kvs.length=kds.length:=by have:=congrArg List.length ek;simpa using this
 refine⟨r,kvs,rfl,⟨hr,by rw [List.length_map,len],by omega,by rw [ek];exact nd,fun i k v o e1 e2=>?_⟩,fun e=>List.length_eq_zero_iff.mp (by rw [len,e];rfl)⟩
 obtain⟨⟨k',d⟩,e3,rfl⟩:=Am e2
 have hk:k'=k:=by
  have h1:(kvs.map (·.1))[i]? = some k:=by rw [List.getElem?_map,e1];rfl
  have h2:(kds.map (·.1))[i]? = some k':=by rw [List.getElem?_map,e3];rfl
  rw [ek,h2] at h1
  exact Option.some.inj h1
 subst hk
 obtain⟨d',e4,a⟩:=Fx A (i:=i) (x:=v) (by rw [List.getElem?_map,e1];rfl)
 rw [List.getElem?_map,e3] at e4
 cases e4
 exact au9 (Bi Bc a) (ok _ (List.mem_of_getElem? e3))
def BadT (sw:Sw):Th->Prop
 | .inr _=>True
 | .inl kds=>(∀ kd∈kds,okK kd)/\(kds.map (·.1)).Nodup/\kds.length<=100/\(kds=[] \/ ∃ kd∈kds,∀ e,entK kd=some e -> ¬ B1 sw e)
theorem au4 {D:Addr} {H0 H:Hp} {x:V} {sw:Sw}:∀ {th:Th},HandN K D H0 H x th->BadT sw th->BadE any K H sw x
 | .inr d,h,_=>.inl ⟨d,Bi Bc h.2.2⟩
 | .inl kds,h,⟨o,nd,l,b⟩=>by
  obtain⟨r,kvs,e,B,z⟩:=au5 h o nd l
  refine .inr ⟨r,kvs,_,e,trivial,B,?_⟩
  rcases b with b|⟨kd,hm,hn⟩
  ·exact .inl (z b)
  ·exact .inr ⟨_,List.mem_map.mpr ⟨kd,hm,rfl⟩,hn⟩
theorem HandN.fresh' {D:Addr} {H0 H:Hp} {x:V}:∀ {th:Th},HandN K D H0 H x th -> ∀ r,x=.ref r->H0 r=none
 | .inr _,h=>h.2.1
 | .inl _,h=>h.2.1
theorem Ld {ok:Addr->Prop} {H:Hp} {d:Addr} {rule:Sw} (h:RuleAt ok H d rule):HandD K H (.ref d) (ruT rule):=by
 obtain⟨ds,ed,⟨_,od⟩,hd⟩:=h
 refine⟨Hz fun e he=>?_,d,_,rfl,.inl od,?_,?_⟩
 ·rw [List.map_map] at he
  obtain⟨x,_,rfl⟩:=List.mem_map.mp he
  exact Nat.le_trans (Bq x.2) (by decide)
 ·rw [Ed,ed,List.map_map,List.map_map]
  rfl
 ·have:∀ {ds:List ((Str×List Str)×Addr)},(∀ x∈ds,H x.2=some (lstO x.1.2))->AtL K H (((ds.map (·.1)).map fun e:Str×List Str=>((.inr e.1:Key),Dt.lst (e.2.map strD))).map (·.2)) ((ds.map kR).map (·.2)):=fun {ds}=>by
   induction ds with
   | nil=>exact fun _=>Bb
   | cons x ds ih=>exact fun h=>Av (C2 (SqL.of (h x List.mem_cons_self))) (ih fun y hy=>h y (List.mem_cons_of_mem _ hy))
  rw [<- ed]
  exact this fun x hx=>(hd x hx).2
theorem Wc {sw:Sw} {wd:Str} {ss:List Str} (hw:okSw sw) (hm:(wd,ss)∈sw):∀ th∈([.inr (.tup (ss.map strD)),.inr (.at_ .non),.inr (.at_ (.int 5)),.inr (.lst [strD wd,.lst (ss.map strD)]),.inl [],.inl [(.inr wd,.lst [])],.inl [(.inr wd,strD (ss.getD 0 Str.empty))],
   .inl [(.inr wd,.tup (ss.map strD))],.inl [(.inr wd,.lst ((ss++ss.take 1).map strD))],.inl [(.inr wd,.lst [strD "No"])],.inl [(.inr wd,.lst [.at_ .non])],.inl [(.inr "no.", .lst (ss.map strD))],.inl [(.inl 1,.lst (ss.map strD))],.inl [(.inr wd,.at_ .non)]]:List Th),BadT sw th:=by
 have hos:Dd ss:=hw.sets _ hm
 have f:=B2 (l:=ss) (by have:=hos.2.2;omega) fun z hz=>Nat.le_trans (hos.1.1 z hz).2.1 (by decide)
 have one:∀ {kd:Key×Dt},okK kd->(∀ e,entK kd=some e -> ¬ B1 sw e)->BadT sw (.inl [kd]):=fun {kd} o n=>⟨fun x hx=>by
  have:x=kd:=by simpa only [List.mem_singleton] using hx
  subst this
  exact o,by simp,Nat.le_of_ble_eq_true rfl,.inr ⟨kd,List.mem_singleton.mpr rfl,n⟩⟩
 intro th hth
 simp only [List.mem_cons,List.not_mem_nil,or_false] at hth
 rcases hth with rfl|rfl|rfl|rfl|rfl|rfl|rfl|rfl|rfl|rfl|rfl|rfl|rfl|rfl
 ·trivial
 ·trivial
 ·trivial
 ·trivial
 ·exact⟨fun x hx=>(by cases hx),List.nodup_nil,Nat.zero_le _,.inl rfl⟩
 ·exact one ⟨by decide,fun d hd=>by cases hd⟩ fun e he o=>by cases he;exact o.1 rfl
 ·exact one trivial fun e he=>by cases he
 ·exact one trivial fun e he=>by cases he
 ·refine one (B2 (l:=ss++ss.take 1) (by rw [List.length_append,List.length_take];have:=hos.2.2;omega) fun z hz=>?_) fun e he o=>?_
  ·have hz:z∈ss:=(List.mem_append.mp hz).elim id List.mem_of_mem_take
   exact Nat.le_trans (hos.1.1 z hz).2.1 (by decide)
  ·have he:(Az ((ss++ss.take 1).map strD)).map (fun l=>(wd,l))=some e:=he
   rw [D2] at he
   cases he
   have nd:=o.2.1.2.1
   have h2:=hos.2.1
   have h0:0<ss.length:=by omega
   rw [List.nodup_append] at nd
   exact nd.2.2 _ (List.getElem_mem h0) _ (by rw [List.mem_take_iff_getElem];exact⟨0,by omega,rfl⟩) rfl
 ·refine one (B2 (l:=["No"]) (by decide) (by decide)) fun e he o=>?_
  cases he
  exact absurd (wordB_iff.mpr (o.2.1.1 "No" (List.mem_singleton.mpr rfl))) (by decide)
 ·exact one ⟨by decide,fun d hd=>by
   have:d=.at_ .non:=by simpa using hd
   subst this
   trivial⟩ fun e he=>by cases he
 ·refine one f fun e he o=>?_
  have he:(Az (ss.map strD)).map (fun l=>(("no." : Str),l))=some e:=he
  rw [D2] at he
  cases he
  obtain⟨x,hx,e,_⟩:=o.2.2
  have:=wordB_iff.mpr (hw.2.2.2.1 x hx).1
  rw [e] at this
  have this:As "no." = true:=this
  exact absurd this (by decide)
 ·exact one (show (0:Int)<=1 by decide) fun e he=>by cases he
 ·exact one trivial fun e he=>by cases he
theorem Pl {da:DA} {rest:DS} {D:Outs} {a b c d e f:Option V} {v:V} {H:Hp} (h:da [a,b,c,d,e,f,some v] H (fun xs H1=>xs.length<=sizeLine /\ ∀ p,H1 p=none->Ao K v (.ref p) (upd H1 p (.lst xs)) fun y H2=>rest D [a,b,c,d,e,f,some y] H2) (D.ex [a,b,c,d,e,f,some v])):dSeq (dSet 6 (dBin (Ao K) (dVar 6) (dLst da))) rest D [a,b,c,d,e,f,some v] H:=h
theorem Yt {da:DA} {rest:DS} {D:Outs} {a b c d e f g:Option V} {H:Hp} (h:da [a,b,c,d,e,f,g] H (fun xs H1=>xs.length<=sizeLine /\ ∀ p,H1 p=none->rest D [a,b,c,d,e,f,some (.ref p)] (upd H1 p (.lst xs))) (D.ex [a,b,c,d,e,f,g])):dSeq (dSet 6 (dLst da)) rest D [a,b,c,d,e,f,g] H:=h
theorem aw5 {f:Addr} {fd:FuncData} (Z:Au K t) (F:FunD K "_law_rules_spoilt" "_law_rules_spoilt" s_zg f fd .none) (T:Tab P w K mg base 0 (gb_0 K t) bl):FnOk P w K mg base CX0 1 f fd P_zg (Yx K t):=by
 refine F.okW0 a38 a81 T (a12 K t) (fun vs H Q E h=>?_) (fun vs H Q E h=>?_)
 ·obtain⟨l,k,c,m,sw,rules,rfl,_⟩:=h;rfl
 ·obtain⟨l,kr,c,m,sw,rules,rfl,m9,m12,hsw,hw,hR,hok,h3,k⟩:=h
  obtain⟨ds,ed,⟨_,ol⟩,hd⟩:=id hsw
  obtain⟨gs,eg,⟨_,okk⟩,hg⟩:=id hR
  have len:(ds.map fun x=>V.ref x.2).length=sw.length:=by rw [<- ed];simp
  have h1:=hw.1
  have bk:=Ct c (n:=(sw.length:Int)) (by omega)
  obtain⟨kk,ek⟩:∃ n:Nat,c % (sw.length:Int)=(n:Int):=⟨_,(Int.toNat_of_nonneg bk.1).symm⟩
  have kl:kk<sw.length:=by omega
  have kl2:kk<ds.length:=by rw [List.length_map] at len;omega
  obtain⟨⟨⟨⟨wd,ss⟩,la⟩,ta⟩,he⟩:∃ x,ds[kk]? = some x:=⟨_,List.getElem?_eq_getElem kl2⟩
  have hk:sw[kk]? = some (wd,ss):=by rw [<- ed,List.getElem?_map,he];rfl
  have hmem:=List.mem_of_getElem? hk
  have hos:Dd ss:=hw.sets _ hmem
  have h2':=hos.2.1
  have h4':=hos.2.2
  obtain⟨⟨_,hta⟩,_,hla⟩:=hd _ (List.mem_of_getElem? he)
  have hta:H ta=some (.tup [.str wd,.ref la]):=hta
  have hla:H la=some (lstO ss):=hla
  have nla:la≠l:=fun z=>by
   rw [z,ol] at hla
   exact Ov (gs:=ds) (fun e=>by rw [e] at h2';simp at h2') (Option.some.inj hla).symm
  have eg0:sw.getD kk (Str.empty,[])=(wd,ss):=by rw [List.getD_eq_getElem?_getD,hk];rfl
  have ek':(c % (sw.length:Int)).toNat=kk:=by rw [ek];exact Int.toNat_natCast _
  refine .inl ⟨_,.inl (SqL.of ol),?_⟩
  rw [len]
  refine⟨by omega,?_⟩
  rw [ek]
  refine⟨_,.ref ta,.inl (SqL.of ol),Bs (j:=kk) (by rw [List.getElem?_map,he];rfl),_,SqT.of hta,rfl,?_⟩
  have v4:∀ {v6:Option V} {E:EK} H1 (Q:VK),Q (.str wd) H1->dVar 4 [some (.ref l),some (.ref kr),some (.int c),some (.int (m:Int)),some (.str wd),some (.ref la),v6] H1 Q E:=fun _ _ q=>q
  have v5:∀ {v6:Option V} {E:EK} H1 (Q:VK),Q (.ref la) H1->dVar 5 [some (.ref l),some (.ref kr),some (.int c),some (.int (m:Int)),some (.str wd),some (.ref la),v6] H1 Q E:=fun _ _ q=>q
  have v2:∀ {v6:Option V} {E:EK} H1 (Q:VK),Q (.int c) H1->dVar 2 [some (.ref l),some (.ref kr),some (.int c),some (.int (m:Int)),some (.str wd),some (.ref la),v6] H1 Q E:=fun _ _ q=>q
  have gw:∀ {v6:Option V} {E:EK},GD K l H [some (.ref l),some (.ref kr),some (.int c),some (.int (m:Int)),some (.str wd),some (.ref la),v6] E (dVar 4) (strD wd):=G1 v4 Ce
  have aL:At K (cutD l H) (.lst (ss.map strD)) (.ref la):=C2 (SqL.of (Do nla hla))
  have gl:∀ {v6:Option V} {E:EK},GD K l H [some (.ref l),some (.ref kr),some (.int c),some (.int (m:Int)),some (.str wd),some (.ref la),v6] E (dVar 5) (.lst (ss.map strD)):=G1 v5 aL
  have d1:dep (.lst (ss.map strD))<=30:=Nat.le_trans (Bq ss) (by decide)
  have d2:dep (.tup (ss.map strD))<=30:=Nat.le_trans (Oa ss) (by decide)
  have d3:dep (.lst [strD wd,.lst (ss.map strD)])<=30:=Nat.le_trans (Fc (n:=1) fun e he=>by
   have:e=strD wd\/e=.lst (ss.map strD):=by simpa only [List.mem_cons,List.not_mem_nil,or_false] using he
   rcases this with rfl|rfl
   ·exact Nat.le_trans (Ax _) (by decide)
   ·exact Bq _) (by decide)
  refine Yt (Bd (Dv (Jc ol v5 hla) d2) (Bd (Dv (gn_c rfl) (by decide)) (Bd (Dv (gn_c rfl) (by decide)) (Bd (Dv (Co ol (Ag gw (Ag gl An)) (Nat.le_of_ble_eq_true rfl)) d3) (Bd (ai4 ol) (Bd (B4 ol (k:=.inr wd) v4 (Co ol An (by decide)).gd (by decide)) (Bd (B4 ol (k:=.inr wd) v4 (W8 v5 hla (by omega)).gd (Nat.le_trans (Ax _) (by decide))) Mw))))))
   H _ (Same.refl _) fun xs H1 S1 T1=>⟨by rw [T1.1];exact (show 7<=sizeLine by decide),fun l1 hl1=>?_⟩)
  have S2:=Same.upd (o:=.lst xs) hl1
  have e2:upd H1 l1 (.lst xs) l1=some (.lst xs):=Ab
  have T2:=T1.up S2
  generalize upd H1 l1 (.lst xs)=H2 at S2 e2 T2 ⊢
  have S02:=S1.trans S2
  refine Pl (Bd (B4 ol (k:=.inr wd) v4 (Jc ol v5 hla).gd d2) (Bd (B4 ol (k:=.inr wd) v4 (R0 ol v5 hla (by omega)).gd (Nat.le_trans (Bq _) (by decide))) (Bd (B4 ol (k:=.inr wd) v4 (Co ol (Ag gn_s.gd An) (by decide)).gd (by decide)) (Bd (B4 ol (k:=.inr wd) v4 (Co ol (Ag (gn_c rfl).gd An) (by decide)).gd (by decide)) Mw)))
   H2 _ S02 fun ys H3 S3 T3=>⟨by rw [T3.1];exact (show 4<=sizeLine by decide),fun l3 hl3=>?_⟩)
  have S4:=Same.upd (o:=.lst ys) hl3
  have e4:upd H3 l3 (.lst ys) l3=some (.lst ys):=Ab
  have T4:=(T2.up (S3.trans S4)).app (T3.up S4)
  have e41:=S4 _ _ (S3 _ _ e2)
  generalize upd H3 l3 (.lst ys)=H4 at S4 e4 T4 e41 ⊢
  refine .inl ⟨l1,l3,xs,ys,rfl,rfl,e41,e4,by rw [T1.1,T3.1];exact (show 11<=sizeLine by decide),fun l5 hl5=>?_⟩
  have S5:=Same.upd (o:=.lst (xs++ys)) hl5
  have e5:upd H4 l5 (.lst (xs++ys)) l5=some (.lst (xs++ys)):=Ab
  have T5:=T4.up S5
  generalize upd H4 l5 (.lst (xs++ys))=H5 at S5 e5 T5 ⊢
  have S05:=S02.trans (S3.trans (S4.trans S5))
  refine Pl (Bd (B4 ol (k:=.inr "no.") (fun _ _ q=>q) gl d1) (Bd (B4 ol (k:=.inl 1) (fun _ _ q=>q) gl d1) (Bd (B4 ol (k:=.inr wd) v4 (gn_c rfl).gd (by decide)) Mw))
   H5 _ S05 fun zs H6 S6 T6=>⟨by rw [T6.1];exact (show 3<=sizeLine by decide),fun l6 hl6=>?_⟩)
  have S7:=Same.upd (o:=.lst zs) hl6
  have e7:upd H6 l6 (.lst zs) l6=some (.lst zs):=Ab
  have T7:=(T5.up (S6.trans S7)).app (T6.up S7)
  have e75:=S7 _ _ (S6 _ _ e5)
  generalize upd H6 l6 (.lst zs)=H7 at S7 e7 T7 e75 ⊢
  refine .inl ⟨l5,l6,_,zs,rfl,rfl,e75,e7,by rw [List.length_append,T1.1,T3.1,T6.1];exact (show 14<=sizeLine by decide),fun l8 hl8=>?_⟩
  have S8:=Same.upd (o:=.lst ((xs++ys)++zs)) hl8
  have e8:upd H7 l8 (.lst ((xs++ys)++zs)) l8=some (.lst ((xs++ys)++zs)):=Ab
  have T8:=T7.up S8
  generalize upd H7 l8 (.lst ((xs++ys)++zs))=H8 at S8 e8 T8 ⊢
  have S08:=S05.trans (S6.trans (S7.trans S8))
  have ln:((xs++ys)++zs).length=14:=T8.1
  rcases (show m=9\/m=10\/m=11 by omega) with rfl|rfl|rfl
  ·have b:=Ct (c / 5) (n:=14) (by decide)
   obtain⟨n,en⟩:∃ n:Nat,c / 5 % 14=(n:Int):=⟨_,(Int.toNat_of_nonneg b.1).symm⟩
   have nl:n<14:=by omega
   obtain⟨v,hv⟩:∃ v,((xs++ys)++zs)[n]? = some v:=⟨_,List.getElem?_eq_getElem (by omega)⟩
   obtain⟨th,hth⟩:∃ th,([.inr (.tup (ss.map strD)),.inr (.at_ .non),.inr (.at_ (.int 5)),.inr (.lst [strD wd,.lst (ss.map strD)]),.inl [],.inl [(.inr wd,.lst [])],.inl [(.inr wd,strD (ss.getD 0 Str.empty))],
     .inl [(.inr wd,.tup (ss.map strD))],.inl [(.inr wd,.lst ((ss++ss.take 1).map strD))],.inl [(.inr wd,.lst [strD "No"])],.inl [(.inr wd,.lst [.at_ .non])],.inl [(.inr "no.", .lst (ss.map strD))],.inl [(.inl 1,.lst (ss.map strD))],.inl [(.inr wd,.at_ .non)]]:List Th)[n]? = some th:=⟨_,List.getElem?_eq_getElem nl⟩
   obtain⟨a,x,rfl,ea,hx⟩:=T8.2 n v th hv hth
   have lg:(gs.map fun x=>V.ref x.2).length=rules.length:=by rw [<- eg];simp
   refine⟨⟨by decide,by decide⟩,by decide,_,.ref a,.inl (SqL.of e8),by rw [en];exact Bs (j:=n) hv,.inl ⟨kr,a,_,[x],rfl,rfl,S08 _ _ okk,ea,?_,fun p hp=>?_⟩⟩
   ·rw [lg];exact Nat.le_trans (show rules.length+1<=4 by omega) (by decide)
   have S9:=Same.upd (o:=.lst ((gs.map fun x=>V.ref x.2)++[x])) hp
   have e9:upd H8 p (.lst ((gs.map fun x=>V.ref x.2)++[x])) p=some (.lst ((gs.map fun x=>V.ref x.2)++[x])):=Ab
   generalize upd H8 p (.lst ((gs.map fun x=>V.ref x.2)++[x]))=H9 at S9 e9 ⊢
   have S09:=S08.trans S9
   have hx9:=hx.up S9
   have at1:∀ {i:Nat} {y:V} {r:Sw},((gs.map fun x=>V.ref x.2)++[x])[i]? = some y->rules[i]? = some r -> ∃ da,y=.ref da/\RuleAt any H9 da r:=fun {i y r} hy hr=>by
    have il:=Aj hr
    rw [List.getElem?_append_left (by rw [lg];exact il)] at hy
    obtain⟨⟨r',da⟩,hi,rfl⟩:=Am hy
    rw [<- eg,List.getElem?_map,hi] at hr
    cases hr
    exact⟨da,rfl,(hg _ (List.mem_of_getElem? hi)).mono (Kp.same S09)⟩
   refine k H9 (.ref p) S09 (.elt (pre:=rules) (x:=x) rfl (SqL.of e9) ?_ ?_ (fun i y r hy hr=>?_) (au4 hx9 (Wc hw hmem th (List.mem_of_getElem? hth))) hx.fresh') ?_
   ·rw [List.length_append,lg]
    show rules.length+1<=8
    omega
   ·rw [List.getElem?_append_right (by rw [lg];exact Nat.le_refl _),lg,Nat.sub_self]
    rfl
   ·obtain⟨da,e,R⟩:=at1 hy hr
    exact⟨da,e,R,hok r (List.mem_of_getElem? hr)⟩
   ·have es:E5 sw rules c 9=.inr (rules.map ruT++[th]):=by
     have:Bj ([.inr (.tup (ss.map strD)),.inr (.at_ .non),.inr (.at_ (.int 5)),.inr (.lst [strD wd,.lst (ss.map strD)]),.inl [],.inl [(.inr wd,.lst [])],.inl [(.inr wd,strD (ss.getD 0 Str.empty))],
       .inl [(.inr wd,.tup (ss.map strD))],.inl [(.inr wd,.lst ((ss++ss.take 1).map strD))],.inl [(.inr wd,.lst [strD "No"])],.inl [(.inr wd,.lst [.at_ .non])],.inl [(.inr "no.", .lst (ss.map strD))],.inl [(.inl 1,.lst (ss.map strD))],.inl [(.inr wd,.at_ .non)]]:List Th) (c / 5 % 14) (.inr (.at_ .non))=th:=by
      unfold Bj
      rw [en,Int.toNat_natCast,List.getD_eq_getElem?_getD,hth]
      rfl
     simp only [E5,ek',eg0]
     rw [this]
    rw [es]
    refine⟨p,_,rfl,SqL.of e9,by rw [List.length_append,List.length_append,lg,List.length_map];rfl,fun i y h' hy hh=>?_⟩
    by_cases il:i<rules.length
    ·rw [List.getElem?_append_left (by rw [List.length_map];exact il),List.getElem?_map] at hh
     obtain⟨r,hr⟩:∃ r,rules[i]? = some r:=⟨_,List.getElem?_eq_getElem il⟩
     rw [hr] at hh
     cases hh
     obtain⟨da,rfl,R⟩:=at1 hy hr
     exact Ld R
    ·have i2:=Aj hh
     rw [List.length_append,List.length_map] at i2
     have ie:i=rules.length:=by
      have:i<rules.length+1:=i2
      omega
     subst ie
     rw [List.getElem?_append_right (by rw [lg];exact Nat.le_refl _),lg,Nat.sub_self] at hy
     rw [List.getElem?_append_right (by rw [List.length_map];exact Nat.le_refl _),List.length_map,Nat.sub_self] at hh
     cases hy
     cases hh
     exact hx9.hand
  ·refine⟨⟨by decide,by decide⟩,fun L hL=>?_⟩
   have kd:∀ {H':Hp} {xs:List V} {x:V},H' L=some (.lst xs) -> ∀ {ys:List V},HandN K L H8 H' x (.inl [(.inr wd,.lst ((ss.take 1).map strD))])->HandN K L H8 (upd H' L (.lst ys)) x (.inl [(.inr wd,.lst ((ss.take 1).map strD))]):=fun {H' xs x} eL {ys} ⟨a,b,r,kvs,e,h,q,A⟩=>⟨a,b,r,kvs,e,by rw [Af (fun z=>by rw [z,eL] at h;cases h)];exact h,q,Bn Ix A⟩
   refine C7 (D8 0 9) (fun i σ H'=>(∃ v,σ=[v,some (.ref la),some (.str wd)])/\Same H8 H' /\ ∃ xs,H' L=some (.lst xs)/\xs.length=i /\ ∀ x∈xs,HandN K L H8 H' x (.inl [(.inr wd,.lst ((ss.take 1).map strD))])) ⟨⟨_,rfl⟩,Same.upd hL,[],Ab,rfl,fun x hx=>by cases hx⟩ (fun _ _ _ _ _=>True.intro) ?_ ?_
   ·rintro i x σ H1 hx ⟨⟨v,rfl⟩,S1',xs',eL,lx,hxs⟩
    obtain⟨hi,rfl⟩:=Hc hx
    have hla1:=S1' _ _ (S08 _ _ hla)
    have key:GH K L H1 [some (.int (i:Int)),some (.ref la),some (.str wd)] (fun _ _=>False) (Cf [((dVar 2),(dSl K (dVar 1) Bh (Bv (dC (.int 1)))))]) (.inl [(.inr wd,.lst ((ss.take 1).map strD))]):=B4 eL (k:=.inr wd) (fun _ _ q=>q) (R3 (i:=1) (σ:=[some (.int (i:Int)),some (.ref la),some (.str wd)]) (la:=la) eL (fun _ _ q=>q) hla1).gd (Nat.le_trans (Bq _) (by decide))
    refine key H1 (fun v1 H5=>∃ ys,H5 L=some (.lst ys)/\ys.length<sizeLine/\(∃ v,[some (V.int (i:Int)),some (V.ref la),some (V.str wd)]=[v,some (.ref la),some (.str wd)])/\Same H8 (upd H5 L (.lst (ys++[v1]))) /\ ∃ xs,upd H5 L (.lst (ys++[v1])) L=some (.lst xs)/\xs.length=i+1 /\ ∀ x∈xs,HandN K L H8 (upd H5 L (.lst (ys++[v1]))) x (.inl [(.inr wd,.lst ((ss.take 1).map strD))])) (Same.refl _) fun x H2 S2 a=>?_
    refine⟨xs',S2 _ _ eL,by rw [lx];exact Nat.lt_of_lt_of_le hi (by decide),⟨_,rfl⟩,(S1'.trans S2).set hL,_,Ab,by rw [List.length_append,lx];rfl,fun y hy=>?_⟩
    refine kd (S2 _ _ eL) ?_
    rcases List.mem_append.mp hy with hy|hy
    ·exact (hxs y hy).up S2
    ·have:y=x:=by simpa using hy
     subst this
     obtain⟨a1,a2,a3⟩:=a
     exact⟨a1,fun r e=>S1'.free (a2 r e),a3⟩
   ·rintro σ H1 ⟨_,S1',xs',eL,lx,hxs⟩
    have lx:xs'.length=9:=lx
    refine k H1 (.ref L) (S08.trans S1') (.many rfl (SqL.of eL) (by omega)) ?_
    have es:E5 sw rules c 10=.inr (List.replicate 9 (.inl [(.inr wd,.lst ((ss.take 1).map strD))])):=by simp only [E5,ek',eg0]
    rw [es]
    refine⟨L,xs',rfl,SqL.of eL,by rw [List.length_replicate];exact lx,fun i y h' hy hh=>?_⟩
    have:=List.eq_of_mem_replicate (List.mem_of_getElem? hh)
    subst this
    exact (hxs y (List.mem_of_getElem? hy)).hand
  ·have b:=Ct (c / 5) (n:=5) (by decide)
   have ol8:=S08 _ _ ol
   have gl8:∀ {v6:Option V} {E:EK},GD K l H8 [some (.ref l),some (.ref kr),some (.int c),some (.int ((11:Nat):Int)),some (.str wd),some (.ref la),v6] E (dVar 5) (.lst (ss.map strD)):=G1 v5 (Bi (Bu S08) aL)
   have key:GH K l H8 [some (.ref l),some (.ref kr),some (.int c),some (.int ((11:Nat):Int)),some (.str wd),some (.ref la),some (.ref l8)] (fun _ _=>False) (dBin (rIxD K) (dLst (Aa (dTup dNil) (Aa (dC (.str "ab")) (Aa (dC (.int 5)) (Aa (Cf [((dVar 4),(dVar 5))]) (Aa (dC (.bl true)) dNil)))))) (dBin Ar (dBin A5 (dVar 2) (dC (.int 5))) (dC (.int 5)))) (Bj [.inr (.tup []),.inr (strD "ab"),.inr (.at_ (.int 5)),.inl [(.inr wd,.lst (ss.map strD))],.inr (.at_ (.bl true))] (c / 5 % 5) (.inr (.at_ .non))):=
    Ry (Bz (Dv (Db ol8 An (by decide)) (by decide)) (Bz (Dv gn_s (by decide)) (Bz (Dv (gn_c rfl) (by decide)) (Bz (B4 ol8 (k:=.inr wd) v4 gl8 d1) (Bz (Dv (gn_c rfl) (by decide)) Rz))))) (Lm v2 (by decide) (by decide)) b.1 b.2 (Nat.le_of_ble_eq_true rfl)
   refine key H8 Q (Same.refl _) fun x H9 S9 h9=>?_
   have es:E5 sw rules c 11=.inl (Bj [.inr (.tup []),.inr (strD "ab"),.inr (.at_ (.int 5)),.inl [(.inr wd,.lst (ss.map strD))],.inr (.at_ (.bl true))] (c / 5 % 5) (.inr (.at_ .non))):=by simp only [E5,ek',eg0]
   refine k H9 x (S08.trans S9) ?_ (by rw [es];exact h9.hand)
   revert h9
   refine Cs (P:=fun th=>HandN K l H8 H9 x th->RCase any K H9 sw (fun b=>H b=none) x none) (fun th hth h9=>?_) b.1 b.2
   simp only [List.mem_cons,List.not_mem_nil,or_false] at hth
   rcases hth with rfl|rfl|rfl|rfl|rfl
   ·have a:=Bi Bc h9.2.2
    refine .tree a (fun z=>?_) fun l e=>by cases e
    unfold At at a
    obtain⟨_,_,e,_⟩:=a
    rw [e] at z
    cases z
   ·have a:=Bi Bc h9.2.2
    refine .tree a (fun z=>?_) fun l e=>by cases e
    unfold strD At at a
    rw [a.1] at z
    cases z
   ·have a:=Bi Bc h9.2.2
    refine .tree a (fun z=>?_) fun l e=>by cases e
    unfold At at a
    rw [a.1] at z
    cases z
   ·obtain⟨_,_,r,kvs,e,h,_⟩:=h9
    exact .dict e h
   ·have a:=Bi Bc h9.2.2
    refine .tree a (fun z=>?_) fun l e=>by cases e
    unfold At at a
    rw [a.1] at z
    cases z
theorem Lf {S:List Str}:∀ {sw:Sw} {acc:List (List Str)},(∀ r∈acc,∃ z,r[0]? = some z/\z∈S) -> ∀ r∈sw.foldl Cm acc,∃ z,r[0]? = some z/\z∈S
 | [],_,h=>h
 | x::sw,acc,h=>Lf (sw:=sw) (acc:=Cm acc x) fun r hr=>by
  unfold Cm at hr
  obtain⟨a,ha,hr⟩:=List.mem_flatMap.mp hr
  obtain⟨z',_,rfl⟩:=List.mem_map.mp hr
  obtain⟨z,e,m⟩:=h a ha
  exact⟨z,by rw [List.getElem?_append_left (Aj e)];exact e,m⟩
theorem Um {x:Str×List Str} {sw:Sw} {rules:List Sw} (hw:okSw (x::sw)):Cz (x::sw) (rules++[[x]])=0:=by
 rw [Gz]
 have:Ja (x::sw) (rules++[[x]])=0:=Nat.eq_of_testBit_eq fun k=>by
  rw [G0,Nat.zero_testBit]
  by_cases hk:k<(Ai (x::sw)).length
  ·rw [decide_eq_true hk,Bool.true_and,List.any_append,List.any_cons,List.any_nil,Bool.or_false,Iu,decide_eq_true hk,Bool.true_and,List.all_cons,List.all_nil,Bool.and_true]
   have pl:Cu (x::sw) x.1=0:=Gf (i:=0) rfl hw.2.2.1
   obtain⟨z,e,m⟩:=Lf (S:=x.2) (sw:=sw) (acc:=Cm [[]] x) (fun r hr=>by
    unfold Cm at hr
    obtain⟨a,ha,hr⟩:=List.mem_flatMap.mp hr
    obtain⟨z',hz',rfl⟩:=List.mem_map.mp hr
    have:a=[]:=by simpa using ha
    subst this
    exact⟨z',rfl,hz'⟩) ((Ai (x::sw))[k]) (List.getElem_mem hk)
   have:(x.2.any fun z=>hasB (Ai (x::sw)) (Cu (x::sw) x.1) z k)=true:=by
    rw [List.any_eq_true]
    refine⟨z,m,?_⟩
    unfold hasB
    rw [pl,List.getElem?_eq_getElem hk]
    exact decide_eq_true e
   rw [this,Bool.or_true]
   rfl
  ·rw [decide_eq_false hk,Bool.false_and]
 rw [this]
 rfl
theorem Yn {x:Str×List Str} {sw:Sw} (hw:okSw (x::sw)):Dc (x::sw) [x]:=by
 have hx:=(hw.2.2.2.1 x List.mem_cons_self).2
 refine⟨by simp,by simp,by simp,fun e he=>?_⟩
 have:e=x:=by simpa using he
 subst this
 exact⟨fun z=>by have:=hx.2.1;rw [z] at this;simp at this,hx.1,e,List.mem_cons_self,rfl,fun z hz=>hz⟩
theorem HandD.up {H H1:Hp} {v:V} (S:Same H H1):∀ {th:Th},HandD K H v th->HandD K H1 v th
 | .inl _,⟨a,r,kvs,e,h,q,l⟩=>⟨a,r,kvs,e,h.imp (fun z=>S _ _ z) fun⟨o,z⟩=>⟨o,S _ _ z⟩,q,Bn S l⟩
 | .inr _,⟨a,h⟩=>⟨a,Bi S h⟩
theorem BarD.up {H H1:Hp} {v:V} (S:Same H H1):∀ {b:Sum Th (List Th)},BarD K H v b->BarD K H1 v b
 | .inl _,h=>HandD.up S h
 | .inr _,⟨a,xs,e,q,l,h⟩=>⟨a,xs,e,S.seqL q,l,fun i x th h1 h2=>(h i x th h1 h2).up S⟩
theorem Qv {bad:Addr->Prop} {H H1:Hp} (O:OffB bad H H1):Sq2 H H1:=fun b o e ⟨xs,h⟩=>by
 rcases O.2 b o e with q|⟨kvs,o',z,_⟩
 ·exact q
 ·subst z
  rcases h with h|h|⟨_,h⟩|⟨_,h⟩ <;> cases h
theorem aj6 {bad:Addr->Prop} {H H1:Hp} {r:Addr} {kvs:List (Key×V)} (O:OffB bad H H1) (h:Rd H r (.dK kvs)):Rd H1 r (.dK kvs):=by
 rcases h with h|⟨o,h⟩
 ·rcases O.2 _ _ h with q|⟨kvs',o',z,q⟩
  ·exact .inl q
  ·cases z
   exact .inr ⟨o',q⟩
 ·rcases O.2 _ _ h with q|⟨kvs',o',z,q⟩
  ·exact .inr ⟨o,q⟩
  ·cases z
theorem HandD.off {bad:Addr->Prop} {H H1:Hp} {v:V} (O:OffB bad H H1):∀ {th:Th},HandD K H v th->HandD K H1 v th
 | .inl _,⟨a,r,kvs,e,h,q,l⟩=>⟨a,r,kvs,e,aj6 O h,q,(Qv O).atL l⟩
 | .inr _,⟨a,h⟩=>⟨a,(Qv O).at h⟩
theorem BarD.off {bad:Addr->Prop} {H H1:Hp} {v:V} (O:OffB bad H H1):∀ {b:Sum Th (List Th)},BarD K H v b->BarD K H1 v b
 | .inl _,h=>HandD.off O h
 | .inr _,⟨a,xs,e,q,l,h⟩=>⟨a,xs,e,(Qv O).sqL _ _ q,l,fun i x th h1 h2=>(h i x th h1 h2).off O⟩
theorem Dz {H:Hp} {v v':V}:∀ {th:Th},HandD K H v th->HandD K H v' th->Rk K H v v'
 | .inl _,⟨a,r,kvs,e,h,q,l⟩,⟨_,r',kvs',e',h',q',l'⟩=>.inr ⟨r,r',e,e',kvs,kvs',_,h,h',q.trans q'.symm,l,l',Nat.le_trans a (by decide)⟩
 | .inr d,⟨a,h⟩,⟨_,h'⟩=>.inl ⟨d,h,h',a⟩
theorem J6 {H:Hp} {v v':V}:∀ {b:Sum Th (List Th)},BarD K H v b->BarD K H v' b->V9 K H v v'
 | .inl _,h,h'=>.inl (Dz h h')
 | .inr hs,⟨a,xs,e,q,l,h⟩,⟨a',xs',e',q',l',h'⟩=>.inr ⟨a,a',xs,xs',e,e',q,q',l.trans l'.symm,fun i x y h1 h2=>by
  have hi:=Aj h1
  obtain⟨th,ht⟩:∃ th,hs[i]? = some th:=⟨_,List.getElem?_eq_getElem (by omega)⟩
  exact Dz (h i x th h1 ht) (h' i y th h2 ht)⟩
theorem Kw {ok:Addr->Prop} {H:Hp} {k:Addr} {rules:List Sw} (h:RulesAt ok H k rules):BarD K H (.ref k) (.inr (rules.map ruT)):=by
 obtain⟨gs,eg,⟨_,o⟩,hg⟩:=h
 refine⟨k,_,rfl,SqL.of o,by rw [List.length_map,List.length_map,<- eg,List.length_map],fun i x th h1 h2=>?_⟩
 obtain⟨⟨r,a⟩,hi,rfl⟩:=Am h1
 rw [<- eg,List.getElem?_map,List.getElem?_map,hi] at h2
 cases h2
 exact Ld (hg _ (List.mem_of_getElem? hi))
theorem R6 {H:Hp} {D:Addr} {sw:Sw} (h:SwIn any H D sw):HandD K H (.ref D) (.inr (.lst (sw.map swT))):=by
 obtain⟨ds,ed,⟨_,o⟩,hd⟩:=h
 have:=Gn (K:=K) hd
 rw [ed] at this
 refine⟨Nat.le_trans (Fc (n:=2) fun d hd'=>?_) (by decide),Ea (SqL.of o) this⟩
 obtain⟨x,_,rfl⟩:=List.mem_map.mp hd'
 exact Mt x
theorem RCase.weak {ok bad bad':Addr->Prop} {H:Hp} {sw:Sw} {v:V} {out:Option (List Sw)} (wk:∀ b,bad b->bad' b) (h:RCase ok K H sw bad v out):RCase ok K H sw bad' v out:=by
 cases h with
 | good h o l=>exact .good h o l
 | tree h n l=>exact .tree h n l
 | dict e h=>exact .dict e h
 | many e h l=>exact .many e h l
 | elt e h l hx hp hb hr=>exact .elt e h l hx hp hb fun r q=>wk r (hr r q)
theorem RCase.up {bad:Addr->Prop} {H H1:Hp} {sw:Sw} {v:V} {out:Option (List Sw)} (S:Same H H1) (h:RCase any K H sw bad v out):RCase any K H1 sw bad v out:=h.move (Pr S) (Kp.same S) fun b kvs e=>S _ _ e
theorem ax9 {f:Addr} {fd:FuncData} (Z:Au K t) (F:FunD K "_law_spoilt" "_law_spoilt" s_zu f fd .none) (T:Tab P w K mg base 2 (gb_2 K t) bl):FnOk P w K mg base CX0 3 f fd P_zu (Ts K t):=by
 refine F.okW0 a52 a95 T (a26 K t) (fun vs H Q E h=>?_) (fun vs H Q E h=>?_)
 ·obtain⟨l,k,c,sw,rules,rfl,_⟩:=h;rfl
 ·obtain⟨l,kr,c,sw,rules,rfl,hsw,hw,hR,hok,h3,k⟩:=h
  have b:=Ct c (n:=13) (by decide)
  obtain⟨m,em⟩:∃ n:Nat,c % 13=(n:Int):=⟨_,(Int.toNat_of_nonneg b.1).symm⟩
  have m13:m<13:=by omega
  have et:(c % 13).toNat=m:=by rw [em];exact Int.toNat_natCast _
  refine⟨by decide,?_⟩
  rw [em]
  by_cases h9:m<9
  ·refine Di (decide_eq_true (by omega)) ?_
   refine⟨⟨by decide,by decide⟩,l,c / 13,m,sw,rfl,h9,hsw,hw,fun H1 v S1 hn hh=>⟨(show 2<=sizeLine by decide),fun q hq=>?_⟩⟩
   have Sq:=Same.upd (o:=.tup [v,.ref kr]) hq
   refine k _ q v (.ref kr) (S1.trans Sq) Ab ?_ ?_ (.inl ⟨by omega,.inl (hn.up Sq)⟩)
   ·unfold R5
    rw [if_pos (by omega),et]
    exact hh.up Sq
   ·unfold Ro
    rw [if_pos (by omega)]
    exact Kw (hR.mono (Kp.same (S1.trans Sq)))
  ·refine Dh (decide_eq_false (by omega)) ?_
   by_cases h12:m<12
   ·refine Di (decide_eq_true (by omega)) ?_
    refine⟨l,sw,rfl,hsw,hw,fun H1 D es S1 fD ee L nd=>?_⟩
    refine⟨⟨by decide,by decide⟩,l,kr,c / 13,m,sw,rules,rfl,by omega,h12,hsw.mono (Kp.same S1),hw,hR.mono (Kp.same S1),hok,h3,fun H2 v S2 rc bd=>⟨(show 2<=sizeLine by decide),fun q hq=>?_⟩⟩
    have Sq:=Same.upd (o:=.tup [.ref D,v]) hq
    have sin:SwIn any H2 D sw:=ee▸(L.up S2).swIn
    have sin':=sin.mono (Kp.same Sq)
    refine k _ q (.ref D) v (S1.trans (S2.trans Sq)) Ab ?_ ?_ (.inl ⟨by omega,.inr ⟨D,rfl,sin',(rc.weak fun b z=>S1.free z).up Sq⟩⟩)
    ·unfold R5
     rw [if_neg (by omega)]
     exact R6 sin'
    ·unfold Ro
     rw [if_neg (by omega),if_pos (by omega),et]
     exact bd.up Sq
   ·refine Dh (decide_eq_false (by omega)) ?_
    cases sw with
    | nil=>have:=hw.1;simp at this
    | cons x sw=>
     refine⟨l,x::sw,rfl,hsw,hw,fun H1 D es S1 fD ee L nd=>?_⟩
     obtain⟨ds,ed,⟨_,ol⟩,hd⟩:=id hsw
     cases ds with
     | nil=>simp at ed
     | cons d0 ds=>
      obtain⟨⟨x',la⟩,ta⟩:=d0
      have:x'=x:=(List.cons.inj ed).1
      subst this
      obtain⟨⟨_,h1⟩,_,h2⟩:=hd _ List.mem_cons_self
      intro dd hdd
      have Sd:=Same.upd (o:=.dK []) hdd
      have ed0:upd H1 dd (.dK []) dd=some (.dK []):=Ab
      generalize upd H1 dd (.dK [])=H2 at Sd ed0 ⊢
      have S2:=S1.trans Sd
      have q1:=SqL.of (K:=K) (S2 _ _ ol)
      have q2:=SqT.of (K:=K) (S2 _ _ h1)
      have q3:=SqL.of (K:=K) (S2 _ _ h2)
      refine⟨_,.ref ta,.inl q1,Bs (j:=0) rfl,_,.str x'.1,.inr q2,rfl,_,.ref ta,.inl q1,Bs (j:=0) rfl,_,.ref la,.inr q2,rfl,_,.inl q3,fun lb hlb=>?_⟩
      have Sb:=Same.upd (o:=lstO x'.2) hlb
      have eb:upd H2 lb (lstO x'.2) lb=some (lstO x'.2):=Ab
      have ed2:=Sb _ _ ed0
      have ndb:lb≠dd:=(Ae ed0 hlb).symm
      refine⟨ed2,[(.inr x'.1,.ref lb)],rfl,Nat.le_of_ble_eq_true rfl,(show 1<=sizeLine by decide),fun l1 hl1=>?_⟩
      have S3:Same H1 (upd (upd H2 lb (lstO x'.2)) dd (.dK [(.inr x'.1,.ref lb)])):=(Sd.trans Sb).set hdd
      have ed3:upd (upd H2 lb (lstO x'.2)) dd (.dK [(.inr x'.1,.ref lb)]) dd=some (.dK [(.inr x'.1,.ref lb)]):=Ab
      have eb3:upd (upd H2 lb (lstO x'.2)) dd (.dK [(.inr x'.1,.ref lb)]) lb=some (lstO x'.2):=by rw [Af ndb];exact eb
      have hl1:upd (upd H2 lb (lstO x'.2)) dd (.dK [(.inr x'.1,.ref lb)]) l1=none:=hl1
      have e1:upd (upd (upd H2 lb (lstO x'.2)) dd (.dK [(.inr x'.1,.ref lb)])) l1 (.lst [.ref dd]) l1=some (.lst [.ref dd]):=Ab
      have Sl:=Same.upd (o:=.lst [.ref dd]) hl1
      have S4:=S3.trans Sl
      have ed4:=Sl _ _ ed3
      have eb4:=Sl _ _ eb3
      show Ao K (.ref kr) (.ref l1) (upd (upd (upd H2 lb (lstO x'.2)) dd (.dK [(.inr x'.1,.ref lb)])) l1 (.lst [.ref dd])) _
      generalize upd (upd (upd H2 lb (lstO x'.2)) dd (.dK [(.inr x'.1,.ref lb)])) l1 (.lst [.ref dd])=H4 at e1 S4 ed4 eb4 ⊢
      obtain⟨gs,eg,⟨_,okk⟩,hg⟩:=id hR
      have S04:=S1.trans S4
      have lg:(gs.map fun x=>V.ref x.2).length=rules.length:=by rw [<- eg];simp
      refine .inl ⟨kr,l1,_,_,rfl,rfl,S04 _ _ okk,e1,by rw [lg];exact Nat.le_trans (show rules.length+1<=4 by omega) (by decide),fun p hp=>⟨(show 2<=sizeLine by decide),fun q hq=>?_⟩⟩
      have Sp:=Same.upd (o:=.lst ((gs.map fun x=>V.ref x.2)++[.ref dd])) hp
      have ep:upd H4 p (.lst ((gs.map fun x=>V.ref x.2)++[.ref dd])) p=some (.lst ((gs.map fun x=>V.ref x.2)++[.ref dd])):=Ab
      have Sq:=Same.upd (o:=.tup [.ref D,.ref p]) hq
      have eq:upd (upd H4 p (.lst ((gs.map fun x=>V.ref x.2)++[.ref dd]))) q (.tup [.ref D,.ref p]) q=some (.tup [.ref D,.ref p]):=Ab
      have ep2:=Sq _ _ ep
      have S5:=Sp.trans Sq
      generalize upd (upd H4 p (.lst ((gs.map fun x=>V.ref x.2)++[.ref dd]))) q (.tup [.ref D,.ref p])=H5 at eq ep2 S5 ⊢
      have S15:=S4.trans S5
      have sin:SwIn any H5 D (x'::sw):=ee▸(L.up S15).swIn
      have RA:RulesAt any H5 p (rules++[[x']]):=by
       refine⟨gs++[([x'],dd)],by rw [List.map_append,eg];rfl,⟨trivial,by rw [List.map_append];exact ep2⟩,fun y hy=>?_⟩
       rcases List.mem_append.mp hy with hy|hy
       ·exact (hg y hy).mono (Kp.same (S1.trans S15))
       ·have:y=([x'],dd):=by simpa using hy
        subst this
        exact⟨[(x',lb)],rfl,⟨trivial,S5 _ _ ed4⟩,fun u hu=>by
         have:u=(x',lb):=by simpa using hu
         subst this
         exact⟨trivial,S5 _ _ eb4⟩⟩
      refine k H5 q (.ref D) (.ref p) (S1.trans S15) eq ?_ ?_ (.inr ⟨by omega,D,rules++[[x']],rfl,sin,.good (.inr ⟨p,rfl,RA⟩) (fun r hr=>?_) (by rw [List.length_append];show rules.length+1<=8;omega),Um hw⟩)
      ·unfold R5
       rw [if_neg (by omega)]
       exact R6 sin
      ·unfold Ro
       rw [if_neg (by omega),if_neg (by omega)]
       exact Kw RA
      ·rcases List.mem_append.mp hr with hr|hr
       ·exact hok r hr
       ·have:r=[x']:=by simpa using hr
        subst this
        exact Yn hw
theorem Wl (ns:List Int) (i j:Nat):∃ ms:List Int,cutV (ns.map V.int) (some (i:Int)) (some (j:Int))=ms.map V.int:=by
 unfold cutV
 rw [HT.sIx_nat,HT.sIx_nat,List.length_map,<- List.map_drop,<- List.map_take]
 exact⟨_,rfl⟩
theorem Yo {sw rule:Sw} (hw:okSw sw) (h:Dc sw rule):So sw rule:=by
 refine⟨?_,h.2.2.1,h.2.2.2⟩
 have:=Pp (l:=rule.map (·.1)) (x:=sw.map (·.1)) h.2.2.1 fun z hz=>by
  obtain⟨e,he,rfl⟩:=List.mem_map.mp hz
  obtain⟨x,hx,ex,_⟩:=(h.2.2.2 e he).2.2
  exact List.mem_map.mpr ⟨x,hx,ex⟩
 rw [List.length_map,List.length_map] at this
 exact Nat.le_trans this hw.2.1
theorem ak5 {f:Addr} {fd:FuncData} (Z:Au K t) (F:FunD K "law" "law" Dy f fd .none) (T:Tab P w K mg base 10 (W4 K t) bl):FnOk P w K mg base CX0 11 f fd Nv (Nh K t):=by
 refine F.okW0 as2 au0 T (ar0 K t) (fun vs H Q E h=>?_) (fun vs H Q E h=>?_)
 ·obtain⟨a,ns,rfl,_⟩:=h;rfl
 ·obtain⟨a,ns,rfl,hS,k⟩:=h
  refine⟨a,ns,0,rfl,hS,_,24,rfl,by decide,by decide,fun H1 l sw S1 W1 hw=>?_⟩
  refine⟨a,ns,1,rfl,S1.seqL hS,_,l,sw,rfl,W1,hw,fun H2 kr rules S2 U2 hok h3 hfree=>?_⟩
  have S02:=S1.trans S2
  have W2:=W1.mono (Kp.same S2)
  have U2:RulesAt any H2 kr rules:=U2.mono Kp.any
  refine⟨.ref l,.ref kr,fun _=>False,rfl,.inr ⟨l,sw,some rules,rfl,W2,hw,.good (.inr ⟨kr,rfl,U2⟩) hok (by omega),fun rs e hf H3 q p S3 P3 e3=>?_,fun rs e hf=>(by cases e;exact absurd hf hfree),fun e=>(by cases e)⟩⟩
  cases e
  refine⟨_,SqT.of e3,rfl,?_⟩
  obtain⟨dx,d,pl,pn,s,kk,b,h⟩:=id P3
  refine⟨p,dx,_,⟨t.c_zas,i_zj K t⟩,rfl,.head _,h.ins.2,rfl,⟨Nat.le_of_ble_eq_true rfl,Nat.le_of_ble_eq_true rfl⟩,p,sw,rules,rfl,P3,l,kr,sw,rules,rfl,W2.mono (Kp.same S3),hw,U2.mono (Kp.same S3),fun r hr=>⟨hok r hr,Yo hw (hok r hr)⟩,by omega,fun H4 S4=>?_⟩
  refine Dh (by simp) ?_
  have S24:=S3.trans S4
  obtain⟨ms,em⟩:=Wl ns 2 22
  refine .inl ⟨_,(S02.trans S24).seqL hS,fun ls hls=>?_⟩
  have em:cutV (ns.map V.int) (some 2) (some 22)=ms.map V.int:=em
  rw [em]
  have S5:=Same.upd (o:=.lst (ms.map V.int)) hls
  have e5:upd H4 ls (.lst (ms.map V.int)) ls=some (.lst (ms.map V.int)):=Ab
  refine .inl ⟨⟨_,SqL.of e5⟩,?_⟩
  generalize upd H4 ls (.lst (ms.map V.int))=H5 at S5 e5 ⊢
  have S25:=S24.trans S5
  refine B9 (Bl (ms.map V.int)) (fun i σ H'=>(∃ v5 v6 v7 v8,σ=[some (.ref a),some (.ref l),some (.ref kr),some (.str "made"),some (.ref p),v5,v6,v7,v8])/\Same H5 H') ⟨⟨_,_,_,_,rfl⟩,fun _ _ e=>e⟩ (fun i σ H' _ q=>q.2.seqL (SqL.of e5)) ?_ ?_
  ·rintro i x σ H6 hx ⟨⟨v5,v6,v7,v8,rfl⟩,S6⟩
   obtain⟨c,hc,rfl⟩:=Am hx
   have W6:=W2.mono (Kp.same (S25.trans S6))
   have U6:=U2.mono (Kp.same (S25.trans S6))
   refine⟨l,kr,c,sw,rules,rfl,W6,hw,U6,hok,h3,fun H7 q1 v u S7 e7 hh hb hcase=>?_⟩
   refine⟨_,SqT.of e7,rfl,?_⟩
   refine⟨(show 2<=sizeLine by decide),fun l8 hl8=>?_⟩
   have S78:=Same.upd (o:=.lst [.str "bad", .str "none"]) hl8
   have e8:upd H7 l8 (.lst [.str "bad", .str "none"]) l8=some (.lst [.str "bad", .str "none"]):=Ab
   generalize upd H7 l8 (.lst [.str "bad", .str "none"])=H8 at S78 e8 ⊢
   have S68:=S7.trans S78
   refine⟨by decide,?_⟩
   rcases hcase with ⟨n12,hcase⟩|⟨y12,a',rs,rfl,hs',rc,hz⟩
   ·refine⟨_,.str "bad", .inl (SqL.of e8),by rw [decide_eq_false n12];rfl,?_⟩
    rcases hcase with hn|⟨a',rfl,hs',rc⟩
    ·refine⟨v,u,fun b=>H6 b=none,rfl,.inl ⟨hn.up S78,fun H9 q9 O9 e9=>?_⟩⟩
     have S69:Same H6 H9:=fun b o e=>O9.1 b o (fun z=>by rw [z] at e;cases e) (S68 _ _ e)
     refine⟨_,.str "bad", .inr (SqT.of e9),rfl,?_⟩
     refine⟨(show 2<=sizeLine by decide),fun qa hqa=>?_⟩
     have Sa:=Same.upd (o:=.tup [v,u]) hqa
     have ea:upd H9 qa (.tup [v,u]) qa=some (.tup [v,u]):=Ab
     have hha:=((hh.up S78).off O9).up Sa
     have hba:=((hb.up S78).off O9).up Sa
     generalize upd H9 qa (.tup [v,u])=H10 at Sa ea hha hba ⊢
     have S610:=S69.trans Sa
     refine⟨l,kr,c,sw,rules,rfl,W6.mono (Kp.same S610),hw,U6.mono (Kp.same S610),hok,h3,fun H11 q11 v' u' S11 e11 hh' hb' _=>?_⟩
     refine .inr (.inr (.inr (.inr (.inr (.inl ⟨rfl,_,_,SqT.of (S11 _ _ ea),SqT.of e11,rfl,fun j y y' hy hy'=>?_,?_⟩)))))
     ·match j,hy,hy' with
      | 0,hy,hy'=>cases hy;cases hy';exact .inl (Dz (hha.up S11) hh')
      | 1,hy,hy'=>cases hy;cases hy';exact J6 (hba.up S11) hb'
      | j+2,hy,hy'=>simp at hy
     ·exact⟨⟨_,_,_,_,rfl⟩,S6.trans (S610.trans S11)⟩
    ·refine⟨.ref a',u,fun b=>H6 b=none,rfl,.inr ⟨a',sw,none,rfl,hs'.mono (Kp.same S78),hw,rc.up S78,fun rs e=>(by cases e),fun rs e=>(by cases e),fun _ H9 q9 O9 e9=>?_⟩⟩
     generalize V.ref a'=v at hh ⊢
     have S69:Same H6 H9:=fun b o e=>O9.1 b o (fun z=>by rw [z] at e;cases e) (S68 _ _ e)
     refine⟨_,.str "bad", .inr (SqT.of e9),rfl,?_⟩
     refine⟨(show 2<=sizeLine by decide),fun qa hqa=>?_⟩
     have Sa:=Same.upd (o:=.tup [v,u]) hqa
     have ea:upd H9 qa (.tup [v,u]) qa=some (.tup [v,u]):=Ab
     have hha:=((hh.up S78).off O9).up Sa
     have hba:=((hb.up S78).off O9).up Sa
     generalize upd H9 qa (.tup [v,u])=H10 at Sa ea hha hba ⊢
     have S610:=S69.trans Sa
     refine⟨l,kr,c,sw,rules,rfl,W6.mono (Kp.same S610),hw,U6.mono (Kp.same S610),hok,h3,fun H11 q11 v' u' S11 e11 hh' hb' _=>?_⟩
     refine .inr (.inr (.inr (.inr (.inr (.inl ⟨rfl,_,_,SqT.of (S11 _ _ ea),SqT.of e11,rfl,fun j y y' hy hy'=>?_,?_⟩)))))
     ·match j,hy,hy' with
      | 0,hy,hy'=>cases hy;cases hy';exact .inl (Dz (hha.up S11) hh')
      | 1,hy,hy'=>cases hy;cases hy';exact J6 (hba.up S11) hb'
      | j+2,hy,hy'=>simp at hy
     ·exact⟨⟨_,_,_,_,rfl⟩,S6.trans (S610.trans S11)⟩
   ·refine⟨_,.str "none", .inl (SqL.of e8),by rw [decide_eq_true y12];rfl,?_⟩
    refine⟨.ref a',u,fun b=>H6 b=none,rfl,.inr ⟨a',sw,some rs,rfl,hs'.mono (Kp.same S78),hw,rc.up S78,fun rs' e hf=>(by cases e;exact absurd hz hf),fun rs' e hf H9 q9 O9 e9=>?_,fun e=>(by cases e)⟩⟩
    generalize V.ref a'=v at hh ⊢
    have S69:Same H6 H9:=fun b o e=>O9.1 b o (fun z=>by rw [z] at e;cases e) (S68 _ _ e)
    refine⟨_,.str "none", .inr (SqT.of e9),rfl,?_⟩
    refine⟨(show 2<=sizeLine by decide),fun qa hqa=>?_⟩
    have Sa:=Same.upd (o:=.tup [v,u]) hqa
    have ea:upd H9 qa (.tup [v,u]) qa=some (.tup [v,u]):=Ab
    have hha:=((hh.up S78).off O9).up Sa
    have hba:=((hb.up S78).off O9).up Sa
    generalize upd H9 qa (.tup [v,u])=H10 at Sa ea hha hba ⊢
    have S610:=S69.trans Sa
    refine⟨l,kr,c,sw,rules,rfl,W6.mono (Kp.same S610),hw,U6.mono (Kp.same S610),hok,h3,fun H11 q11 v' u' S11 e11 hh' hb' _=>?_⟩
    refine .inr (.inr (.inr (.inr (.inr (.inl ⟨rfl,_,_,SqT.of (S11 _ _ ea),SqT.of e11,rfl,fun j y y' hy hy'=>?_,?_⟩)))))
    ·match j,hy,hy' with
     | 0,hy,hy'=>cases hy;cases hy';exact .inl (Dz (hha.up S11) hh')
     | 1,hy,hy'=>cases hy;cases hy';exact J6 (hba.up S11) hb'
     | j+2,hy,hy'=>simp at hy
    ·exact⟨⟨_,_,_,_,rfl⟩,S6.trans (S610.trans S11)⟩
  ·rintro σ H6 ⟨⟨v5,v6,v7,v8,rfl⟩,S6⟩
   have S26:=S25.trans S6
   refine .inl ⟨.ref l,.ref kr,fun _=>False,rfl,.inr ⟨l,sw,some rules,rfl,W2.mono (Kp.same S26),hw,.good (.inr ⟨kr,rfl,U2.mono (Kp.same S26)⟩) hok (by omega),fun rs e hf H7 q7 p7 S7 P7 e7=>?_,fun rs e hf=>(by cases e;exact absurd hf hfree),fun e=>(by cases e)⟩⟩
   exact⟨_,.str "made", .inr (SqT.of e7),rfl,k H7⟩
theorem kits {L B D:Addr} (nd:[L,B,D].Nodup) (xL:XC K L valTail) (xB:XC K B (.ref L::valTail)) (xD:XC K D (.ref L::valTail)) (tl:A9 (.ref L::valTail)=true):PySem.W.kitOne K (.ref B) (.ref L)=some true/\PySem.W.kitOne K (.ref B) (.type "ValueError")=some true/\PySem.W.kitOne K (.ref B) (.ref D)=some false:=by
 have h:∀ a:Addr,D≠a->(Value.ref D==Value.ref a)=false:=fun a n=>by
  rw [Bool.eq_false_iff]
  intro z
  exact n (Value.ref.inj (eq_of_beq z))
 refine⟨xB.kit xL ?_,xB.kitV tl,xB.kit xD ?_⟩
 ·rw [List.contains_cons,List.contains_cons];simp
 ·simp at nd
  rw [List.contains_cons,List.contains_cons,h B (fun z=>nd.2 z.symm),h L (fun z=>nd.1.2 z.symm)]
  rfl
end
end K04
namespace K04
open PySem L2
structure ae8 (K:PySem.W.Frag) (mg:Str->Option Value) (t:Adr):Prop where
 g_zj:MOk K "allowed" "Panel.allowed" s_zj t.f_zj t.d_zj P_zj
 g_zo:DOk K mg "_law_cell_at" s_zo t.f_zo t.d_zo P_zo
 g_zag:DOk K mg "_law_mix" J4 t.f_zag t.d_zag Nt
 g_zaa:DOk K mg "_law_words" Jy t.f_zaa t.d_zaa Nl
 g_zl:DOk K mg "_law_switches" s_zl t.f_zl t.d_zl P_zl
 g_zad:DOk K mg "_law_rows" J1 t.f_zad t.d_zad Np
 g_zab:DOk K mg "_law_hits" Jz t.f_zab t.d_zab Nm
 g_zz:DOk K mg "_law_terms" s_zz t.f_zz t.d_zz P_zz
 g_zy:DOk K mg "_law_rules" s_zy t.f_zy t.d_zy P_zy
 g_zt:DOk K mg "_law_copied" s_zt t.f_zt t.d_zt P_zt
 g_za:DOk K mg "_law_switches_spoilt" s_za t.f_za t.d_za P_za
 g_zg:DOk K mg "_law_rules_spoilt" s_zg t.f_zg t.d_zg P_zg
 g_zu:DOk K mg "_law_spoilt" s_zu t.f_zu t.d_zu P_zu
 g_zae:DOk K mg "union_of" J2 t.f_zae t.d_zae Nq
 g_zq:MOk K "many" "Panel.many" s_zq t.f_zq t.d_zq P_zq
 g_zd:MOk K "all_choices" "Panel.all_choices" s_zd t.f_zd t.d_zd P_zd
 g_zs:DOk K mg "has_length" s_zs t.f_zs t.d_zs P_zs
 g_zw:DOk K mg "is_letter" s_zw t.f_zw t.d_zw P_zw
 g_zaf:DOk K mg "is_word" J3 t.f_zaf t.d_zaf Nr
 g_zf:DOk K mg "are_unlike_words" s_zf t.f_zf t.d_zf P_zf
 g_zr:MOk K "term" "Panel.term" s_zr t.f_zr t.d_zr P_zr
 g_zv:MOk K "box" "Panel.box" s_zv t.f_zv t.d_zv P_zv
 g_zm:DOk K mg "copied_rule" s_zm t.f_zm t.d_zm P_zm
 g_zi:MOk K "read_rule" "Panel.read_rule" s_zi t.f_zi t.d_zi P_zi
 g_ze:MOk K "read_rules" "Panel.read_rules" s_ze t.f_ze t.d_ze P_ze
 g_zx:DOk K mg "is_switch" s_zx t.f_zx t.d_zx P_zx
 g_zk:DOk K mg "read_switches" s_zk t.f_zk t.d_zk P_zk
 g_zc:DOk K mg "settings_of_choices" s_zc t.f_zc t.d_zc P_zc
 g_zb:DOk K mg "numbers_by_settings" s_zb t.f_zb t.d_zb P_zb
 g_zah:DOk K mg "set_of" J5 t.f_zah t.d_zah Nu
 g_zh:DOk K mg "sets_of_settings" s_zh t.f_zh t.d_zh P_zh
 F_zp:FunD K "__init__" "Panel.__init__" s_zp t.f_zp t.d_zp t.dv_zp
 b_zp:∀ j,j<=1->Binds K t.d_zp P_zp (t.du_zp.drop j)
 w_zp:Vals [.non] t.du_zp
 if_zp:PySem.W.isFn K (.ref t.f_zp)=true
 g_zac:DOk K mg "_law_made" J0 t.f_zac t.d_zac Nn
 g_zn:DOk K mg "_law_allowed" s_zn t.f_zn t.d_zn P_zn
 F_zai:FunD K "law" "law" Dy t.f_zai t.d_zai .none
 b_zai:∀ j,j<=0->Binds K t.d_zai Nv (([]:List Value).drop j)
 w_zai:Vals [] ([]:List Value)
 m_zai:mg "law" = some (.ref t.f_zai)
 at_zao:mg "LeafError" = some (.ref t.c_zao)
 kp_zao:PySem.W.keepIn K (.ref t.c_zao)=true
 ec_zao:ECls K t.c_zao
 in_zao:PySem.W.findIn K (.ref t.c_zao) "__init__" = some (some (.builtin "ValueError.__init__"))
 at_zap:mg "BadPanel" = some (.ref t.c_zap)
 kp_zap:PySem.W.keepIn K (.ref t.c_zap)=true
 ec_zap:ECls K t.c_zap
 in_zap:PySem.W.findIn K (.ref t.c_zap) "__init__" = some (some (.builtin "ValueError.__init__"))
 at_zaq:mg "NoChoice" = some (.ref t.c_zaq)
 kp_zaq:PySem.W.keepIn K (.ref t.c_zaq)=true
 ec_zaq:ECls K t.c_zaq
 in_zaq:PySem.W.findIn K (.ref t.c_zaq) "__init__" = some (some (.builtin "ValueError.__init__"))
 at_zar:mg "BadCond" = some (.ref t.c_zar)
 kp_zar:PySem.W.keepIn K (.ref t.c_zar)=true
 ec_zar:ECls K t.c_zar
 in_zar:PySem.W.findIn K (.ref t.c_zar) "__init__" = some (some (.builtin "ValueError.__init__"))
 at_zas:mg "Panel" = some (.ref t.c_zas)
 kp_zas:PySem.W.keepIn K (.ref t.c_zas)=true
 mk_zas:PySem.W.makesIn K t.c_zas=true
 in_zas:PySem.W.findIn K (.ref t.c_zas) "__init__" = some (some (.ref t.f_zp))
 cl_zas:Cls K t.c_zas
 mt_zd:Meth K t.c_zas "all_choices" t.f_zd
 mt_zj:Meth K t.c_zas "allowed" t.f_zj
 mt_zv:Meth K t.c_zas "box" t.f_zv
 mt_zq:Meth K t.c_zas "many" t.f_zq
 mt_zi:Meth K t.c_zas "read_rule" t.f_zi
 mt_ze:Meth K t.c_zas "read_rules" t.f_ze
 mt_zr:Meth K t.c_zas "term" t.f_zr
 v_zal:mg "MOST_SWITCHES" = some t.u_zal
 r_zal:RelV (.int 5) t.u_zal
 v_zaj:mg "LEAST_SETTINGS" = some t.u_zaj
 r_zaj:RelV (.int 2) t.u_zaj
 v_zak:mg "MOST_SETTINGS" = some t.u_zak
 r_zak:RelV (.int 4) t.u_zak
 v_zam:mg "MOST_CHOICES" = some t.u_zam
 r_zam:RelV (.int 256) t.u_zam
 v_zan:mg "MOST_RULES" = some t.u_zan
 r_zan:RelV (.int 8) t.u_zan
 z:∀ x∈bl,mg x=none
 Z:Au K t
theorem aj5 {P:Program} {w:World} {K:PySem.W.Frag} {mg:Str->Option Value} {base:Heap} {t:Adr} (A:ae8 K mg t):FnOk P w K mg base CX0 11 t.f_zai t.d_zai Nv (Nh K t):=by
 have T0:Tab P w K mg base 0 (gb_0 K t) bl:=((((((((((Tab.nil A.z).consV A.v_zan A.r_zan).consV A.v_zam A.r_zam).consV A.v_zak A.r_zak).consV A.v_zaj A.r_zaj).consV A.v_zal A.r_zal).consV (v:=.ref t.c_zas) A.at_zas rfl).consX (oi:=none) ⟨A.at_zar,A.kp_zar,A.ec_zar,A.in_zar⟩).consX (oi:=none) ⟨A.at_zaq,A.kp_zaq,A.ec_zaq,A.in_zaq⟩).consX (oi:=none) ⟨A.at_zap,A.kp_zap,A.ec_zap,A.in_zap⟩).consX (oi:=none) ⟨A.at_zao,A.kp_zao,A.ec_zao,A.in_zao⟩
 have T1:Tab P w K mg base 1 (gb_1 K t) bl:=(((((((((((((((T0.mono (show 0<=1 by decide)).con (ag1 K t) A.g_zah (ak4 (t:=t) A.Z A.g_zah.F T0)).con (i_zb K t) A.g_zb (aw0 (t:=t) A.Z A.g_zb.F T0)).con (i_zc K t) A.g_zc (aw1 (t:=t) A.Z A.g_zc.F T0)).con (i_zm K t) A.g_zm (ax1 (t:=t) A.Z A.g_zm.F T0)).con (i_zw K t) A.g_zw (ay1 (t:=t) A.Z A.g_zw.F T0)).con (i_zs K t) A.g_zs (ax7 (t:=t) A.Z A.g_zs.F T0)).con (af8 K t) A.g_zae (ak1 (t:=t) A.Z A.g_zae.F T0)).con (i_zg K t) A.g_zg (aw5 (t:=t) A.Z A.g_zg.F T0)).con (i_zt K t) A.g_zt (ax8 (t:=t) A.Z A.g_zt.F T0)).con (af5 K t) A.g_zab (aj8 (t:=t) A.Z A.g_zab.F T0)).con (af7 K t) A.g_zad (ak0 (t:=t) A.Z A.g_zad.F T0)).con (ag0 K t) A.g_zag (ak3 (t:=t) A.Z A.g_zag.F T0)).con (i_zo K t) A.g_zo (ax3 (t:=t) A.Z A.g_zo.F T0)).consM (m := "many") (l:=M0 K t) (one ⟨A.cl_zas,A.mt_zq,A.g_zq.fi (i_zq K t) (ax5 (t:=t) A.Z A.g_zq.F T0)⟩)).consM (m := "allowed") (l:=Fq K t) (one ⟨A.cl_zas,A.mt_zj,A.g_zj.fi (i_zj K t) (aw8 (t:=t) A.Z A.g_zj.F T0)⟩)
 have T2:Tab P w K mg base 2 (gb_2 K t) bl:=(((((((T1.mono (show 1<=2 by decide)).con (i_zn K t) A.g_zn (ax2 (t:=t) A.Z A.g_zn.F T1)).con (i_zh K t) A.g_zh (aw6 (t:=t) A.Z A.g_zh.F T1)).con (af9 K t) A.g_zaf (ak2 (t:=t) A.Z A.g_zaf.F T1)).con (i_za K t) A.g_za (av9 (t:=t) A.Z A.g_za.F T1)).con (i_zz K t) A.g_zz (ay4 (t:=t) A.Z A.g_zz.F T1)).con (af4 K t) A.g_zaa (aj7 (t:=t) A.Z A.g_zaa.F T1)).consM (m := "all_choices") (l:=Ch K t) (one ⟨A.cl_zas,A.mt_zd,A.g_zd.fi (i_zd K t) (aw2 (t:=t) A.Z A.g_zd.F T1)⟩)
 have T3:Tab P w K mg base 3 (gb_3 K t) bl:=((((T2.mono (show 2<=3 by decide)).con (i_zf K t) A.g_zf (aw4 (t:=t) A.Z A.g_zf.F T2)).con (i_zu K t) A.g_zu (ax9 (t:=t) A.Z A.g_zu.F T2)).con (i_zy K t) A.g_zy (ay3 (t:=t) A.Z A.g_zy.F T2)).con (i_zl K t) A.g_zl (ax0 (t:=t) A.Z A.g_zl.F T2)
 have T4:Tab P w K mg base 4 (gb_4 K t) bl:=((T3.mono (show 3<=4 by decide)).con (i_zx K t) A.g_zx (ay2 (t:=t) A.Z A.g_zx.F T3)).consM (m := "term") (l:=Ij K t) (one ⟨A.cl_zas,A.mt_zr,A.g_zr.fiE (i_zr K t) (ax6 (t:=t) A.Z A.g_zr.F T3)⟩)
 have T5:Tab P w K mg base 5 (gb_5 K t) bl:=((T4.mono (show 4<=5 by decide)).conE (i_zk K t) A.g_zk (aw9 (t:=t) A.Z A.g_zk.F T4)).consM (m := "box") (l:=Mz K t) (one ⟨A.cl_zas,A.mt_zv,A.g_zv.fiE (i_zv K t) (ay0 (t:=t) A.Z A.g_zv.F T4)⟩)
 have T6:Tab P w K mg base 6 (gb_6 K t) bl:=(T5.mono (show 5<=6 by decide)).consM (m := "read_rule") (l:=Eh K t) (one ⟨A.cl_zas,A.mt_zi,A.g_zi.fiE (i_zi K t) (aw7 (t:=t) A.Z A.g_zi.F T5)⟩)
 have T7:Tab P w K mg base 7 (gb_7 K t) bl:=(T6.mono (show 6<=7 by decide)).consM (m := "read_rules") (l:=Dp K t) (one ⟨A.cl_zas,A.mt_ze,A.g_ze.fiE (i_ze K t) (aw3 (t:=t) A.Z A.g_ze.F T6)⟩)
 have T8:Tab P w K mg base 8 (gb_8 K t) bl:=T7.mono (show 7<=8 by decide)
 have T9:Tab P w K mg base 9 (gb_9 K t) bl:=(T8.mono (show 8<=9 by decide)).consC (oi:=some (i_zp K t)) ⟨A.at_zas,A.kp_zas,A.mk_zas,A.in_zas,A.if_zp,⟨A.F_zp.kp,⟨CXE P w,fun X' e1 e2=>e1▸e2▸Js X',ax4 (t:=t) A.Z A.F_zp T7⟩,Nat.le_succ 8,A.b_zp,A.w_zp⟩,Nat.le_refl 9⟩
 have T10:Tab P w K mg base 10 (W4 K t) bl:=(T9.mono (show 9<=10 by decide)).con (af6 K t) A.g_zac (aj9 (t:=t) A.Z A.g_zac.F T9)
 exact ak5 (t:=t) A.Z A.F_zai T10
@[elab_as_elim] theorem len1 {P:List Value->Prop} (h:∀ a,P [a]):∀ us:List Value,us.length=1->P us
 | [a],_=>h a
@[elab_as_elim] theorem len2 {P:List Value->Prop} (h:∀ a b,P [a,b]):∀ us:List Value,us.length=2->P us
 | [a,b],_=>h a b
@[elab_as_elim] theorem len3 {P:List Value->Prop} (h:∀ a b c,P [a,b,c]):∀ us:List Value,us.length=3->P us
 | [a,b,c],_=>h a b c
@[elab_as_elim] theorem len4 {P:List Value->Prop} (h:∀ a b c d,P [a,b,c,d]):∀ us:List Value,us.length=4->P us
 | [a,b,c,d],_=>h a b c d
theorem all_mk {l:PySem.W.OpenLaw} {w:World} {K:PySem.W.Frag} {h:Heap} {mg:Str->Option Value} {fa f_zj f_zo f_zag f_zaa f_zl f_zad f_zab f_zz f_zy f_zt f_za f_zg f_zu f_zae f_zq f_zd f_zs f_zw f_zaf f_zf f_zr f_zv f_zm f_zi f_ze f_zx f_zk f_zc f_zb f_zah f_zh f_zp f_zac f_zn f_zai c_zao c_zap c_zaq c_zar c_zas Td_zp:Addr} (X:K.In h) (G:h.Ns mainGlobals mg) (hfa:mg "law" = some (.ref fa))
  {od_zp an_zp od_zai an_zai td_zp:Option Addr} {sl_zp sl_zai ts_zp:Array (Option Value)}
  {oc_zp kV_zp dc_zp pm_zp cd_zp ct_zp oc_zai kV_zai dc_zai pm_zai cd_zai ct_zai tc_zp:Value}
  {tn_zp:Nat}
  {u_zal u_zaj u_zak u_zam u_zan:Value}
  (a_zao:PySem.W.nsIn K mainGlobals "LeafError" = some (some (.ref c_zao)))
  (a_zap:PySem.W.nsIn K mainGlobals "BadPanel" = some (some (.ref c_zap)))
  (a_zaq:PySem.W.nsIn K mainGlobals "NoChoice" = some (some (.ref c_zaq)))
  (a_zar:PySem.W.nsIn K mainGlobals "BadCond" = some (some (.ref c_zar)))
  (in_zao:PySem.W.findIn K (.ref c_zao) "__init__" = some (some (.builtin "ValueError.__init__")))
  (kp_zao:PySem.W.keepIn K (.ref c_zao)=true)
  (in_zap:PySem.W.findIn K (.ref c_zap) "__init__" = some (some (.builtin "ValueError.__init__")))
  (kp_zap:PySem.W.keepIn K (.ref c_zap)=true)
  (in_zaq:PySem.W.findIn K (.ref c_zaq) "__init__" = some (some (.builtin "ValueError.__init__")))
  (kp_zaq:PySem.W.keepIn K (.ref c_zaq)=true)
  (in_zar:PySem.W.findIn K (.ref c_zar) "__init__" = some (some (.builtin "ValueError.__init__")))
  (kp_zar:PySem.W.keepIn K (.ref c_zar)=true)
  (a_zas:PySem.W.nsIn K mainGlobals "Panel" = some (some (.ref c_zas)))
  (in_zas:PySem.W.findIn K (.ref c_zas) "__init__" = some (some (.ref f_zp)))
  (kp_zas:PySem.W.keepIn K (.ref c_zas)=true)
  (mk_zas:PySem.W.makesIn K c_zas=true)
  (pg_zas:PySem.W.plainGet K c_zas Str.empty=true)
  (hd_zas:PySem.W.hasDictIn K c_zas=true)
  (po_zas:PySem.W.plainOver K c_zas=true)
  (sa_zas:PySem.W.findIn K (.ref c_zas) "__setattr__" = some (some (.builtin "object.__setattr__")))
  (mt_zd:PySem.W.findIn K (.ref c_zas) "all_choices" = some (some (.ref f_zd)))
  (mt_zj:PySem.W.findIn K (.ref c_zas) "allowed" = some (some (.ref f_zj)))
  (mt_zv:PySem.W.findIn K (.ref c_zas) "box" = some (some (.ref f_zv)))
  (mt_zq:PySem.W.findIn K (.ref c_zas) "many" = some (some (.ref f_zq)))
  (mt_zi:PySem.W.findIn K (.ref c_zas) "read_rule" = some (some (.ref f_zi)))
  (mt_ze:PySem.W.findIn K (.ref c_zas) "read_rules" = some (some (.ref f_ze)))
  (mt_zr:PySem.W.findIn K (.ref c_zas) "term" = some (some (.ref f_zr)))
  (q_zj:MetD K "allowed" "Panel.allowed" s_zj f_zj)
  (q_zo:TopD K "_law_cell_at" s_zo f_zo)
  (q_zag:TopD K "_law_mix" J4 f_zag)
  (q_zaa:TopD K "_law_words" Jy f_zaa)
  (q_zl:TopD K "_law_switches" s_zl f_zl)
  (q_zad:TopD K "_law_rows" J1 f_zad)
  (q_zab:TopD K "_law_hits" Jz f_zab)
  (q_zz:TopD K "_law_terms" s_zz f_zz)
  (q_zy:TopD K "_law_rules" s_zy f_zy)
  (q_zt:TopD K "_law_copied" s_zt f_zt)
  (q_za:TopD K "_law_switches_spoilt" s_za f_za)
  (q_zg:TopD K "_law_rules_spoilt" s_zg f_zg)
  (q_zu:TopD K "_law_spoilt" s_zu f_zu)
  (q_zae:TopD K "union_of" J2 f_zae)
  (q_zq:MetD K "many" "Panel.many" s_zq f_zq)
  (q_zd:MetD K "all_choices" "Panel.all_choices" s_zd f_zd)
  (q_zs:TopD K "has_length" s_zs f_zs)
  (q_zw:TopD K "is_letter" s_zw f_zw)
  (q_zaf:TopD K "is_word" J3 f_zaf)
  (q_zf:TopD K "are_unlike_words" s_zf f_zf)
  (q_zr:MetD K "term" "Panel.term" s_zr f_zr)
  (q_zv:MetD K "box" "Panel.box" s_zv f_zv)
  (q_zm:TopD K "copied_rule" s_zm f_zm)
  (q_zi:MetD K "read_rule" "Panel.read_rule" s_zi f_zi)
  (q_ze:MetD K "read_rules" "Panel.read_rules" s_ze f_ze)
  (q_zx:TopD K "is_switch" s_zx f_zx)
  (q_zk:TopD K "read_switches" s_zk f_zk)
  (q_zc:TopD K "settings_of_choices" s_zc f_zc)
  (q_zb:TopD K "numbers_by_settings" s_zb f_zb)
  (q_zah:TopD K "set_of" J5 f_zah)
  (q_zh:TopD K "sets_of_settings" s_zh f_zh)
  (l_zp:K.lookup f_zp=some ⟨oc_zp,od_zp,.func (PySem.W.fnOf "__init__" "Panel.__init__" (Bo s_zp) (Ah s_zp) (Ac s_zp) (.ref Td_zp) kV_zp dc_zp pm_zp an_zp cd_zp ct_zp),sl_zp⟩)
  (c_zp:PySem.W.codeIn K cd_zp "Panel.__init__" = true)
  (k_zp:PySem.W.keepIn K (.ref f_zp)=true)
  (if_zp:PySem.W.isFn K (.ref f_zp)=true)
  (ld_zp:K.lookup Td_zp=some ⟨tc_zp,td_zp,.seq #[.none] tn_zp,ts_zp⟩)
  (q_zac:TopD K "_law_made" J0 f_zac)
  (q_zn:TopD K "_law_allowed" s_zn f_zn)
  (a_zai:PySem.W.nsIn K mainGlobals "law" = some (some (.ref f_zai)))
  (l_zai:K.lookup f_zai=some ⟨oc_zai,od_zai,.func (PySem.W.fnOf "law" "law" (Bo Dy) (Ah Dy) (Ac Dy) .none kV_zai dc_zai pm_zai an_zai cd_zai ct_zai),sl_zai⟩)
  (c_zai:PySem.W.codeIn K cd_zai "law" = true)
  (k_zai:PySem.W.keepIn K (.ref f_zai)=true)
  (x_zao:XC K c_zao (valTail))
  (x_zap:XC K c_zap (.ref c_zao::valTail))
  (x_zaq:XC K c_zaq (.ref c_zao::valTail))
  (x_zar:XC K c_zar (.ref c_zao::valTail))
  (v_zal:PySem.W.nsIn K mainGlobals "MOST_SWITCHES" = some (some u_zal))
  (r_zal:RelV (.int 5) u_zal)
  (v_zaj:PySem.W.nsIn K mainGlobals "LEAST_SETTINGS" = some (some u_zaj))
  (r_zaj:RelV (.int 2) u_zaj)
  (v_zak:PySem.W.nsIn K mainGlobals "MOST_SETTINGS" = some (some u_zak))
  (r_zak:RelV (.int 4) u_zak)
  (v_zam:PySem.W.nsIn K mainGlobals "MOST_CHOICES" = some (some u_zam))
  (r_zam:RelV (.int 256) u_zam)
  (v_zan:PySem.W.nsIn K mainGlobals "MOST_RULES" = some (some u_zan))
  (r_zan:RelV (.int 8) u_zan)
  (z_ValueError:PySem.W.nsIn K mainGlobals "ValueError" = some none)
  (z_all:PySem.W.nsIn K mainGlobals "all" = some none)
  (z_dict:PySem.W.nsIn K mainGlobals "dict" = some none)
  (z_enumerate:PySem.W.nsIn K mainGlobals "enumerate" = some none)
  (z_int:PySem.W.nsIn K mainGlobals "int" = some none)
  (z_isinstance:PySem.W.nsIn K mainGlobals "isinstance" = some none)
  (z_len:PySem.W.nsIn K mainGlobals "len" = some none)
  (z_list:PySem.W.nsIn K mainGlobals "list" = some none)
  (z_range:PySem.W.nsIn K mainGlobals "range" = some none)
  (z_set:PySem.W.nsIn K mainGlobals "set" = some none)
  (z_str:PySem.W.nsIn K mainGlobals "str" = some none)
  (z_tuple:PySem.W.nsIn K mainGlobals "tuple" = some none)
  (na_settings:PySem.W.findIn K (.ref c_zas) "settings" = some none)
  (na_tuples:PySem.W.findIn K (.ref c_zas) "tuples" = some none)
  (na_numbers:PySem.W.findIn K (.ref c_zas) "numbers" = some none)
  (na_sets:PySem.W.findIn K (.ref c_zas) "sets" = some none)
  (na_kept_rules:PySem.W.findIn K (.ref c_zas) "kept_rules" = some none)
  (na_bars:PySem.W.findIn K (.ref c_zas) "bars" = some none)
  (na_free:PySem.W.findIn K (.ref c_zas) "free" = some none)
  (mr_zaq:PySem.W.mroIn K c_zaq (.ref c_zaq)=some true)
  (mr_zar:PySem.W.mroIn K c_zar (.ref c_zar)=some true)
  (mr_zap:PySem.W.mroIn K c_zap (.ref c_zap)=some true)
  (mr_np:PySem.W.mroIn K c_zaq (.ref c_zap)=some false)
  (nd1:[c_zao,c_zap,c_zaq].Nodup)
  (nd2:[c_zao,c_zaq,c_zap].Nodup)
  : ∃ (t:Adr) (fd:FuncData),(∀ (s:Shared) (v:Value),BindsTo s fd ⟨[v],[]⟩ [("_law_script", v)]) /\ ∀ base:Heap,K.In base->base.Ns mainGlobals mg->FnOk l.prog w K mg base CX0 11 fa fd ["_law_script"] (Nh K t):=by
 obtain⟨d_zj,g_zj⟩:=q_zj.ok (ps:=P_zj) fun _ _ _ _ _ _ us hl=>len1 (fun _=>rfl) us hl
 obtain⟨d_zo,g_zo⟩:=q_zo.ok X G (ps:=P_zo) fun _ _ _ _ _ _ us hl=>len2 (fun _ _=>rfl) us hl
 obtain⟨d_zag,g_zag⟩:=q_zag.ok X G (ps:=Nt) fun _ _ _ _ _ _ us hl=>len2 (fun _ _=>rfl) us hl
 obtain⟨d_zaa,g_zaa⟩:=q_zaa.ok X G (ps:=Nl) fun _ _ _ _ _ _ us hl=>len2 (fun _ _=>rfl) us hl
 obtain⟨d_zl,g_zl⟩:=q_zl.ok X G (ps:=P_zl) fun _ _ _ _ _ _ us hl=>len2 (fun _ _=>rfl) us hl
 obtain⟨d_zad,g_zad⟩:=q_zad.ok X G (ps:=Np) fun _ _ _ _ _ _ us hl=>len1 (fun _=>rfl) us hl
 obtain⟨d_zab,g_zab⟩:=q_zab.ok X G (ps:=Nm) fun _ _ _ _ _ _ us hl=>len3 (fun _ _ _=>rfl) us hl
 obtain⟨d_zz,g_zz⟩:=q_zz.ok X G (ps:=P_zz) fun _ _ _ _ _ _ us hl=>len2 (fun _ _=>rfl) us hl
 obtain⟨d_zy,g_zy⟩:=q_zy.ok X G (ps:=P_zy) fun _ _ _ _ _ _ us hl=>len2 (fun _ _=>rfl) us hl
 obtain⟨d_zt,g_zt⟩:=q_zt.ok X G (ps:=P_zt) fun _ _ _ _ _ _ us hl=>len1 (fun _=>rfl) us hl
 obtain⟨d_za,g_za⟩:=q_za.ok X G (ps:=P_za) fun _ _ _ _ _ _ us hl=>len3 (fun _ _ _=>rfl) us hl
 obtain⟨d_zg,g_zg⟩:=q_zg.ok X G (ps:=P_zg) fun _ _ _ _ _ _ us hl=>len4 (fun _ _ _ _=>rfl) us hl
 obtain⟨d_zu,g_zu⟩:=q_zu.ok X G (ps:=P_zu) fun _ _ _ _ _ _ us hl=>len3 (fun _ _ _=>rfl) us hl
 obtain⟨d_zae,g_zae⟩:=q_zae.ok X G (ps:=Nq) fun _ _ _ _ _ _ us hl=>len1 (fun _=>rfl) us hl
 obtain⟨d_zq,g_zq⟩:=q_zq.ok (ps:=P_zq) fun _ _ _ _ _ _ us hl=>len1 (fun _=>rfl) us hl
 obtain⟨d_zd,g_zd⟩:=q_zd.ok (ps:=P_zd) fun _ _ _ _ _ _ us hl=>len1 (fun _=>rfl) us hl
 obtain⟨d_zs,g_zs⟩:=q_zs.ok X G (ps:=P_zs) fun _ _ _ _ _ _ us hl=>len3 (fun _ _ _=>rfl) us hl
 obtain⟨d_zw,g_zw⟩:=q_zw.ok X G (ps:=P_zw) fun _ _ _ _ _ _ us hl=>len1 (fun _=>rfl) us hl
 obtain⟨d_zaf,g_zaf⟩:=q_zaf.ok X G (ps:=Nr) fun _ _ _ _ _ _ us hl=>len1 (fun _=>rfl) us hl
 obtain⟨d_zf,g_zf⟩:=q_zf.ok X G (ps:=P_zf) fun _ _ _ _ _ _ us hl=>len1 (fun _=>rfl) us hl
 obtain⟨d_zr,g_zr⟩:=q_zr.ok (ps:=P_zr) fun _ _ _ _ _ _ us hl=>len3 (fun _ _ _=>rfl) us hl
 obtain⟨d_zv,g_zv⟩:=q_zv.ok (ps:=P_zv) fun _ _ _ _ _ _ us hl=>len2 (fun _ _=>rfl) us hl
 obtain⟨d_zm,g_zm⟩:=q_zm.ok X G (ps:=P_zm) fun _ _ _ _ _ _ us hl=>len1 (fun _=>rfl) us hl
 obtain⟨d_zi,g_zi⟩:=q_zi.ok (ps:=P_zi) fun _ _ _ _ _ _ us hl=>len2 (fun _ _=>rfl) us hl
 obtain⟨d_ze,g_ze⟩:=q_ze.ok (ps:=P_ze) fun _ _ _ _ _ _ us hl=>len2 (fun _ _=>rfl) us hl
 obtain⟨d_zx,g_zx⟩:=q_zx.ok X G (ps:=P_zx) fun _ _ _ _ _ _ us hl=>len1 (fun _=>rfl) us hl
 obtain⟨d_zk,g_zk⟩:=q_zk.ok X G (ps:=P_zk) fun _ _ _ _ _ _ us hl=>len1 (fun _=>rfl) us hl
 obtain⟨d_zc,g_zc⟩:=q_zc.ok X G (ps:=P_zc) fun _ _ _ _ _ _ us hl=>len1 (fun _=>rfl) us hl
 obtain⟨d_zb,g_zb⟩:=q_zb.ok X G (ps:=P_zb) fun _ _ _ _ _ _ us hl=>len1 (fun _=>rfl) us hl
 obtain⟨d_zah,g_zah⟩:=q_zah.ok X G (ps:=Nu) fun _ _ _ _ _ _ us hl=>len1 (fun _=>rfl) us hl
 obtain⟨d_zh,g_zh⟩:=q_zh.ok X G (ps:=P_zh) fun _ _ _ _ _ _ us hl=>len2 (fun _ _=>rfl) us hl
 have F_zp:=Z2 (st:=s_zp) l_zp c_zp k_zp
 have b_zp:∀ j,j<=1->Binds K (PySem.W.fnOf "__init__" "Panel.__init__" (Bo s_zp) (Ah s_zp) (Ac s_zp) (.ref Td_zp) kV_zp dc_zp pm_zp an_zp cd_zp ct_zp) P_zp ([Value.none].drop j):=fun j hj=>by
  match j,hj with
  | 0,_=>exact Hj 2 rfl ld_zp rfl rfl (fun us hl=>len2 (fun _ _=>⟨_,rfl,rfl⟩) us hl)
  | 1,_=>exact Hj 3 rfl ld_zp rfl rfl (fun us hl=>len3 (fun _ _ _=>⟨_,rfl,rfl⟩) us hl)
 obtain⟨d_zac,g_zac⟩:=q_zac.ok X G (ps:=Nn) fun _ _ _ _ _ _ us hl=>len2 (fun _ _=>rfl) us hl
 obtain⟨d_zn,g_zn⟩:=q_zn.ok X G (ps:=P_zn) fun _ _ _ _ _ _ us hl=>len2 (fun _ _=>rfl) us hl
 have F_zai:=Qj (st:=Dy) l_zai c_zai k_zai
 have b_zai:=F_zai.binds (ps:=Nv) fun _ _ _ _ _ _ us hl=>len1 (fun _=>rfl) us hl
 have m:=PySem.W.mg_of X G a_zai
 have e:fa=f_zai:=by
  rw [hfa] at m
  injection m with m
  injection m
 subst e
 have tl_1:∀ {a:Addr},A9 (.ref a::valTail)=true:=fun {a}=>by show A9 valTail=true;decide +kernel
 have AO:ae8 K mg ⟨f_zj,d_zj,f_zo,d_zo,f_zag,d_zag,f_zaa,d_zaa,f_zl,d_zl,f_zad,d_zad,f_zab,d_zab,f_zz,d_zz,f_zy,d_zy,f_zt,d_zt,f_za,d_za,f_zg,d_zg,f_zu,d_zu,f_zae,d_zae,f_zq,d_zq,f_zd,d_zd,f_zs,d_zs,f_zw,d_zw,f_zaf,d_zaf,f_zf,d_zf,f_zr,d_zr,f_zv,d_zv,f_zm,d_zm,f_zi,d_zi,f_ze,d_ze,f_zx,d_zx,f_zk,d_zk,f_zc,d_zc,f_zb,d_zb,f_zah,d_zah,f_zh,d_zh,f_zp,_,f_zac,d_zac,f_zn,d_zn,fa,_,.ref Td_zp,[Value.none],c_zao,c_zap,c_zaq,c_zar,c_zas,u_zal,u_zaj,u_zak,u_zam,u_zan⟩:=⟨g_zj,g_zo,g_zag,g_zaa,g_zl,g_zad,g_zab,g_zz,g_zy,g_zt,g_za,g_zg,g_zu,g_zae,g_zq,g_zd,g_zs,g_zw,g_zaf,g_zf,g_zr,g_zv,g_zm,g_zi,g_ze,g_zx,g_zk,g_zc,g_zb,g_zah,g_zh,F_zp,b_zp,(.cons rfl .nil),if_zp,g_zac,g_zn,F_zai.toD,(fun j _=>by rw [List.drop_nil];exact b_zai),.nil,PySem.W.mg_of X G a_zai,PySem.W.mg_of X G a_zao,kp_zao,x_zao.ecls (by decide +kernel),in_zao,PySem.W.mg_of X G a_zap,kp_zap,x_zap.ecls tl_1,in_zap,PySem.W.mg_of X G a_zaq,kp_zaq,x_zaq.ecls tl_1,in_zaq,PySem.W.mg_of X G a_zar,kp_zar,x_zar.ecls tl_1,in_zar,PySem.W.mg_of X G a_zas,kp_zas,mk_zas,in_zas,⟨pg_zas,hd_zas,po_zas,sa_zas⟩,⟨mt_zd,g_zd.i,g_zd.F.kp⟩,⟨mt_zj,g_zj.i,g_zj.F.kp⟩,⟨mt_zv,g_zv.i,g_zv.F.kp⟩,⟨mt_zq,g_zq.i,g_zq.F.kp⟩,⟨mt_zi,g_zi.i,g_zi.F.kp⟩,⟨mt_ze,g_ze.i,g_ze.F.kp⟩,⟨mt_zr,g_zr.i,g_zr.F.kp⟩,PySem.W.mg_of X G v_zal,r_zal,PySem.W.mg_of X G v_zaj,r_zaj,PySem.W.mg_of X G v_zak,r_zak,PySem.W.mg_of X G v_zam,r_zam,PySem.W.mg_of X G v_zan,r_zan,(fun x hx=>by
   simp only [bl,List.mem_cons,List.not_mem_nil,or_false] at hx
   rcases hx with rfl|rfl|rfl|rfl|rfl|rfl|rfl|rfl|rfl|rfl|rfl|rfl
   all_goals exact PySem.W.mg_none_of X G (by assumption)),⟨⟨⟨pg_zas,hd_zas,po_zas,sa_zas⟩,(fun f hf=>by
  simp only [List.mem_cons,List.not_mem_nil,or_false] at hf
  rcases hf with rfl|rfl|rfl|rfl|rfl|rfl|rfl
  ·exact na_settings
  ·exact na_tuples
  ·exact na_numbers
  ·exact na_sets
  ·exact na_kept_rules
  ·exact na_bars
  ·exact na_free),x_zaq.ecls tl_1,mr_zaq⟩,x_zar.ecls tl_1,mr_zar,x_zap.ecls tl_1,mr_zap,mr_np,(kits nd1 x_zao x_zap x_zaq tl_1).2.2,(kits nd1 x_zao x_zap x_zaq tl_1).1,(kits nd2 x_zao x_zaq x_zap tl_1).1,(kits nd2 x_zao x_zaq x_zap tl_1).2.1⟩⟩
 exact⟨_,PySem.W.fnOf "law" "law" (Bo Dy) (Ah Dy) (Ac Dy) .none kV_zai dc_zai pm_zai an_zai cd_zai ct_zai,fun s v=>.of_eq rfl,fun base _ _=>aj5 AO⟩
def sp0 (K:PySem.W.Frag):Sp:=fun vs H Q _=>∃ (a:Addr) (ns:List Int),vs=[.ref a]/\SqL K H a (ns.map V.int)/\ns.length<=63 /\ ∀ H',Q (.bl true) H'
theorem walk {l:PySem.W.OpenLaw} {q:Program} {loose:List Str} {XP:(Str->Option Value)->Heap->Prop} {YP:World->Heap->Prop} {d:DefRec} {K:Params->PySem.W.Frag} (hn:l.most=some 63) (hdf:d.params.defaults=[])
  (hY:∀ (w:World) (h:Heap),YP w h->(K w.params).In h)
  (F:∀ (w:World) (mg:Str->Option Value) (fa:Addr) (h:Heap),(K w.params).In h->h.Ns mainGlobals mg->mg d.name=some (.ref fa) ->
   ∃ (t:Adr) (fd:FuncData),(∀ (s:Shared) (u:Value),BindsTo s fd ⟨[u],[]⟩ [("_law_script", u)]) /\ ∀ base:Heap,(K w.params).In base->base.Ns mainGlobals mg->FnOk l.prog w (K w.params) mg base CX0 11 fa fd ["_law_script"] (Nh (K w.params) t)) :
  PySem.W.WalkO q loose XP YP l.row.toRowW d [] (fun f vs=>PySem.call f vs):=
 L2.walk_of (n:=63) (k:=11) (x := "_law_script") (CX:=fun _=>CX0) (sp:=fun w=>sp0 (K w.params)) hn (by decide) hdf ⟨rfl,by decide,by decide⟩ hY (fun w mg fa h a b c=>let ⟨t,fd,h1,h2⟩:=F w mg fa h a b c;⟨fd,h1,fun base x y=>(h2 base x y).imp fun vs H Q E ⟨a,ns,e,hS,_,k⟩=>⟨a,ns,e,hS,k⟩⟩) (fun _ _ a ns hl _ hS=>⟨a,ns,rfl,hS,hl,fun _=>rfl⟩) fun _ _ _ _ _ z=>z
end K04
open PySem PySem.W PyProof.Rows
set_option maxRecDepth 100000 in
set_option maxHeartbeats 0 in
theorem PySem.Challenge.cw_manyleaf_k04_no_panels_holds : PySem.Challenge.rw_manyleaf_k04_no_panels.Holds := by
 refine head_k04 ?_
 k_fill
 refine K04.walk (l:=PySem.Challenge.rw_manyleaf_k04_no_panels) rfl rfl (fun w h Y=>PySem.W.kIn_of Y) ?F
 case F=>
  intro w mg fa h KX G hmg
  refine' K04.all_mk KX G hmg ?a_zao ?a_zap ?a_zaq ?a_zar ?in_zao ?kp_zao ?in_zap ?kp_zap ?in_zaq ?kp_zaq ?in_zar ?kp_zar ?a_zas ?in_zas ?kp_zas ?mk_zas ?pg_zas ?hd_zas ?po_zas ?sa_zas ?mt_zd ?mt_zj ?mt_zv ?mt_zq ?mt_zi ?mt_ze ?mt_zr ?q_zj ?q_zo ?q_zag ?q_zaa ?q_zl ?q_zad ?q_zab ?q_zz ?q_zy ?q_zt ?q_za ?q_zg ?q_zu ?q_zae ?q_zq ?q_zd ?q_zs ?q_zw ?q_zaf ?q_zf ?q_zr ?q_zv ?q_zm ?q_zi ?q_ze ?q_zx ?q_zk ?q_zc ?q_zb ?q_zah ?q_zh ?l_zp ?c_zp ?k_zp ?if_zp ?ld_zp ?q_zac ?q_zn ?a_zai ?l_zai ?c_zai ?k_zai ?x_zao ?x_zap ?x_zaq ?x_zar ?v_zal ?r_zal ?v_zaj ?r_zaj ?v_zak ?r_zak ?v_zam ?r_zam ?v_zan ?r_zan ?z_ValueError ?z_all ?z_dict ?z_enumerate ?z_int ?z_isinstance ?z_len ?z_list ?z_range ?z_set ?z_str ?z_tuple ?na_settings ?na_tuples ?na_numbers ?na_sets ?na_kept_rules ?na_bars ?na_free ?mr_zaq ?mr_zar ?mr_zap ?mr_np ?nd1 ?nd2
  (case a_zao=>k_is)
  (case a_zap=>k_is)
  (case a_zaq=>k_is)
  (case a_zar=>k_is)
  (case in_zao=>k_is)
  (case kp_zao=>k_is)
  (case in_zap=>k_is)
  (case kp_zap=>k_is)
  (case in_zaq=>k_is)
  (case kp_zaq=>k_is)
  (case in_zar=>k_is)
  (case kp_zar=>k_is)
  (case a_zas=>k_is)
  (case in_zas=>k_is)
  (case kp_zas=>k_is)
  (case mk_zas=>k_is)
  (case pg_zas=>k_is)
  (case hd_zas=>k_is)
  (case po_zas=>k_is)
  (case sa_zas=>k_is)
  (case mt_zd=>k_is)
  (case mt_zj=>k_is)
  (case mt_zv=>k_is)
  (case mt_zq=>k_is)
  (case mt_zi=>k_is)
  (case mt_ze=>k_is)
  (case mt_zr=>k_is)
  (case q_zj=>refine' L2.met_mk ?l ?c ?k ?i;(case l=>k_is);(case c=>k_is);(case k=>k_is);(case i=>k_is))
  (case q_zo=>refine' L2.top_mk ?a ?l ?c ?k;(case a=>k_is);(case l=>k_is);(case c=>k_is);(case k=>k_is))
  (case q_zag=>refine' L2.top_mk ?a ?l ?c ?k;(case a=>k_is);(case l=>k_is);(case c=>k_is);(case k=>k_is))
  (case q_zaa=>refine' L2.top_mk ?a ?l ?c ?k;(case a=>k_is);(case l=>k_is);(case c=>k_is);(case k=>k_is))
  (case q_zl=>refine' L2.top_mk ?a ?l ?c ?k;(case a=>k_is);(case l=>k_is);(case c=>k_is);(case k=>k_is))
  (case q_zad=>refine' L2.top_mk ?a ?l ?c ?k;(case a=>k_is);(case l=>k_is);(case c=>k_is);(case k=>k_is))
  (case q_zab=>refine' L2.top_mk ?a ?l ?c ?k;(case a=>k_is);(case l=>k_is);(case c=>k_is);(case k=>k_is))
  (case q_zz=>refine' L2.top_mk ?a ?l ?c ?k;(case a=>k_is);(case l=>k_is);(case c=>k_is);(case k=>k_is))
  (case q_zy=>refine' L2.top_mk ?a ?l ?c ?k;(case a=>k_is);(case l=>k_is);(case c=>k_is);(case k=>k_is))
  (case q_zt=>refine' L2.top_mk ?a ?l ?c ?k;(case a=>k_is);(case l=>k_is);(case c=>k_is);(case k=>k_is))
  (case q_za=>refine' L2.top_mk ?a ?l ?c ?k;(case a=>k_is);(case l=>k_is);(case c=>k_is);(case k=>k_is))
  (case q_zg=>refine' L2.top_mk ?a ?l ?c ?k;(case a=>k_is);(case l=>k_is);(case c=>k_is);(case k=>k_is))
  (case q_zu=>refine' L2.top_mk ?a ?l ?c ?k;(case a=>k_is);(case l=>k_is);(case c=>k_is);(case k=>k_is))
  (case q_zae=>refine' L2.top_mk ?a ?l ?c ?k;(case a=>k_is);(case l=>k_is);(case c=>k_is);(case k=>k_is))
  (case q_zq=>refine' L2.met_mk ?l ?c ?k ?i;(case l=>k_is);(case c=>k_is);(case k=>k_is);(case i=>k_is))
  (case q_zd=>refine' L2.met_mk ?l ?c ?k ?i;(case l=>k_is);(case c=>k_is);(case k=>k_is);(case i=>k_is))
  (case q_zs=>refine' L2.top_mk ?a ?l ?c ?k;(case a=>k_is);(case l=>k_is);(case c=>k_is);(case k=>k_is))
  (case q_zw=>refine' L2.top_mk ?a ?l ?c ?k;(case a=>k_is);(case l=>k_is);(case c=>k_is);(case k=>k_is))
  (case q_zaf=>refine' L2.top_mk ?a ?l ?c ?k;(case a=>k_is);(case l=>k_is);(case c=>k_is);(case k=>k_is))
  (case q_zf=>refine' L2.top_mk ?a ?l ?c ?k;(case a=>k_is);(case l=>k_is);(case c=>k_is);(case k=>k_is))
  (case q_zr=>refine' L2.met_mk ?l ?c ?k ?i;(case l=>k_is);(case c=>k_is);(case k=>k_is);(case i=>k_is))
  (case q_zv=>refine' L2.met_mk ?l ?c ?k ?i;(case l=>k_is);(case c=>k_is);(case k=>k_is);(case i=>k_is))
  (case q_zm=>refine' L2.top_mk ?a ?l ?c ?k;(case a=>k_is);(case l=>k_is);(case c=>k_is);(case k=>k_is))
  (case q_zi=>refine' L2.met_mk ?l ?c ?k ?i;(case l=>k_is);(case c=>k_is);(case k=>k_is);(case i=>k_is))
  (case q_ze=>refine' L2.met_mk ?l ?c ?k ?i;(case l=>k_is);(case c=>k_is);(case k=>k_is);(case i=>k_is))
  (case q_zx=>refine' L2.top_mk ?a ?l ?c ?k;(case a=>k_is);(case l=>k_is);(case c=>k_is);(case k=>k_is))
  (case q_zk=>refine' L2.top_mk ?a ?l ?c ?k;(case a=>k_is);(case l=>k_is);(case c=>k_is);(case k=>k_is))
  (case q_zc=>refine' L2.top_mk ?a ?l ?c ?k;(case a=>k_is);(case l=>k_is);(case c=>k_is);(case k=>k_is))
  (case q_zb=>refine' L2.top_mk ?a ?l ?c ?k;(case a=>k_is);(case l=>k_is);(case c=>k_is);(case k=>k_is))
  (case q_zah=>refine' L2.top_mk ?a ?l ?c ?k;(case a=>k_is);(case l=>k_is);(case c=>k_is);(case k=>k_is))
  (case q_zh=>refine' L2.top_mk ?a ?l ?c ?k;(case a=>k_is);(case l=>k_is);(case c=>k_is);(case k=>k_is))
  (case l_zp=>k_is)
  (case c_zp=>k_is)
  (case k_zp=>k_is)
  (case if_zp=>k_is)
  (case ld_zp=>k_is)
  (case q_zac=>refine' L2.top_mk ?a ?l ?c ?k;(case a=>k_is);(case l=>k_is);(case c=>k_is);(case k=>k_is))
  (case q_zn=>refine' L2.top_mk ?a ?l ?c ?k;(case a=>k_is);(case l=>k_is);(case c=>k_is);(case k=>k_is))
  (case a_zai=>k_is)
  (case l_zai=>k_is)
  (case c_zai=>k_is)
  (case k_zai=>k_is)
  (case x_zao=>(refine' L2.xc_mk ?l ?y ?s ?g ?t ?c ?n ?k;(case l=>k_is);(case y=>k_is);(case s=>k_is);(case g=>k_is);(case t=>k_is);(case c=>k_is);(case n=>k_is);(case k=>k_is)))
  (case x_zap=>(refine' L2.xc_mk ?l ?y ?s ?g ?t ?c ?n ?k;(case l=>k_is);(case y=>k_is);(case s=>k_is);(case g=>k_is);(case t=>k_is);(case c=>k_is);(case n=>k_is);(case k=>k_is)))
  (case x_zaq=>(refine' L2.xc_mk ?l ?y ?s ?g ?t ?c ?n ?k;(case l=>k_is);(case y=>k_is);(case s=>k_is);(case g=>k_is);(case t=>k_is);(case c=>k_is);(case n=>k_is);(case k=>k_is)))
  (case x_zar=>(refine' L2.xc_mk ?l ?y ?s ?g ?t ?c ?n ?k;(case l=>k_is);(case y=>k_is);(case s=>k_is);(case g=>k_is);(case t=>k_is);(case c=>k_is);(case n=>k_is);(case k=>k_is)))
  (case v_zal=>k_is)
  (case r_zal=>exact⟨_,rfl⟩)
  (case v_zaj=>k_is)
  (case r_zaj=>exact⟨_,rfl⟩)
  (case v_zak=>k_is)
  (case r_zak=>exact⟨_,rfl⟩)
  (case v_zam=>k_is)
  (case r_zam=>exact⟨_,rfl⟩)
  (case v_zan=>k_is)
  (case r_zan=>exact⟨_,rfl⟩)
  (case z_ValueError=>k_is)
  (case z_all=>k_is)
  (case z_dict=>k_is)
  (case z_enumerate=>k_is)
  (case z_int=>k_is)
  (case z_isinstance=>k_is)
  (case z_len=>k_is)
  (case z_list=>k_is)
  (case z_range=>k_is)
  (case z_set=>k_is)
  (case z_str=>k_is)
  (case z_tuple=>k_is)
  (case na_settings=>k_is)
  (case na_tuples=>k_is)
  (case na_numbers=>k_is)
  (case na_sets=>k_is)
  (case na_kept_rules=>k_is)
  (case na_bars=>k_is)
  (case na_free=>k_is)
  (case mr_zaq=>k_is)
  (case mr_zar=>k_is)
  (case mr_zap=>k_is)
  (case mr_np=>k_is)
  (case nd1=>decide)
  (case nd2=>decide)
#print axioms PySem.Challenge.cw_manyleaf_k04_no_panels_holds
